import PyProof.Rows.All
import Wide.All
import OpenK.AllK
import PySem.Challenge.RW_weather_k42_whole_marks_walked
set_option compiler.extract_closed false
set_option bootstrap.genMatcherCode false
set_option linter.all false
def ae:=@PySem.wpAny_bind
def af:=@Nat.le_refl
def ag:=@List.length_append
def ah:=@PySem.wpAny_pure
def ai:=@PySem.Heap.get?_push_of_some
def aj:=@List.length_map
def ao:=@List.getElem?_set_ne
def aq:=@if_pos
def ar:=@Nat.le_of_ble_eq_true
def au:=@List.length_cons
def av:=@Bool.false_ne_true
def aw:=@List.getElem?_append_left
def ax:=@List.getElem?_eq_getElem
def ay:=@Option.map_eq_some_iff
def az:=@List.getElem?_eq_some_iff
def aA:=@if_neg
def aB:=@List.getElem?_set_self
def aC:=@List.getElem?_map
def aD:=@List.map_cons
def aE:=@Nat.lt_of_lt_of_le
def aF:=@Array.length_toList
def aG:=@decide_eq_false
def aH:=@List.mem_map
def aI:=@List.mem_cons
def aJ:=@PySem.Heap.get?_push_size
def aK:=@List.getElem?_append_right
def aL:=@Option.bind_eq_some_iff
def aM:=@PySem.Heap.lt_size
def aN:=@List.length_set
def aO:=@Array.getElem?_eq_getElem
def aP:=@List.size_toArray
def aQ:=@List.mem_singleton
def aR:=@decide_eq_true
def aS:=@Bool.and_eq_true
def aT:=@List.append_assoc
def aU:=@List.append_nil
def aV:=@Nat.ne_of_lt
def aW:=@Nat.le_trans
def aX:=@PySem.wpAny_ite_split
def aY:=@List.mem_append
def aZ:=@List.mem_filterMap
def a9:=@List.mem_of_getElem?
def bc:=@PySem.wpAny_newObj_type
def bf:=@PySem.Heap.get?_update_self
def bg:=@Array.getElem?_toList
def bh:=@List.map_map
def bj:=@List.map_append
def bo:=@List.mem_cons_of_mem
def bp:=@Int.eq_ofNat_of_zero_le
def bq:=@List.mem_append_right
def br:=@PySem.wpAny_mono
def bu:=@PySem.Obj.data_mapFields
def bw:=@Array.getElem?_eq_some_iff
def bx:=@decide_eq_true_eq
def bz:=@PySem.mem_of_lookup
def bA:=@List.nodup_cons
def bB:=@Nat.lt_succ_self
def bC:=@Int.toNat_natCast
def bD:=@PySem.Heap.SameBut.update
def bE:=@PySem.wpAny_call_entry
def bF:=@List.mem_filter
def bG:=@congrArg
def bH:=@PySem.wpAny_holding
def bI:=@Nat.zero_le
def bJ:=@PySem.Heap.get?_update_other
def bK:=@Ne.symm
def bL:=@List.getElem_of_mem
def bM:=@List.getElem?_replicate
def bN:=@List.getD_eq_getElem?_getD
def bO:=@PySem.wpAny_setState_of
def bP:=@PySem.Obj.isFreed_of_fields
def bQ:=@Nat.lt_succ_of_lt
def bR:=@PySem.wpAny_callSpecial?_slot
def bS:=@List.mem_range
def bT:=@List.mem_cons_self
def bU:=@List.getElem_mem
def bV:=@List.drop_eq_getElem_cons
def bW:=@Classical.byContradiction
def bX:=@List.any_eq_false
def bY:=@List.length_singleton
def bZ:=@PySem.wpAny_setField
def b7:=@Nat.lt_of_le_of_lt
def b8:=@List.mem_append_left
def b9:=@List.all_eq_true
def cb:=@PySem.Around.under_plainId
def cc:=@List.filter_cons_of_pos
def cf:=@List.filter_cons_of_neg
def cg:=@PySem.Heap.size_push
def cj:=@if_false
def ck:=@PySem.Calls.callWith_builtin
def cm:=@List.drop_eq_nil_of_le
def cq:=@PySem.codeAny_builtin
def cx:=@Bool.or_eq_true
def cy:=@List.length_nil
def cz:=@List.nil_append
def cB:=@Array.getElem?_setIfInBounds_ne
def cD:=@PySem.F.slot_dict_get
def cF:=@PySem.Calls.spliced_cons
def cG:=@PySem.wpAny_Call_Name_kw
def cH:=@List.not_mem_nil
def cI:=@Bool.false_eq_true
def cJ:=@PySem.tupleKind_room_in1
def cK:=@Nat.le_add_right
def cL:=@Nat.lt_irrefl
def cM:=@List.length_filterMap_le
def cN:=@Nat.le_succ
def cO:=@Int.mul_pos
def cP:=@PySem.wpAny_truthy_bool
def cQ:=@of_decide_eq_true
def cR:=@List.find?_cons
def cS:=@Nat.not_lt_zero
def cT:=@beq_eq_false_iff_ne
def cU:=@PyProof.Rows.F.plain_set_update_loop
def cV:=@Array.getElem?_eq_none
def cW:=@Int.ne_of_gt
def cX:=@List.length_take
def cY:=@List.length_drop
def cZ:=@Int.eq_of_mul_eq_mul_right
def c0:=@Int.emod_lt_of_pos
def c7:=@List.length_replicate
def c8:=@PySem.wpAny_passesOwn
def c9:=@Int.mul_ne_zero
def da:=@Int.emod_nonneg
def dc:=@PySem.sizeLine_eq
def df:=@if_true
def dg:=@List.map_nil
def dh:=@Nat.pow_succ
def di:=@PySem.wpAny_setEntries_of
def dj:=@List.map_congr_left
def dm:=@PyProof.Rows.callWith_builtin1
def dq:=@PySem.wpAny_getItem_str_slice
def dr:=@PySem.F.plainAttrs_dict
def du:=@PySem.F.plainAttrs_list
def dw:=@PySem.wpAny_typeNameOfWhole_keyiter
def dB:=@PySem.wpAny_typeNameOfWhole_valiter
def dD:=@Nat.le_of_lt
def dE:=@Nat.ne_of_gt
def dF:=@of_decide_eq_false
def dG:=@List.pairwise_cons
def dH:=@PySem.F.entry_dict_get
def dI:=@PyProof.Rows.callWith_type1
def dJ:=@PySem.Calls.spliced_nil
def dM:=@PySem.Obj.cls_mapFields
def dN:=@PySem.F.typeOf_object_class
def dO:=@PySem.wpAny_loadPart_at
def dP:=@beq_iff_eq
def dQ:=@PySem.wpAny_field
def dR:=@PySem.Calls.evalArgs_plain
def dS:=@Array.perm_iff_toList_perm
def dU:=@Int.natAbs_mul
def dW:=@PySem.wpAny_typeOf
def dX:=@Nat.succ_pos
def dY:=@List.filterMap_cons
def dZ:=@PySem.Heap.get?_update_ne
def d5:=@PySem.F.slot_dict_valueiterator_next
def d8:=@PyProof.Rows.F.entry_set_update_loop
def d9:=@Option.isSome_iff_exists
def ec:=@List.any_cons
def ee:=@PySem.plainId_quiet
def ez:=@List.Pairwise.imp_of_mem
def eA:=@List.foldl_cons
def eC:=@PySem.F.slot_dict_keyiterator_next
def eD:=@Nat.mod_lt
def eE:=@decide_eq_false_iff_not
def eF:=@List.pairwise_singleton
def eH:=@List.getElem?_cons_succ
def eI:=@PySem.codeAny_mono
def eJ:=@PySem.F.slot_list_append
def eK:=@Bool.not_eq_true'
def eM:=@Nat.lt_trans
def eN:=@PySem.call_meetsIn
def eP:=@decide_false
def eQ:=@Nat.sub_self
def eR:=@PySem.wpAny_pyIter_slot
def eS:=@PySem.wpAny_fieldsOf
def eU:=@Nat.lt_trichotomy
def eV:=@List.take_of_length_le
def eX:=@List.pairwise_lt_range
def eY:=@List.nodup_append
def eZ:=@PySem.wpAny_storeSet_of
def fh:=@PySem.wpAny_seqItems
def fj:=@Nat.Coprime.dvd_of_dvd_mul_right
def fm:=@List.length_range
def fq:=@List.take_succ_eq_append_getElem
def fw:=@Int.le_of_lt
def fx:=@Nat.lt_of_succ_lt_succ
def fy:=@PyProof.Rows.slot_tuple_getitem
def fA:=@PySem.wpAny_notOrdered_dict
def fC:=@PySem.wpAny_isOneOf_valiter
def fD:=@List.Pairwise.sublist
def fE:=@PySem.builtinLookup_eq_fast
def fF:=@List.length_filter_le
def fG:=@List.set_append_right
def fH:=@PySem.wpAny_isInstance
def fI:=@PySem.putSet_of
def fJ:=@PySem.wpAny_standAt
def fK:=@PySem.wpAny_attempt
def fL:=@PySem.codeAny_call_builtin
def fM:=@PySem.F.slot_dict_values_iter
def fN:=@PySem.wpAny_execs_nil
def fP:=@Bool.eq_iff_iff
def fQ:=@PySem.post_val_or_str
def fR:=@PySem.F.slot_dict_setdefault
def fS:=@List.toList_toArray
def fT:=@Array.getD_eq_getD_getElem?
def fU:=@Nat.lt_or_ge
def fV:=@PySem.W.kia_one
def fX:=@PySem.Calls.Name_function_global
def fY:=@PyProof.Rows.assignInOrder_cons
def fZ:=@or_false
def f3:=@List.contains_cons
def f5:=@Int.fdiv_eq_ediv_of_nonneg
def f6:=@List.zip_cons_cons
def f7:=@Option.ne_none_iff_exists'
def f9:=@List.pairwise_iff_getElem
def gf:=@PySem.wpAny_pyIter_list
def gg:=@PySem.wpAny_Call_method
def gh:=@PySem.wpAny_dictEntries
def gj:=@List.Pairwise.map
def gk:=@List.foldl_append
def gm:=@List.flatMap_cons
def gp:=@List.pairwise_map
def gq:=@PySem.F.slot_list_extend
def gs:=@Nat.mul_assoc
def gu:=@List.filterMap_cons_some
def gw:=@PySem.F.slot_dict_values
def gx:=@Int.mul_assoc
def gy:=@PySem.F.type_list_append
def gz:=@beq_self_eq_true
def gD:=@PySem.Heap.size_update
def gE:=@Array.toList_inj
def gF:=@List.ext_getElem
def gG:=@PySem.F.args_dict_get_2
def gH:=@PySem.F.args_dict_get_3
def gI:=@List.lookup_cons
def gJ:=@PySem.wpAny_askSetting
def gK:=@List.length_eq_zero_iff
def gL:=@PySem.F.plain_list_iadd
def gM:=@PySem.wpAny_forIn_list
def gP:=@PySem.Around.in1_units
def gQ:=@List.take_length
def gR:=@List.any_eq_true
def gS:=@PySem.wpAny_rule
def gU:=@PySem.Txt.slice_le
def gX:=@PySem.F.slot_dict_iter
def gY:=@Nat.not_lt
def gZ:=@Nat.mul_comm
def g7:=@Nat.le_mul_of_pos_left
def g8:=@List.of_mem_zip
def g9:=@PySem.wpAny_specialOf
def hA:=@PySem.wpAny_dictEpoch
def hD:=@PySem.typeLookup_type
def hI:=@PySem.F.type_dict_get
def hK:=@PySem.F.plain_set_new
def hU:=@PySem.F.slot_set_iter
def hY:=@List.singleton_append
def hZ:=@Int.natAbs_dvd_natAbs
def h8:=@PySem.wpAny_bindName
def ia:=@Array.mem_toList_iff
def ib:=@Array.getElem_toList
def ic:=@Array.toArray_toList
def ie:=@Bool.or_eq_false_iff
def ig:=@PySem.wpAny_of_eq
def ik:=@PySem.isSubtype_stop
def il:=@Array.toList_extract
def ip:=@List.pairwise_append
def iq:=@PySem.isSubtype_type
def ir:=@List.length_eraseIdx
def iu:=@List.perm_cons_erase
def iw:=@Bool.and_false
def ix:=@Nat.mul_add
def iy:=@Nat.add_mul
def iz:=@Nat.pow_le_pow_right
def iA:=@decide_true
def iC:=@Int.natAbs_of_nonneg
def iD:=@Int.mul_lt_mul_right
def iE:=@List.set_comm
def iF:=@Nat.le_of_eq
def iG:=@Int.mul_comm
def iH:=@List.any_map
def iI:=@Nat.mul_one
def iJ:=@Int.le_refl
abbrev iT:=PySem.Value
abbrev iR:=PySem.Addr
abbrev i7:=PySem.Shared
abbrev lr:=PySem.SetTable
abbrev jb:=PySem.Heap
abbrev jE:=PySem.Program
abbrev jY:=PySem.Around
abbrev jz:=PySem.World
abbrev jf:=PySem.Expr
abbrev jZ:=@Array
abbrev i0:=@Option
abbrev iS:=PySem.Str
abbrev i6:=Bool
abbrev aa:=@List
abbrev lj:=PySem.Obj
abbrev m8:=PySem.FuncData
abbrev zy:aa PySem.Str:=["_law_stream","_law_words"]
abbrev j0:=PySem.Value->PySem.Shared->Prop
abbrev km:=PySem.Str->i0 PySem.Value
abbrev vg:Nat:=10000000000000000000000000000000000000000000000000000000000000000000000000000000000000000000000000000000000000000000000000000000000000000000000000000000000000000000000000000000000000000000000000000000000000000000000000000000000000000000000000000000000000000000000000000000000000000000000000000000000000000000000000000000000000000000000000000000000000000000000000000000000000000000000000000000000000000
noncomputable section
set_option hygiene false in
open Lean in
def mR0(s:String):MacroM (TSyntax `tactic):=do let l:=(s.splitOn "|").toArray.map fun x=>mkIdent x.toName;`(tactic|first $[|exact $l:ident]*)
set_option hygiene false in
open Lean in
def mR5(s:String):MacroM (TSyntax `term):=do `(by $(← mR0 s):tactic)
set_option hygiene false in
open Lean in
def mR1:String→MacroM (TSyntax `term)|"?"=>`(?_)|"_"=>`(_)|"#0"=>`(‹_›)|"#1"=>`((by decide))|"#2"=>`((Nat.add_assoc _ _ _).symm)|"#3"=>`((by walk_at "h"))|"#4"=>mR5 "vL|VT"|"#5"=>do `(by with_reducible $(← mR0 "Bz|By|Bv|yK|BB|Bx|Bw|BA"):tactic)|"#6"=>`((fun _ _ _ _=>?_))|s=>pure (mkIdent s.toName)
open Lean in
def mR4(s:String):MacroM (TSyntax `term):=do let l←(s.splitOn " ").foldlM (fun st x=>if x.startsWith "@" then pure (Syntax.mkApp (st.drop x.length).head! (st.take x.length).reverse.toArray::st.drop (x.length+1)) else (·::st)<$>mR1 x) [];pure l.head!
set_option hygiene false in
open Lean in
def mR2(s:String):MacroM (TSyntax `tactic):=do let l←(s.splitOn "|").toArray.mapM mR4;`(tactic|first $[|refine $l:term]*)
set_option hygiene false in
open Lean in
def mR3(s:String):MacroM (TSyntax `tactic):=do let p:=s.splitOn ":";let h:=p.head!;let t←mR2 p.getLast!;if h=="" then pure t else if h=="w" then `(tactic|with_reducible $t:tactic) else (do `(tactic|(show $(← mR4 h);$t:tactic)))
set_option hygiene false in
local macro_rules|`(tactic|walk_at "l")=>do let t←mR2 "Nat.le_of_lt #0 @|Nat.le_trans #0 #0 @@|Nat.lt_of_le_of_lt #0 #0 @@|Nat.le_succ_of_le #0 @|Nat.lt_succ_of_le #0 @|Nat.le_of_lt_succ #0 @|Nat.lt_succ_self _ @|Int.le_trans #0 #0 @@|Int.lt_of_le_of_lt #0 #0 @@|Int.le_of_lt #0 @|Nat.ne_of_lt #0 @|Nat.ne_of_gt #0 @|Nat.not_le.mp #0 @|Int.not_lt.mp #0 @|Nat.le_of_eq #0 @|Nat.le_trans Nat.le_add_right _ _ @@ #0 @@|Nat.le_trans #0 #1 @@|Nat.lt_of_le_of_lt #0 #1 @@|Int.le_trans #0 #1 @@|Nat.sub_lt #0 #1 @@|#2";`(tactic|first|assumption|$t:tactic)
def bZ0(_:True:=by rfl):=0
def aZ0:Lean.Syntax:=bZ0._auto_1
def bZ1(_:True:=by decide):=0
def aZ1:Lean.Syntax:=bZ1._auto_1
def bZ2(_:True:=by intro _;rfl):=0
def aZ2:Lean.Syntax:=bZ2._auto_1
def bZ3(_:True:=by k_is):=0
def aZ3:Lean.Syntax:=bZ3._auto_1
def bZ4(_:True:=by first|exact Or.inl rfl|exact Or.inr (Or.inl rfl)|exact Or.inr (Or.inr rfl)):=0
def aZ4:Lean.Syntax:=bZ4._auto_1
def bZ5(_:True:=by first|exact .inl rfl|exact .inr rfl|assumption):=0
def aZ5:Lean.Syntax:=bZ5._auto_1
def bZ6(_:True:=by first|exact uv _|with_unfolding_all rfl):=0
def aZ6:Lean.Syntax:=bZ6._auto_1
def bZ7(_:True:=by exact λ_ _=>rfl):=0
def aZ7:Lean.Syntax:=bZ7._auto_1
def bZ8(_:True:=by kernel_rfl):=0
def aZ8:Lean.Syntax:=bZ8._auto_1
def bZ9(_:True:=by intro _ _ _ _ _ _ _;kernel_rfl):=0
def aZ9:Lean.Syntax:=bZ9._auto_1
def bZ10(_:True:=by first|exact .nil|exact .cons rfl (.inl rfl) rfl .nil|exact .cons rfl (.inl rfl) rfl (.cons rfl (.inl rfl) rfl .nil)|exact .cons rfl (.inl rfl) rfl (.cons rfl (.inl rfl) rfl<|.cons rfl (.inl rfl) rfl .nil)|exact .cons rfl (.inl rfl) rfl (.cons rfl (.inl rfl) rfl<|.cons rfl (.inl rfl) rfl<|.cons rfl (.inl rfl) rfl<|.cons rfl (.inl rfl) rfl .nil)):=0
def aZ10:Lean.Syntax:=bZ10._auto_1
def bZ11(_:True:=by decide+kernel):=0
def aZ11:Lean.Syntax:=bZ11._auto_1
def bZ12(_:True:=by first|decide|omega|(simp only[Nat.add_eq];omega)):=0
def aZ12:Lean.Syntax:=bZ12._auto_1
set_option Elab.async false
set_option maxRecDepth 100000
namespace L2
open PySem PySem.Spec PyProof.Rows
abbrev Key:=Sum Int iS
def qb:Key->iT->i6
 |.inl k,v=>Value.isInt k v
 |.inr x,v=>Value.isStrOf x v
def Sa(w:jz):Key->Int
 |.inl k=>hashInt k
 |.inr x=>hashStr w x
def rH:∀{k} {v},qb k v=true->(∃i t,k=Sum.inl i/\v=Value.int i t)\/(∃x t,k=Sum.inr x/\v=Value.str x t)
 |.inl i,v,h=>by obtain⟨t,e⟩:=Value.isInt_shape (k:=i) (v:=v) h;exact .inl ⟨i,t,rfl,e⟩
 |.inr x,v,h=>by obtain⟨t,e⟩:=Value.isStrOf_shape (x:=x) (v:=v) h;exact .inr ⟨x,t,rfl,e⟩
def Sb(i)(t):qb (.inl i) (.int i t)=true:=by simp[qb,Value.isInt]
def Sd(x t):qb (.inr x) (.str x t)=true:=by simp[qb,Value.isStrOf]
def Sh(a b):decide ((Sum.inl a:Key)=Sum.inl b)=(a==b):=by
 by_cases e:a=b;.subst e;simp
 .have h:¬(Sum.inl a:Key)=Sum.inl b:=λq=>e (Sum.inl.inj q);rw[aG h];exact(cT.mpr e).symm
def Sk(a b):decide ((Sum.inr a:Key)=Sum.inr b)=decide (a=b):=by
 by_cases e:a=b;.subst e;simp
 .have h:¬(Sum.inr a:Key)=Sum.inr b:=λq=>e (Sum.inr.inj q);rw[aG h,aG e]
def Si(a)(b):decide ((Sum.inl a:Key)=Sum.inr b)=false:=aG (λq=>nomatch q)
def Sj(a)(b):decide ((Sum.inr a:Key)=Sum.inl b)=false:=aG (λq=>nomatch q)
def jP(c:jE)(w:jz):PySem.KeyKind c w Key where
 is:=qb
 hash:=Sa w
 inj:=λv a b g d=>by
  rcases rH g with⟨i,t,rfl,rfl⟩|⟨x,t,rfl,rfl⟩
  .rcases rH d with⟨j,u,rfl,e⟩|⟨y,u,rfl,e⟩;.injection e with e1 _;rw[e1]
   .exact nomatch e
  .rcases rH d with⟨j,u,rfl,e⟩|⟨y,u,rfl,e⟩;.exact nomatch e
   .injection e with e1 _;rw[e1]
 byValue:=λk v h=>by rcases rH h with⟨i,t,rfl,rfl⟩|⟨x,t,rfl,rfl⟩<;>rfl
 pyHash:=λhv h=>by
  rcases rH hv with⟨i,t,rfl,rfl⟩|⟨x,t,rfl,rfl⟩;.exact wpAny_pyHash_int h
  .exact wpAny_pyHash_str h
 eqBool:=λf hv h=>by
  rcases rH f with⟨i,t,rfl,rfl⟩|⟨x,t,rfl,rfl⟩
  .rcases rH hv with⟨j,u,rfl,rfl⟩|⟨y,u,rfl,rfl⟩;.rw[Sh]at h;exact wpAny_eqBool_int h
   .rw[Si]at h;exact SeqAt.EqAt.int_str i t y u _ _ _ _ h
  .rcases rH hv with⟨j,u,rfl,rfl⟩|⟨y,u,rfl,rfl⟩;.rw[Sj]at h;exact SeqAt.EqAt.str_int x t j u _ _ _ _ h
   .rw[Sk]at h;exact wpAny_eqBool_str h
 «strs»:=λk x t v h=>by
  rcases rH h with⟨i,u,rfl,e⟩|⟨y,u,rfl,e⟩;.exact nomatch e
  .injection e with e1 _;subst e1;cases v<;>rfl
def T8(prog w)(i)(t):(jP prog w).is (.inl i) (.int i t)=true:=Sb i t
def T9(prog w x t):(jP prog w).is (.inr x) (.str x t)=true:=Sd x t
inductive V where
 |non|bl(b:Bool)|int(i:Int)|str(x:Str)|ou(b:Array UInt8)|flt(b:UInt64)|ref(a:Addr)|ty(n:String)
 deriving DecidableEq
def RelV:V->iT->Prop
 |.non,u=>u=Value.none
 |.bl b,u=>u=Value.bool b
 |.int i,u=>∃t,u=Value.int i t
 |.str x,u=>∃t,u=Value.str x t
 |.ou b,u=>∃t,u=Value.bytes b t
 |.flt b,u=>∃t,u=Value.float b t
 |.ref a,u=>u=Value.ref a
 |.ty n,u=>u=Value.type n
abbrev Vals:aa V->aa iT->Prop:=Paired RelV
abbrev _root_.kn:=aa iT
def Vals.length{a:aa V}{b:kn}(r:Vals a b):a.length=b.length:=Paired.length r
theorem Vals.get:∀{a:aa V} {b:kn} {i:Nat} {x:V},Vals a b->a[i]?=some x->∃u,b[i]?=some u/\RelV x u
 |_,_,_,_,.nil,e=>by simp at e
 |_,_,0,_,.cons r _,e=>by simp at e;subst e;exact⟨_,rfl,r⟩
 |_,_,i+1,x,.cons _ t,e=>by obtain⟨u,d,c⟩:=Vals.get (i:=i) (x:=x) t (by simpa using e);exact⟨u,by simpa using d,c⟩
theorem Vals.set(r:RelV x u):∀{a} {b} i,Vals a b->Vals (a.set i x) (b.set i u)
 |_,_,_,.nil=>.nil
 |_,_,0,.cons _ t=>.cons r t
 |_,_,i+1,.cons q t=>.cons q (Vals.set r i t)
theorem Vals.append:∀{b a} {d c},Vals b d->Vals a c->Vals (b++a) (d++c)
 |_,_,_,_,.nil,s=>s
 |_,_,_,_,.cons r t,s=>.cons r (Vals.append t s)
theorem Vals.take:∀{a} {b} n,Vals a b->Vals (a.take n) (b.take n)
 |_,_,0,_=>.nil
 |_,_,_+1,.nil=>.nil
 |_,_,n+1,.cons r t=>.cons r (Vals.take n t)
theorem Vals.drop:∀{a} {b} n,Vals a b->Vals (a.drop n) (b.drop n)
 |_,_,0,r=>r
 |_,_,_+1,.nil=>.nil
 |_,_,n+1,.cons _ t=>Vals.drop n t
def mU:i0 V->i0 iT->Prop
 |some v,some u=>RelV v u
 |none,none=>True
 |_,_=>False
def KV{a:Type}:aa (a×V)->aa (a×iT)->Prop:=Paired λ(p:a×V) (q:a×iT)=>p.1=q.1/\RelV p.2 q.2
def kV:Key->V
 |.inl i=>.int i
 |.inr x=>.str x
inductive HO where
  /-- a list -/
 |lst(xs:List V)
  /-- a tuple (never changes) -/
 |tup(xs:List V)
  /-- a dict whose keys are ints and texts; one whose keys are tuples of ints and texts (the empty one is both) -/
 |dK(kvs:List<|Key×V)|dT(kvs:List<|List Key×V)
  /-- a set of ints: its members, its size -/
 |set(S:Int->Bool)(n:Nat)
  /-- an instance of the class at C, its dict at dx, its attributes -/
 |ins(C dx:Addr)(fs:List<|Str×V)
  /-- the dict of the instance at x -/
 |own(x:Addr)
  /-- the dict of an exception -/
 |xd(fs:List<|Str×V)
  /-- a bound method, f of x -/
 |met(f x:Addr)
  /-- a range object lo, lo + 1, .. below hi -/
 |Aa(lo hi:Int)
  /-- a thing that is known to the object (the script; a dict while a loop walks it): read, never written while it is so -/
 |kd(o:Obj)(u:HO)
  /-- a code object's table -/
 |ma(ps:Array Value)
  /-- any other thing, by what is true of its one object (a def of one's own: SetO a S n := HO.ext λh => ..) -/
 |ext(r:Heap->Prop)
abbrev Hp:=iR->i0 HO
def upd(H:Hp)(a:iR)(o:HO):Hp:=λb=>if b=a then some o else H b
def j7:upd H a o a=some o:=by unfold upd;rw[aq rfl]
def jw(h:b≠a):upd H a o b=H b:=by unfold upd;rw[aA h]
def I8{H:Hp}(h:H a=some o)(c:H b=some u)(d:o≠u):a≠b:=by intro e;subst e;rw[h]at c;exact d (Option.some.inj c)
def nQ{H:Hp}(h:H a=some o)(c:H b=none):a≠b:=by intro e;subst e;rw[h]at c;cases c
section
variable(P:jE)(w:jz)
def kH(H:Hp)(h:jb)(a:iR):HO->Prop
 |.lst d=>d.length<=sizeLine/\∃c n,Vals d c/\h.get? a=some {cls:=.type "list",data:=.seq c.toArray n}
 |.tup d=>d.length<=sizeLine/\∃c:aa iT,Vals d c/\IsTup h a c.toArray
 |.dK b=>b.length<=sizeLine/\(a==sysModules)=false/\∃j,KV b j/\h.DictOf (jP P w) a j
 |.dT b=>b.length<=sizeLine/\(a==sysModules)=false/\∃d:aa (aa Key×iR×iT),
   Paired (λ(p:aa Key×V) (q:aa Key×iR×iT)=>p.1=q.1/\H q.2.1=some (.tup<|p.1.map kV)/\RelV p.2 q.2.2) b d/\
   ∃o m y,h.get? a=some o/\o.ExactDict/\o.data=.dict m y/\m.toList=d.map (entryOfKey<|tupleKind<|jP P w)/\(d.map (·.1)).Nodup
 |.set S n=>h.SetOf (intKind P w) a S n
 |.ins C g fs=>H g=some (.own a)/\fs.length<=1000/\g≠a/\h.get? a=some (W.instObj C g)/\
   ∃e,h.Ns1 g e/\(∀f,mU (fs.lookup f)<|e f)/\PySem.Within e (fs.map (·.1))
 |.own _=>∃o,h.get? a=some o
 |.xd fs=>∃e,h.Ns1 a e/\∀f,mU (fs.lookup f) (e f)
 |.Aa lo s=>∃t u v,h.get? a=some {cls:=.type "range",data:=.fields #[.int lo t,.int s u,.int 1 v]}
 |.kd o u=>h.get? a=some o/\kH H h a u
 |.ma r=>h.get? a=some {cls:=.none,data:=.fields r}
 |.met f x=>h.get? a=some (W.methodObj (.ref f)<|.ref x)
 |.ext i=>i h/\(∃o,h.get? a=some o)/\∀l k:jb,i l->(∀o,l.get? a=some o->k.get? a=some o)->i k
def kG(H:Hp)(h:jb):Prop:=∀a o,H a=some o->kH P w H h a o
variable{P:jE}{w:jz}{H i:Hp}{h h':jb}{a:iR}{o:HO}
def kH.lt(x:kH P w H h a o):a<h.objs.size:=by
 cases o with
 |lst c=>obtain⟨_,_,_,_,e⟩:=x;exact aM e
 |tup c=>obtain⟨_,_,_,p⟩:=x;exact p.lt
 |dK b=>obtain⟨_,_,_,_,o,_,_,e,_⟩:=x;exact aM e
 |dT b=>obtain⟨_,_,_,_,o,_,_,e,_⟩:=x;exact aM e
 |set S n=>obtain⟨o,_,_,_,e,_⟩:=x;exact aM e
 |ins C k fs=>obtain⟨_,_,_,e,_⟩:=x;exact aM e
 |own y=>obtain⟨_,e⟩:=x;exact aM e
 |xd fs=>obtain⟨_,⟨_,_,_,e,_⟩,_⟩:=x;exact aM e
 |Aa lo j=>obtain⟨_,_,_,e⟩:=x;exact aM e
 |kd ob u=>obtain⟨e,_⟩:=x;exact aM e
 |ma g=>exact aM (show h.get? a=some _ from x)
 |met f y=>exact aM (show h.get? a=some _ from x)
 |ext d=>obtain⟨_,⟨_,e⟩,_⟩:=x;exact aM e
theorem Paired.C8:∀{d:aa s} {c:aa v},Paired F d c->(∀a b,F a b->G a b)->Paired G d c
 |_,_,.nil,_=>.nil
 |_,_,.cons r t,f=>.cons (f _ _ r) (Paired.C8 t f)
def kH.stay(x:kH P w H h a o)(k:∀b u,(b=a\/H b=some (.own a))->h.get? b=some u->h'.get? b=some u)
    (J:∀b,H b=some (.own a)->i b=some (.own a))(I:∀b m,H b=some (.tup m)->i b=some (.tup m)):kH P w i h' a o:=by
 induction o with
 |lst m=>obtain⟨z,l,n,r,e⟩:=x;exact⟨z,l,n,r,k _ _ (.inl rfl) e⟩
 |tup m=>obtain⟨z,l,r,ob,e,c⟩:=x;exact⟨z,l,r,ob,k _ _ (.inl rfl) e,c⟩
 |dK B=>obtain⟨z,y,F,r,ob,g,j,e,c⟩:=x;exact⟨z,y,F,r,ob,g,j,k _ _ (.inl rfl) e,c⟩
 |dT B=>obtain⟨z,y,m,r,ob,g,j,e,c⟩:=x;exact⟨z,y,m,Paired.C8 r λp q z=>⟨z.1,I _ _ z.2.1,z.2.2⟩,ob,g,j,k _ _ (.inl rfl) e,c⟩
 |set S n=>obtain⟨ob,g,j,t,e,c⟩:=x;exact⟨ob,g,j,t,k _ _ (.inl rfl) e,c⟩
 |ins C N fs=>obtain⟨d,z,ne,e,A,⟨s,g,j,K,c⟩,r⟩:=x;exact⟨J _ d,z,ne,k _ _ (.inl rfl) e,A,⟨s,g,j,k _ _ (.inr d) K,c⟩,r⟩
 |own y=>obtain⟨ob,e⟩:=x;exact⟨ob,k _ _ (.inl rfl) e⟩
 |xd fs=>obtain⟨A,⟨s,g,j,e,c⟩,r⟩:=x;exact⟨A,⟨s,g,j,k _ _ (.inl rfl) e,c⟩,r⟩
 |Aa lo M=>obtain⟨t,u,v,e⟩:=x;exact⟨t,u,v,k _ _ (.inl rfl) e⟩
 |kd ob u G=>obtain⟨e,q⟩:=x;exact⟨k _ _ (.inl rfl) e,G q⟩
 |ma E=>have e:h.get? a=some {cls:=.none,data:=.fields E}:=x;show h'.get? a=some {cls:=.none,data:=.fields E};exact k a _ (.inl rfl) e
 |met f y=>have e:h.get? a=some (W.methodObj (.ref f)<|.ref y):=x;show h'.get? a=some (W.methodObj (.ref f)<|.ref y);exact k a _ (.inl rfl) e
 |ext L=>obtain⟨p,⟨o,e⟩,D⟩:=x;exact⟨D _ _ p λo q=>k _ _ (.inl rfl) q,⟨o,k _ _ (.inl rfl) e⟩,D⟩
def kG.lt(x:kG P w H h)(e:H a=some o):a<h.objs.size:=(x a o e).lt
def kG.fresh(x:kG P w H h)(e:h.objs.size<=a):H a=none:=by
 cases q:H a with
 |none=>rfl
 |some u=>exact absurd (aE (x.lt q) e) (cL _)
def kG.kept(x:kG P w H h)(k:∀b u,h.get? b=some u->h'.get? b=some u):kG P w H h':=λa o e=>(x a o e).stay (λb u _ q=>k b u q) (λ_ q=>q) λ_ _ q=>q
def kG.laid(x:kG P w H h)(k:∀b u,h.get? b=some u->h'.get? b=some u)(g:h.objs.size<=a)(new:kH P w (upd H a o) h' a o):kG P w (upd H a o) h':=λb u e=>by
 have d:=x.fresh g;by_cases f:b=a;.subst f;rw[j7]at e;cases e;exact new
 .rw[jw f]at e;exact(x b u e).stay (λc v _ q=>k c v q) (λc q=>by rw[jw<|nQ q d];exact q) λc j q=>by rw[jw<|nQ q d];exact q
end
def Rd(H:Hp)(a:iR)(u:HO):Prop:=H a=some u\/∃o,H a=some (.kd o u)
def Rd.ok(r:Rd H a u)(x:kG P w H h):kH P w H h a u:=by
 rcases r with r|⟨o,r⟩;.exact x a u r
 .obtain⟨_,q⟩:=x a _ r;exact q
def wo:i0 HO->Prop
 |some (.lst _)=>True
 |some (.dK _)=>True
 |some (.dT _)=>True
 |some (.set _ _)=>True
 |some (.ins _ _ _)=>True
 |some (.ext _)=>True
 |_=>False
section
variable{P:jE}{w:jz}{H:Hp}{h h':jb}{x e:iR}{a:HO}
def kG.write(ok:kG P w H h)(j:wo<|H x)(p:e=x\/H e=some (.own x))(k:∀b u,b≠e->h.get? b=some u->h'.get? b=some u)(n:∃u,h'.get? e=some u)
 (new:kH P w (upd H x a) h' x a):kG P w (upd H x a) h':=λb u q=>by
  have f:∀c y,H c=some (.own y)->c≠x:=λc y r z=>by subst z;rw[r]at j;exact j
  have g:∀c i,H c=some (.tup i)->c≠x:=λc i r z=>by subst z;rw[r]at j;exact j
  by_cases m:b=x;.subst m;rw[j7]at q;cases q;exact new
  .rw[jw m]at q;by_cases d:b=e
   .have o:H b=some (.own x):=by
     rcases p with z|z;.exact absurd (d.trans z) m
     .rw[d];exact z
    rw[q]at o;cases o;obtain⟨v,hv⟩:=n;exact⟨v,by rw[d];exact hv⟩
   .refine(ok b u q).stay (λc v l r=>k c v ?_ r) (λc r=>by rw[jw<|f c b r];exact r) λc i r=>by rw[jw<|g c i r];exact r
    rcases l with rfl|l;.exact d
    .rintro rfl
     rcases p with z|z;.exact f c b l z
     .rw[l]at z;cases z;exact m rfl
end
abbrev _root_.nW:=aa iR
structure Un(fs ex:nW)(H H':Hp)(h h':jb):Prop where
 keep:∀b o,h.get? b=some o->H b=none->b∉fs->b∉ex->h'.get? b=some o
 slot:∀b o,h.get? b=some o->H b=none->b∈fs->b∉ex->∃sl,h'.get? b=some {o with slots:=sl}
 free:∀b o,h.get? b=some o->H b=none->b∉ex->H' b=none
 there:∀b o,h.get? b=some o->b∉ex->∃o',h'.get? b=some o'
 tups:∀b xs,H b=some (.tup xs)->H' b=some (.tup xs)
 pX:∀b o u,H b=some (.kd o u)->H' b=some (.kd o u)
 rV:∀b ps,H b=some (.ma ps)->∃more,H' b=some (.ma<|ps++more)
section
variable{fs i ex j:nW}{H l v:Hp}{h c m h':jb}{a x e:iR}{o:HO}
def Un.any(u:Un fs ex H l h c){b:iR}{ob:lj}(q:h.get? b=some ob)(n:H b=none)(d:b∉ex):∃g,c.get? b=some {ob with slots:=g}:=by
 by_cases f:b∈fs;.exact u.slot b ob q n f d
 .exact⟨ob.slots,u.keep b ob q n f d⟩
def Un.kept(k:∀b u,h.get? b=some u->h'.get? b=some u):Un fs ex H H h h':=
 ⟨λb ob q _ _ _=>k b ob q,λb ob q _ _ _=>⟨ob.slots,k b ob q⟩,λ_ _ _ n _=>n,λb ob q _=>⟨ob,k b ob q⟩,λ_ _ q=>q,λ_ _ _ q=>q,λ_ d q=>⟨#[],by rw[q];simp⟩⟩
def Un.refl:Un fs ex H H h h:=Un.kept λ_ _ q=>q
def Un.laid(k:∀b u,h.get? b=some u->h'.get? b=some u)(g:h.objs.size<=a)(d:H a=none):Un fs ex H (upd H a o) h h' where
 keep:=λb u q _ _ _=>k b u q
 slot:=λb u q _ _ _=>⟨u.slots,k b u q⟩
 free:=λb u q n _=>by rw[jw<|aV<|aE (aM q) g];exact n
 there:=λb u q _=>⟨u,k b u q⟩
 tups:=λb f q=>by rw[jw<|nQ q d];exact q
 pX:=λb u f q=>by rw[jw<|nQ q d];exact q
 rV:=λb p q=>⟨#[],by rw[jw<|nQ q d,q];simp⟩
def Un.write(f:wo<|H x)(A:e=x\/H e=some (.own x))(k:∀b u,b≠e->h.get? b=some u->h'.get? b=some u)(p:∃u,h'.get? e=some u):Un fs ex H (upd H x o) h h':=by
 have s:∀b,H b=none->b≠x:=λb n z=>by subst z;rw[n]at f;exact f
 have t:∀b,H b=none->b≠e:=λb n z=>by
  subst z;rcases A with r|r;.exact s b n r
  .rw[n]at r;cases r
 have g:∀b u,H b=some u->¬wo (some u)->b≠x:=λb u q y z=>by subst z;rw[q]at f;exact y f
 refine⟨λb u q n _ _=>k b u (t b n) q,λb u q n _ _=>⟨u.slots,k b u (t b n) q⟩,λb u q n _=>by rw[jw (s b n)];exact n,λb u q _=>?_,
  λb w q=>by rw[jw (g b _ q λz=>z)];exact q,λb u w q=>by rw[jw (g b _ q λz=>z)];exact q,λb B q=>⟨#[],by rw[jw (g b _ q λz=>z),q];simp⟩⟩
 by_cases d:b=e;.subst d;exact p
 .exact⟨u,k b u d q⟩
end
def Ai(h:jb)(H:Hp):aa iR:=(List.range h.objs.size).filter λa=>(H a).isSome
def qN(h:jb)(H:Hp):jb:=W.hideAll h (Ai h H)
def QA(h H):(qN h H).objs.size=h.objs.size:=W.hideAll_size _ _
def Qz{h}{H}(e:h.get? b=some o)(n:H b=none):(qN h H).get? b=some o:=
 W.hideAll_get _ e λa=>by have q:(H b).isSome=true:=(bF.mp a).2;rw[n]at q;simp at q
def Ux(e:(qN h H).get? b=some o):h.get? b=some o/\H b=none:=by
 have a:h.get? b=some o:=W.of_hideAll (Ai h H) e;refine⟨a,?_⟩;cases q:H b with
 |none=>rfl
 |some x=>have c:b∈Ai h H:=bF.mpr ⟨bS.mpr<|aM a,by simp[q]⟩;have z:(qN h H).get? b=none:=W.hideAll_none (Ai h H) c;rw[z]at e;cases e
noncomputable def Mv(g h:jb)(L:iR):aa (iR×lj):=(List.range h.objs.size).filterMap λa=>if a=L\/(g.get? a).isSome=true then none else(h.get? a).map λo=>(a,o)
def rest(g h:jb)(L d:iR):aa (iR×lj):=(Mv g h L).filter λp=>decide (p.1≠d)
abbrev _root_.i9:=W.Frag
structure Mod(K:i9)(mg:km)(base:jb):Prop where
 xb:K.In base
 glob:base.Ns mainGlobals mg
 blt:∃mb,base.Ns builtinsNs mb/\∀x:iS,x≠"__name__"->mb x=bootBuiltins x
 nolimit:base.NoLimit
structure Cx where
 prog:jE
 w:jz
 K:W.Frag
 mg:km
 base:jb
 A:jY
 N:aa iS
 s₀:i7
 H₀:Hp
 env:Env
 outer:aa Env
 stack:aa Env
 ex:aa iR
 fn:iS->i6
 calm:i6
 pn:aa (iR×lj)
 xe:j0
abbrev _root_.kK:=aa jf
abbrev Cx.se(X:Cx)(e:jf)(es:kK):Prop:=starEach (e::es) X.env=(false,eval e X.env)::starEach es X.env
abbrev Cx.bk(X:Cx)(pos:Pos)(es:kK):Prop:=(backTo pos<|starEach es X.env).any (·.1)=false
abbrev lL(x:iS):Prop:=(x==("__debug__":iS))=false
abbrev Cx.hf(X:Cx)(x:iS):Prop:=X.fn x=true\/X.env.scope.names.lookup x=some .local
abbrev qP(s:Scope):Prop:=∀x∈s.names,x.2=.local->s.names.lookup x.1=some .local
abbrev qh(s:Scope):Prop:=∀y∈s.names,y.2≠.cell
abbrev _root_.mL:=aa Env
def frs(l:mL):aa iR:=l.filterMap (·.frame)
abbrev Cx.fs(X:Cx):aa iR:=frs X.outer
def pT(sc:Scope)(x:iS):Prop:=sc.names.lookup x=some .local\/sc.names.lookup x=some .cell\/sc.names.lookup x=some .free
def Loc(sc:Scope)(x:iS):Prop:=sc.names.lookup x=some .local\/sc.names.lookup x=some .cell
def Look(a:Env)(h:jb)(m:km)(x:iS)(u:iT):Prop:=
 (a.kindOf x=some .local/\m x=some u)\/((a.kindOf x=some .cell\/a.kindOf x=some .free)/\∃c,a.cells.lookup x=some c/\h.IsCell c (some u))
structure Cx.Ok(X:Cx):Prop where
 mod:Mod X.K X.mg X.base
 kind:X.env.scope.kind=.function
 glob:X.env.globals=mainGlobals
 blt:X.env.builtins=builtinsNs
 above:X.s₀.heap.objs.size<=X.env.locals
 inj:∀x y c,X.env.cells.lookup x=some c->X.env.cells.lookup y=some c->x=y
 has:∀x,(X.env.kindOf x=some .cell\/X.env.kindOf x=some .free)->∃c,X.env.cells.lookup x=some c
 cab:∀x c,X.fn x=true->X.env.cells.lookup x=some c->X.s₀.heap.objs.size<=c
 hd:X.calm=true->X.A.handled=none
 frames:X.A.frames=some X.stack
 K1:X.stack=X.outer\/(X.stack=X.env::X.outer/\X.env.frame=some X.env.locals)
 OS:∀b∈X.ex,b≠X.env.locals/\∀x c,X.env.cells.lookup x=some c->c≠b
 bs:∀b o,X.base.get? b=some o->X.s₀.heap.get? b=some o/\X.H₀ b=none
 tW:X.base.objs.size<=X.s₀.heap.objs.size
 De:∀b o,X.base.get? b=some o->b∉X.ex
 BO:∀b∈X.ex,b∉X.fs
 pz:X.s₀.heap.FunFrames X.base X.outer
 wV:∀b∈X.fs,X.H₀ b=none
abbrev _root_.kv:=aa (iR×lj)
structure Inv(X:Cx)(pins:kv)(r:aa<|i0 V)(H:Hp)(s:i7):Prop where
 ok:X.Ok
 os:s.os=X.s₀.os
 bare:AllBare s.gens
 base:Un X.fs X.ex X.H₀ H X.s₀.heap s.heap
 loc:∃m,s.heap.Ns X.env.locals m/\∀(i:Nat) (x:iS) (v:V),X.N[i]?=some x->r[i]?=some (some v)->pT X.env.scope x->∃u,RelV v u/\Look X.env s.heap m x u
 cell:∀x c,X.env.cells.lookup x=some c->∃v,s.heap.IsCell c v
 free:H X.env.locals=none
 pV:∀x c,X.env.cells.lookup x=some c->H c=none
 pin:∀p∈X.pn++pins,s.heap.get? p.1=some p.2/\H p.1=none/\p.1≠X.env.locals/\p.1∉X.fs/\∀v,p.2.data≠.cell v
 hok:kG X.prog X.w H s.heap
 len:r.length=X.N.length
section
variable{X:Cx}{B:kv}{C:aa<|i0 V}{H F:Hp}{s:i7}{h':jb}
def Cx.Ok.Um(ok:X.Ok)(e:X.base.get? b=some o):b∉X.fs:=λa=>by have:=(ok.pz.mem a).1;rw[e]at this;cases this
def Inv.bs(I:Inv X B C H s):∀b o,X.base.get? b=some o->s.heap.get? b=some o/\H b=none:=λb o e=>⟨I.base.keep b o (I.ok.bs b o e).1 (I.ok.bs b o e).2 (I.ok.Um e) (I.ok.De b o e),I.base.free b o (I.ok.bs b o e).1 (I.ok.bs b o e).2 (I.ok.De b o e)⟩
def Inv.bk(I:Inv X B C H s):∀b o,X.base.get? b=some o->s.heap.get? b=some o:=λb o e=>(I.bs b o e).1
def Inv.mod(I:Inv X B C H s):Mod X.K X.mg X.base:=I.ok.mod
def Inv.mj(I:Inv X B C H s):X.K.In s.heap:=I.ok.mod.xb.keeps I.bk
def Inv.lt(I:Inv X B C H s):X.env.locals<s.heap.objs.size:=let⟨_,a,_⟩:=I.loc;a.lt
def Inv.sz(I:Inv X B C H s):X.s₀.heap.objs.size<=s.heap.objs.size:=aW I.ok.above (dD I.lt)
def Inv.Up(I:Inv X B C H s){a}(h:s.heap.objs.size<=a):a∉X.fs:=λc=>by obtain⟨_,o,b,_⟩:=I.ok.pz.mem c;exact absurd (aE (aM b)<|aW I.sz h) (cL _)
def Inv.tX(I:Inv X B C H s):∀x c,X.env.cells.lookup x=some c->c≠X.env.locals:=λx c e z=>by obtain⟨v,o,d,f⟩:=I.cell x c e;obtain⟨m,⟨g,h,i,a,b,_⟩,_⟩:=I.loc;rw[z,a]at d;cases d;rw[b]at f;cases f
def Inv.pz(I:Inv X B C H s):s.heap.FunFrames X.base X.outer:=by
 have all:∀(l:mL),(∀b∈frs l,b∈X.fs)->X.s₀.heap.FunFrames X.base l->s.heap.FunFrames X.base l:=by
  intro l;induction l with
  |nil=>intro _ _;trivial
  |cons n r f=>intro d j;obtain⟨k,⟨L,o,hf,i,h,m⟩,g⟩:=j;have c:L∈X.fs:=d L (by unfold frs;rw[dY,hf];exact bT);obtain⟨p,e⟩:=I.base.slot L o h (I.ok.wV L c) c λz=>I.ok.BO L z c;exact⟨k,⟨L,_,hf,i,e,m⟩,f (λb a=>d b (by unfold frs;rw[dY,hf];exact bo _ a)) g⟩
 exact all X.outer (λ_ a=>a) I.ok.pz
def Inv.stack(I:Inv X B C H s):s.heap.FunFrames X.base X.stack:=by
 rcases I.ok.K1 with e|⟨e,hf⟩;.rw[e];exact I.pz
 .rw[e];obtain⟨m,a,_⟩:=I.loc;refine .cons (by rw[I.ok.kind];decide) hf a ?_ I.pz;exact Heap.get?_none_of_le (aW I.ok.tW I.ok.above)
def Inv.Ae(I:Inv X B C H s):∀b∈frs X.stack,b∈X.env.locals::X.fs:=λb a=>by
 rcases I.ok.K1 with e|⟨e,hf⟩;.rw[e]at a;exact bo _ a
 .rw[e]at a;unfold frs at a;rw[dY,hf]at a;exact a
def Inv.Ed(I:Inv X B C H s):∀b∈frs X.stack,H b=none:=λb a=>by
 rcases aI.mp (I.Ae b a)with e|a;.rw[e];exact I.free
 .obtain⟨_,o,c,_⟩:=I.ok.pz.mem a;exact I.base.free b o c (I.ok.wV b a) λz=>I.ok.BO b z a
def Inv.step{g':jZ GenState}{W:Nat}{d':Drawn}{ch:nW}(I:Inv X B C H s)
    (g:∀b∈ch,(b∈X.ex\/X.s₀.heap.objs.size<=b)/\b≠X.env.locals/\(∀x c,X.env.cells.lookup x=some c->c≠b)/\∀p∈X.pn++B,p.1≠b)
    (keep:∀b o,b≠X.env.locals->b∉X.fs->b∉ch->s.heap.get? b=some o->H b=none->h'.get? b=some o)
    (y:∀b o,b≠X.env.locals->b∈X.fs->b∉ch->s.heap.get? b=some o->H b=none->∃P,h'.get? b=some {o with slots:=P})(free:∀b o,b∉ch->s.heap.get? b=some o->H b=none->F b=none)
    (there:∀b o,b∉ch->s.heap.get? b=some o->∃J,h'.get? b=some J)
    (E:∀b w,H b=some (.tup w)->F b=some (.tup w))(L:∀b o u,H b=some (.kd o u)->F b=some (.kd o u))(G:∀b N,H b=some (.ma N)->∃more,F b=some (.ma<|N++more))
    (Y:∀m,s.heap.Ns X.env.locals m->h'.Ns X.env.locals m)(Q:kG X.prog X.w F h')(hg:AllBare g'):
    Inv X B C F {s with heap:=h',gens:=g',drawn:=d',toks:=W}:=by
 have K:∀b o,X.s₀.heap.get? b=some o->b≠X.env.locals:=λb o e=>aV (aE (aM e) I.ok.above);have j:∀b o,X.s₀.heap.get? b=some o->b∉X.ex->b∉ch:=λb o e a A=>by
  rcases(g b A).1 with z|z;.exact a z
  .exact absurd (aE (aM e) z) (cL _)
 have h:∀x c,X.env.cells.lookup x=some c->∀v,s.heap.IsCell c v->h'.IsCell c v:=λx c e v ⟨o,D,R⟩=>by
  have f:c∉ch:=λz=>(g c z).2.2.1 x c e rfl;by_cases U:c∈X.fs
  .obtain⟨P,q⟩:=y c o (I.tX x c e) U f D (I.pV x c e);exact⟨_,q,R⟩
  .exact⟨o,keep c o (I.tX x c e) U f D<|I.pV x c e,R⟩
 refine⟨I.ok,I.os,hg,⟨λb o e n A a=>?_,λb o e n A a=>?_,λb o e n a=>?_,λb o e a=>?_,λb w e=>E b w<|I.base.tups b w e,λb o w e=>L b o w<|I.base.pX b o w e,λb N e=>?_⟩,?_,λx c e=>?_,?_,λx c e=>?_,λp T=>?_,Q,I.len⟩;.exact keep b o (K b o e) A (j b o e a) (I.base.keep b o e n A a) (I.base.free b o e n a)
 .obtain⟨P,t⟩:=I.base.slot b o e n A a;obtain⟨O,M⟩:=y b _ (K b o e) A (j b o e a) t (I.base.free b o e n a);exact⟨O,M⟩
 .obtain⟨J,t⟩:=I.base.there b o e a;exact free b J (j b o e a) t (I.base.free b o e n a)
 .obtain⟨J,t⟩:=I.base.there b o e a;exact there b J (j b o e a) t
 .obtain⟨m1,t⟩:=I.base.rV b N e;obtain⟨Z,M⟩:=G b _ t;exact⟨m1++Z,by rw[M,Array.append_assoc]⟩
 .obtain⟨m,hn,hl⟩:=I.loc;refine⟨m,Y m hn,λi x v t M e3=>?_⟩;obtain⟨u,r,l⟩:=hl i x v t M e3;refine⟨u,r,?_⟩;rcases l with l|⟨k,c,e,z⟩;.exact .inl l
  .exact .inr ⟨k,c,e,h x c e _ z⟩
 .obtain⟨v,z⟩:=I.cell x c e;exact⟨v,h x c e v z⟩
 .obtain⟨m,⟨o,_,_,D,_⟩,_⟩:=I.loc;exact free _ o (λz=>(g _ z).2.1 rfl) D I.free
 .obtain⟨v,o,D,R⟩:=I.cell x c e;exact free c o (λz=>(g c z).2.2.1 x c e rfl) D (I.pV x c e)
 .obtain⟨e,n,ne,S,d⟩:=I.pin p T;have f:p.1∉ch:=λz=>(g p.1 z).2.2.2 p T rfl;exact⟨keep p.1 p.2 ne S f e n,free p.1 p.2 f e n,ne,S,d⟩
def Inv.un{t':Nat}(I:Inv X B C H s)(u:Un X.fs [] H F s.heap h')(c:kG X.prog X.w F h'):Inv X B C F {s with heap:=h',toks:=t'}:=by obtain⟨m,⟨o,t,v,h,r⟩,_⟩:=id I.loc;obtain⟨l,k⟩:=u.any h I.free (by simp);exact I.step (g':=s.gens) (d':=s.drawn) (ch:=[]) (λ_ z=>nomatch z) (λb o _ d _ e n=>u.keep b o e n d (by simp)) (λb o _ d _ e n=>u.slot b o e n d (by simp)) (λb o _ e n=>u.free b o e n (by simp)) (λb o _ e=>u.there b o e (by simp)) u.tups u.pX u.rV (λq j=>by obtain⟨p,f,g,a,i⟩:=j;rw[h]at a;cases a;exact⟨_,f,g,k,i⟩) c I.bare
def Inv.call{g':jZ GenState}{t':Nat}{d':Drawn}{ch:nW}(I:Inv X B C H s)(u:Un (frs X.stack) ch H F s.heap h')(g:kG X.prog X.w F h')(t:AllBare g')
    (f:∀b∈ch,(b∈X.ex\/X.s₀.heap.objs.size<=b)/\b≠X.env.locals/\(∀x c,X.env.cells.lookup x=some c->c≠b)/\∀p∈X.pn++B,p.1≠b):
    Inv X B C F {s with heap:=h',gens:=g',drawn:=d',toks:=t'}:=by
 obtain⟨m,⟨o,D,E,k,r⟩,_⟩:=id I.loc;obtain⟨w,h⟩:=u.any k I.free λz=>(f _ z).2.1 rfl;exact I.step (ch:=ch) f (λb o h v a e n=>u.keep b o e n (λz=>(aI.mp (I.Ae b z)).elim h v) a) (λb o _ _ a e n=>u.any e n a) (λb o a e n=>u.free b o e n a) (λb o a e=>u.there b o e a) u.tups u.pX u.rV (λA q=>by obtain⟨y,i,j,d,l⟩:=q;rw[k]at d;cases d;exact⟨_,i,j,h,l⟩) g t
def Inv.turned{t':Nat}(I:Inv X B C H s)(k:∀b o,b≠it->s.heap.get? b=some o->h'.get? b=some o)(h:H it=none)(f:it≠X.env.locals)
 (w:it∈X.ex\/X.s₀.heap.objs.size<=it)(t:∀x c,X.env.cells.lookup x=some c->c≠it)(l:∀p∈X.pn++B,p.1≠it):Inv X B C H {s with heap:=h',toks:=t'}:=by
  have d:∀b u,H b=some u->b≠it:=λb u e z=>by rw[z,h]at e;cases e
  refine I.step (g':=s.gens) (d':=s.drawn) (ch:=[it]) (λb j=>?_) (λb o _ _ a e _=>k b o (λz=>a<|by simp[z]) e) (λb o _ _ a e _=>⟨o.slots,k b o (λz=>a<|by simp[z]) e⟩) (λ_ _ _ _ n=>n)
   (λb o a e=>⟨o,k b o (λz=>a<|by simp[z]) e⟩) (λ_ _ e=>e) (λ_ _ _ e=>e) (λb D e=>⟨#[],by rw[e];simp⟩) (λm i=>?_) (λb u e=>?_) I.bare
  .have e:b=it:=by simpa using j
   subst e;exact⟨w,f,t,l⟩
  .obtain⟨o,y,A,g,r⟩:=i;exact⟨o,y,A,k _ o (bK f) g,r⟩
  .refine(I.hok b u e).stay (λc v a q=>k c v ?_ q) (λ_ q=>q) λ_ _ q=>q;rcases a with z|z;.rw[z];exact d b u e
   .exact d c _ z
def Inv.tok(I:Inv X B C H s)(t:Nat):Inv X B C H {s with toks:=t}:=I.un (h':=s.heap) (t':=t) Un.refl I.hok
def Inv.kept{t':Nat}(I:Inv X B C H s)(k:∀b u,s.heap.get? b=some u->h'.get? b=some u):Inv X B C H {s with heap:=h',toks:=t'}:=I.un (Un.kept k) (I.hok.kept k)
def Inv.laid{a:iR}{o:HO}{t':Nat}(I:Inv X B C H s)(k:∀b u,s.heap.get? b=some u->h'.get? b=some u)(c:s.heap.objs.size<=a)(new:kH X.prog X.w (upd H a o) h' a o):
    Inv X B C (upd H a o) {s with heap:=h',toks:=t'}:=I.un (Un.laid k c<|I.hok.fresh c) (I.hok.laid k c new)
def Inv.write{x e:iR}{o:HO}{t':Nat}(I:Inv X B C H s)(c:wo<|H x)(d:e=x\/H e=some (.own x))(k:∀b u,b≠e->s.heap.get? b=some u->h'.get? b=some u)(a:∃u,h'.get? e=some u)
    (new:kH X.prog X.w (upd H x o) h' x o):Inv X B C (upd H x o) {s with heap:=h',toks:=t'}:=I.un (Un.write c d k a) (I.hok.write c d k a new)
def Inv.weak(I:Inv X B C H s)(c:nU.length=C.length)(w:∀(i:Nat) v,nU[i]?=some (some v)->C[i]?=some (some v)):Inv X B nU H s:=
 ⟨I.ok,I.os,I.bare,I.base,let⟨m,b,a⟩:=I.loc;⟨m,b,λi x v f e d=>a i x v f (w i v e) d⟩,I.cell,I.free,I.pV,I.pin,I.hok,c.trans I.len⟩
def Inv.JN(I:Inv X B C H s)(h:∀p∈Ww,s.heap.get? p.1=some p.2/\H p.1=none/\p.1≠X.env.locals/\p.1∉X.fs/\∀v,p.2.data≠.cell v):Inv X Ww C H s:=
 ⟨I.ok,I.os,I.bare,I.base,I.loc,I.cell,I.free,I.pV,λp a=>(aY.mp a).elim (λz=>I.pin p<|b8 _ z) (h p),I.hok,I.len⟩
abbrev _root_.jy:=aa iS
def Ja{N:jy}(hN:N.Nodup){j:Nat}{x}(a:N[i]?=some x)(b:N[j]?=some x):i=j:=by obtain⟨f,d⟩:=az.mp a;obtain⟨e,c⟩:=az.mp b;exact(List.getElem_inj hN).mp (d.trans c.symm)
abbrev _root_.uZ:=Unit->i7->Prop
def K2{A}{E:j0}{i:Nat}{x}{v}{u}{Q:uZ}(I:Inv X B C H s)(hN:X.N.Nodup)(R:X.N[i]?=some x)(w:Loc X.env.scope x)(r:RelV v u)
 (h:∀s',Inv X B (C.set i<|some v) H s'->(∃a,Heap.SameBut a s.heap s'.heap/\(a=X.env.locals\/X.env.cells.lookup x=some a))->Q () s')(hf:X.hf x):wpAny M A (storeName X.env x u) Q E s:=by
  obtain⟨m,hn,hl⟩:=id I.loc;have S:(X.env.scope.kind==.class||(X.env.scope.kind==.module&&X.env.locals !=X.env.globals))=false:=by rw[I.ok.kind];rfl
  have J:i<C.length:=by rw[I.len];exact(az.mp R).1
  have tX:=I.tX;have g:∀{a:iR} {h':jb},(∃o,s.heap.get? a=some o/\H a=none)->Heap.SameBut a s.heap h'->kG X.prog X.w H h':=λ{a h'} ha f b ob e=>by
   obtain⟨_,_,D⟩:=ha;refine(I.hok b ob e).stay (λc W t q=>(f.2 c ?_).trans q) (λ_ q=>q) λ_ _ q=>q
   rintro rfl
   rcases t with rfl|t;.rw[D]at e;cases e
   .rw[D]at t;cases t
  rcases w with hk|hk
  .refine wpAny_storeName_local hk hn (λh' Cz f=>?_) S;obtain⟨oL,_,_,Q3,_⟩:=id hn;refine h _ ⟨I.ok,I.os,I.bare,⟨λb o e n N w=>?_,λb o e n N w=>?_,I.base.free,λb o e w=>?_,I.base.tups,I.base.pX,I.base.rV⟩,⟨_,Cz,λj y Z l G e3=>?_⟩,λy c e=>?_,I.free,I.pV,λp hp=>?_,g ⟨oL,Q3,I.free⟩ f,by simpa using I.len⟩ ⟨_,f,.inl rfl⟩;.exact(f.2 b<|aV<|aE (aM e) I.ok.above).trans (I.base.keep b o e n N w)
   .obtain⟨sl,l⟩:=I.base.slot b o e n N w;exact⟨sl,(f.2 b<|aV<|aE (aM e) I.ok.above).trans l⟩
   .obtain⟨o',l⟩:=I.base.there b o e w;exact⟨o',(f.2 b<|aV<|aE (aM e) I.ok.above).trans l⟩
   .by_cases K:j=i
    .subst K;rw[R]at l;cases l;rw[aB J]at G;cases G;exact⟨u,r,.inl ⟨hk,by simp⟩⟩
    .rw[ao<|bK K]at G;obtain⟨u',r',q⟩:=hl j y Z l G e3;refine⟨u',r',?_⟩;rcases q with⟨k,e⟩|⟨k,c,e,z⟩
     .refine .inl ⟨k,?_⟩;have:y≠x:=λe=>K (Ja hN l<|e▸R);simp[this,e]
     .exact .inr ⟨k,c,e,z.sameBut f<|tX y c e⟩
   .obtain⟨W,z⟩:=I.cell y c e;exact⟨W,z.sameBut f<|tX y c e⟩
   .obtain⟨e,n,ne,nf,d⟩:=I.pin p hp;exact⟨(f.2 p.1 ne).trans e,n,ne,nf,d⟩
  .have L:X.fn x=true:=by
    rcases hf with z|z;.exact z
    .rw[z]at hk;cases hk
   obtain⟨c,t⟩:=I.ok.has x (.inl hk);obtain⟨W,z⟩:=I.cell x c t;refine wpAny_storeName_cell I.ok.kind hk t z (λh' U f=>?_);obtain⟨oc,P,O⟩:=id z;refine h {s with heap:=h'} ⟨I.ok,I.os,I.bare,⟨λb o e n N w=>?_,λb o e n N w=>?_,I.base.free,λb o e w=>?_,I.base.tups,I.base.pX,I.base.rV⟩,⟨m,hn.sameBut f<|bK<|tX x c t,λj y Z l G e3=>?_⟩,λy Y e=>?_,I.free,I.pV,λp hp=>?_,g ⟨oc,P,I.pV x c t⟩ f,by simpa using I.len⟩ ⟨c,f,.inr t⟩;.exact(f.2 b<|aV<|aE (aM e)<|I.ok.cab x c L t).trans (I.base.keep b o e n N w)
   .obtain⟨sl,l⟩:=I.base.slot b o e n N w;exact⟨sl,(f.2 b<|aV<|aE (aM e)<|I.ok.cab x c L t).trans l⟩
   .obtain⟨o',l⟩:=I.base.there b o e w;exact⟨o',(f.2 b<|aV<|aE (aM e)<|I.ok.cab x c L t).trans l⟩
   .by_cases K:j=i
    .subst K;rw[R]at l;cases l;rw[aB J]at G;cases G;exact⟨u,r,.inr ⟨.inl hk,c,t,U⟩⟩
    .rw[ao<|bK K]at G;obtain⟨u',r',q⟩:=hl j y Z l G e3;refine⟨u',r',?_⟩;rcases q with q|⟨k,Y,e,z'⟩;.exact .inl q
     .refine .inr ⟨k,Y,e,z'.sameBut f ?_⟩
      rintro rfl
      exact K (Ja hN l<|I.ok.inj _ _ _ e t▸R)
   .by_cases T:Y=c;.subst T;exact⟨_,U⟩
    .obtain⟨w2,z2⟩:=I.cell y Y e;exact⟨w2,z2.sameBut f T⟩
   .obtain⟨e,n,ne,nf,d⟩:=I.pin p hp;refine⟨(f.2 p.1 ?_).trans e,n,ne,nf,d⟩;intro q;rw[q,P]at e;have q':oc=p.2:=Option.some.inj e;exact d W (by rw[<-q'];exact O)
def xF{A}{E:j0}{x}{v}{u}{Q}(I:Inv X B C H s)(hN:X.N.Nodup)(c:X.N[i]?=some x)(b:Loc X.env.scope x)(r:RelV v u)
 (h:∀a,Inv X B (C.set i<|some v) H a->Q () a)(hf:X.hf x):wpAny M A (storeName X.env x u) Q E s:=
  K2 I hN c b r (λa d _=>h a d) hf
def Inv.FU{s'}(I:Inv X B C H s)(g:s'.os=s.os)(u:Un (frs X.stack) ch H F s.heap s'.heap)(a:kG X.prog X.w F s'.heap)(h:AllBare s'.gens)
 (d:∀b∈ch,(b∈X.ex\/X.s₀.heap.objs.size<=b)/\b≠X.env.locals/\(∀x c,X.env.cells.lookup x=some c->c≠b)/\∀p∈X.pn++B,p.1≠b):Inv X B C F s':=by obtain⟨h',g',d',t',f⟩:=s';have e:f=s.os:=g;subst e;exact I.call (g':=g') (t':=t') (d':=d') u a h d
end
abbrev XK:=iT->i0 iR->Hp->Prop
abbrev St:=aa (i0 V)
abbrev VK:=V->Hp->Prop
abbrev TE:=St->Hp->VK->Prop
abbrev TT:=St->Hp->(i6->Hp->Prop)->Prop
abbrev TA:=St->Hp->(aa V->Hp->Prop)->Prop
structure Ends where
 nx:St->Hp->Prop
 rt:VK
 bk:St->Hp->Prop:=λ_ _=>False
 ct:St->Hp->Prop:=λ_ _=>False
abbrev TS:=Ends->St->Hp->Prop
def EP(X:Cx)(a:kv)(c:St)(Q:VK)(u:iT)(d:i7):Prop:=∃v b,Inv X a c b d/\RelV v u/\Q v b
abbrev _root_.rm:=i6->Hp->Prop
def TP(X:Cx)(a:kv)(d:St)(Q:rm)(b:i6)(e:i7):Prop:=∃c,Inv X a d c e/\Q b c
def AP(X:Cx)(a:kv)(d:St)(Q:aa V->Hp->Prop)(e:kn)(f:i7):Prop:=∃b c,Inv X a d c f/\Vals b e/\Q b c
def SP(X:Cx)(b:kv)(D:Ends)(f:Flow)(d:i7):Prop:=
 match f with
 |.next=>∃a c,Inv X b a c d/\D.nx a c
 |.brk=>∃a c,Inv X b a c d/\D.bk a c
 |.cont=>∃a c,Inv X b a c d/\D.ct a c
 |.ret u=>∃v a c,Inv X b a c d/\RelV v u/\D.rt v c
def PE(X:Cx)(e:jf)(t:TE):Prop:=
 ∀(a:kv) (s:i7) (r:St) (H:Hp) (Q:VK),Inv X a r H s->t r H Q->wpAny (model X.prog X.w) X.A (eval e X.env) (EP X a r Q) X.xe s
def PT(X:Cx)(e:jf)(t:TT):Prop:=
 ∀(a:kv) (s:i7) (r:St) (H:Hp) (Q:rm),Inv X a r H s->t r H Q->wpAny (model X.prog X.w) X.A (isTrue e X.env<|eval e X.env) (TP X a r Q) X.xe s
def PW(X:Cx)(e:jf)(t:TT):Prop:=
 ∀(a:Sem iT) (pins:kv) (s:i7) (r:St) (H:Hp) (Q:rm),Inv X pins r H s->t r H Q->wpAny (model X.prog X.w) X.A (isTrue e X.env a) (TP X pins r Q) X.xe s
def PW.pt{t}(h:PW X e t):PT X e t:=h _
def PA(X:Cx)(b:kK)(t:TA):Prop:=
 ∀(a:Pos) (pins:kv) (s:i7) (r:St) (H:Hp) (Q:aa V->Hp->Prop),Inv X pins r H s->t r H Q->wpAny (model X.prog X.w) X.A (spliced<|backTo a<|starEach b X.env) (AP X pins r Q) X.xe s
def PS(X:Cx)(b:Stmt)(t:TS):Prop:=
 ∀(a:kv) (s:i7) (r:St) (H:Hp) (D:Ends),Inv X a r H s->t D r H->wpAny (model X.prog X.w) X.A (exec b X.env) (SP X a D) X.xe s
def ph(X:Cx)(b:aa Stmt)(t:TS):Prop:=
 ∀(a:kv) (s:i7) (r:St) (H:Hp) (D:Ends),Inv X a r H s->t D r H->wpAny (model X.prog X.w) X.A (execs b X.env) (SP X a D) X.xe s
def je{t}{Q}{A}{E}{s}(h:wpAny M A t Q E s)(b:∀a s,Q a s->Q' a s):wpAny M A t Q' E s:=br h b λ_ _ x=>x
section
variable{X:Cx}
def Lb(i:Nat):TE:=λa H Q=>∃v,a[i]?=some (some v)/\Q v H
def tC(v:V):TE:=λ_ H Q=>Q v H
def ux{x}{g}(hN:X.N[i]?=some x)(hv:pT X.env.scope x)(j:lL x)(k:(x==("__classdict__":iS))=false):PE X (.Name x g) (Lb i):=by
 intro f s o H Q I h;obtain⟨v,e,h⟩:=h;obtain⟨m,p,t⟩:=I.loc;obtain⟨u,r,l⟩:=t i x v hN e hv;have d:EP X f o Q u s:=⟨v,H,I,r,h⟩;rcases l with⟨b,q⟩|⟨b,c,n,a⟩;.exact wpAny_Name (wpAny_loadName_local I.ok.kind b p q d) j
 .rcases b with b|b;.exact wpAny_Name (wpAny_loadName_cell I.ok.kind b n a d) j
  .exact wpAny_Name (wpAny_loadName_free I.ok.kind b n a d k) j
def Jx{i j a}:PE X (.Constant (.int i) j a) (tC<|.int i):=λ_ _ _ H _ I h=>wpAny_Constant_int ⟨.int i,H,I.tok _,⟨_,rfl⟩,h⟩
def VX{b j a}:PE X (.Constant (.bool b) j a) (tC<|.bl b):=λ_ _ _ H _ I h=>Constant_bool ⟨.bl b,H,I,rfl,h⟩
def Dz{j a}:PE X (.Constant .none j a) (tC .non):=λ_ _ _ H _ I h=>Constant_none ⟨.non,H,I,rfl,h⟩
def Wg{x j a}:PE X (.Constant (.str x) j a) (tC<|.str x):=λ_ _ _ H _ I h=>Calls.Constant_str ⟨.str x,H,I.tok _,⟨_,rfl⟩,h⟩
def Gl(X:Cx)(x:iS):Prop:=X.env.kindOf x=some .globalImplicit
def CY{E}{a}{s}{c}{H}{x}{u}{b}{Q}(I:Inv X a c H s)(e:Gl X x)(d:X.mg x=some u)(h:Q u s)
 (f:lL x):wpAny (model X.prog X.w) X.A (eval (.Name x b) X.env) Q E s:=
  fX I.ok.kind e (Calls.loadGlobal_global (by rw[I.ok.glob];exact I.mod.glob.keeps I.bk) d h) f
def ui{E:j0}{a}{s}{c}{H}{x}{u}{b}{Q}(I:Inv X a c H s)(f:Gl X x)(e:X.mg x=none)(hv:bootBuiltins x=some u)(h:Q u s)
 (d:x≠"__name__")(g:lL x):wpAny (model X.prog X.w) X.A (eval (.Name x b) X.env) Q E s:=by obtain⟨k,j,i⟩:=I.mod.blt;exact fX I.ok.kind f (Calls.loadGlobal_builtin (by rw[I.ok.glob];exact I.mod.glob.keeps I.bk) e (by rw[I.ok.blt];exact j.keeps I.bk) ((i x d).trans hv) h) g
def VY(c:Gl X x)(b:X.mg x=none)(hv:bootBuiltins x=some u)(r:RelV v u)(a:x≠"__name__")(d:lL x):PE X (.Name x pos) (tC v):=
 λ_ _ _ H _ I h=>ui I c b hv ⟨v,H,I,r,h⟩ a d
variable{a b:jf}{L S:TE}{F:Pos}
def PC(X:Cx)(f:CmpOp)(a b:jf)(t:TE):Prop:=
 ∀(c:kv) (s:i7) (r:St) (H:Hp) (Q:VK),Inv X c r H s->t r H Q->
  wpAny (model X.prog X.w) X.A (eval a X.env) (λv e=>wpAny (model X.prog X.w) X.A (eval b X.env) (λu d=>wpAny (model X.prog X.w) X.A (compareOp f v u) (EP X c r Q) X.xe d) X.xe e) X.xe s
def tB(t:TE):TT:=λd H Q=>t d H λx e=>∃c,x=.bl c/\Q c e
def WO{f:CmpOp}{t}(h:PC X f a b t)(i:behindInMarks f b=false):PT X (.Compare a [f] [b] F) (tB t):=by intro e s j H Q I m;refine wpAny_isTrue_Compare1 (je (h e s j H _ I m) λv y i=>je i λu w n=>je n λc r g=>?_) i;obtain⟨x,p,o,k,l⟩:=g;obtain⟨d,rfl,q⟩:=l;cases k;exact cP ⟨p,o,q⟩
variable{M O:TT}{rest:kK}
def Zx(t u:TT):TT:=λd H Q=>t d H λc e=>if c=true then u d e Q else Q false e
def Z6(t u:TT):TT:=λd H Q=>t d H λc e=>if c=true then Q true e else u d e Q
def Z4(t:TT):TT:=λd H Q=>t d H λc e=>Q (!c) e
def J4(g:PT X a M):PW X (.BoolOp .And [a] F) M:=by
 intro i d s f H Q I h;refine isTrue_and (je (g d s f H Q I h) λc j e=>?_);cases c with
 |true=>exact isTrue_and_nil e
 |false=>exact e
def WS(g:PT X a M):PW X (.BoolOp .Or [a] F) M:=by
 intro i d s f H Q I h;refine isTrue_or (je (g d s f H Q I h) λc j e=>?_);cases c with
 |false=>exact isTrue_or_nil e
 |true=>exact e
def J3(m:PT X a M)(l:PW X (.BoolOp .And (b::rest) F) O):PW X (.BoolOp .And (a::b::rest) F) (Zx M O):=by
 intro j d s e H Q I h;refine isTrue_and (je (m d s e H _ I h) λc k ⟨i,g,f⟩=>?_);cases c with
 |true=>exact l j d k e i Q g f
 |false=>exact⟨i,g,f⟩
def WR(m:PT X a M)(l:PW X (.BoolOp .Or (b::rest) F) O):PW X (.BoolOp .Or (a::b::rest) F) (Z6 M O):=by
 intro j d s e H Q I h;refine isTrue_or (je (m d s e H _ I h) λc k ⟨i,g,f⟩=>?_);cases c with
 |true=>exact⟨i,g,f⟩
 |false=>exact l j d k e i Q g f
def JZ(f:PT X a M):PT X (.UnaryOp .Not a F) (Z4 M):=by intro d s e H Q I h;exact isTrue_not (f d s e H (λc g=>Q (!c) g) I h)
def Zy(L S:TE):TE:=λd H Q=>L d H λx e=>∃c,x=.bl c/\if c=true then S d e Q else Q (.bl false) e
def Z5(L:TE):TE:=λd H Q=>L d H λx e=>∃c,x=.bl c/\Q (.bl<|!c) e
def Wc{e t}(h:PE X a t):PE X (.BoolOp e [a] F) t:=λc s d H Q I f=>BoolOp_one (h c s d H Q I f)
def VV(n:PE X a L)(m:PE X (.BoolOp .And (b::rest) F) S):PE X (.BoolOp .And (a::b::rest) F) (Zy L S):=by
 intro d s g H Q I h;refine BoolOp_and (je (n d s g H _ I h) λv k f=>?_);obtain⟨x,j,i,l,e⟩:=f;obtain⟨c,rfl,e⟩:=e;cases l;refine cP ?_;cases c with
 |true=>exact m d k g j Q i e
 |false=>exact⟨.bl false,j,i,rfl,e⟩
def Jz(j:PE X a L):PE X (.UnaryOp .Not a F) (Z5 L):=by intro d s g H Q I h;refine UnaryOp_ (je (j d s g H _ I h) λv m f=>?_);obtain⟨x,l,k,i,e⟩:=f;obtain⟨c,rfl,e⟩:=e;cases i;exact not_of (cP ⟨.bl<|!c,l,k,rfl,e⟩)
def ZV(t:TT)(L S:TE):TE:=λd H Q=>t d H λc e=>if c=true then L d e Q else S d e Q
def V9{c:jf}(l:PT X c M)(n:PE X a L)(m:PE X b S):PE X (.IfExp c a b F) (ZV M L S):=by
 intro e s f H Q I h;refine wpAny_IfExp (je (l e s f H _ I h) λd g ⟨k,j,i⟩=>?_);cases d with
 |true=>exact n e g f k Q j i
 |false=>exact m e g f k Q j i
abbrev _root_.rn:=jZ iT
def lH(K:i9)(H:Hp)(a:iR)(d:aa V):Prop:=
 Rd H a (.lst d)\/
  ∃(o:lj) (c:rn) (n:Nat),K.lookup a=some o/\o.cls=.type "list"/\o.dict=none/\o.data=.seq c n/\c.size<=sizeLine/\Vals d c.toList
def mJ(K:i9)(H:Hp)(a:iR)(d:aa V):Prop:=
 Rd H a (.tup d)\/
  ∃(o:lj) (c:rn) (n:Nat),K.lookup a=some o/\o.cls=.type "tuple"/\o.data=.seq c n/\c.size<=sizeLine/\Vals d c.toList
noncomputable def Mp:iT->i0 V
 |.none=>some .non
 |.bool b=>some (.bl b)
 |.int i _=>some (.int i)
 |.str x _=>some (.str x)
 |.bytes b _=>some (.ou b)
 |.float b _=>some (.flt b)
 |.ref a=>some (.ref a)
 |.type n=>some (.ty n)
 |_=>none
def RelV.abs(r:RelV x u):Mp u=some x:=by
 cases x with
 |non=>cases r;rfl
 |bl _=>cases r;rfl
 |int _=>obtain⟨t,rfl⟩:=r;rfl
 |str _=>obtain⟨t,rfl⟩:=r;rfl
 |ou _=>obtain⟨t,rfl⟩:=r;rfl
 |flt _=>obtain⟨t,rfl⟩:=r;rfl
 |ref _=>cases r;rfl
 |ty _=>cases r;rfl
def RelV.inj{x}{u}(r:RelV x u)(q:RelV y u):x=y:=Option.some.inj (r.abs.symm.trans q.abs)
theorem Vals.inj:∀{d c:aa V} {e:kn},Vals d e->Vals c e->d=c
 |_,_,_,.nil,.nil=>rfl
 |_,_,_,.cons r t,.cons g f=>by rw[r.inj g,Vals.inj t f]
variable{B:kv}{C:St}{H:Hp}{s:i7}{a:iR}{J U:aa V}
def Inv.list(I:Inv X B C H s)(h:lH X.K H a J):∃c:aa iT,Vals J c/\PlainL s.heap a c.toArray/\J.length<=sizeLine:=by
 rcases h with h|⟨o,c,n,hk,hc,hd,hs,hz,r⟩
 .obtain⟨z,c,n,r,e⟩:=h.ok I.hok;exact⟨c,r,⟨_,n,e,rfl,rfl,rfl⟩,z⟩
 .refine⟨c.toList,r,⟨o,n,I.mj a o hk,hc,hd,by simpa using hs⟩,?_⟩;have e:=r.length;simp only[aF]at e;simp_all
def Inv.tuple(I:Inv X B C H s)(h:mJ X.K H a J):∃c:aa iT,Vals J c/\IsTup s.heap a c.toArray/\J.length<=sizeLine:=by
 rcases h with h|⟨o,c,n,hk,hc,hs,hz,r⟩
 .obtain⟨z,c,r,p⟩:=h.ok I.hok;exact⟨c,r,p,z⟩
 .refine⟨c.toList,r,⟨o,I.mj a o hk,hc,n,by simpa using hs⟩,?_⟩;have e:=r.length;simp only[aF]at e;simp_all
def Inv.SI(I:Inv X B C H s)(h:lH X.K H a J)(k:lH X.K H a U):J=U:=by
 obtain⟨f,r,⟨o,n,e,_,_,d⟩,_⟩:=I.list h;obtain⟨c,j,⟨l,m,g,_,_,i⟩,_⟩:=I.list k;rw[e]at g;cases g;rw[d]at i;injection i with d1 _;have:f=c:=by simpa using bG Array.toList d1
 subst this;exact r.inj j
def Inv.aaq(I:Inv X B C H s)(h:mJ X.K H a J)(k:mJ X.K H a U):J=U:=by
 obtain⟨f,r,⟨o,e,_,n,d⟩,_⟩:=I.tuple h;obtain⟨c,j,⟨l,g,_,m,i⟩,_⟩:=I.tuple k;rw[e]at g;cases g;rw[d]at i;injection i with d1 _;have:f=c:=by simpa using bG Array.toList d1
 subst this;exact r.inj j
end
section
variable{X:Cx}{l:Stmt}{rest:aa Stmt}{t u:TS}{e:jf}{j:TE}{i:Pos}
def Z2:TS:=λD a H=>D.nx a H
def aab(t u:TS):TS:=λD a H=>t {D with nx:=u D} a H
def JX:ph X [] Z2:=λ_ _ a H _ I h=>fN ⟨a,H,I,h⟩
def JW(k:PS X l t)(g:ph X rest u):ph X (l::rest) (aab t u):=by
 intro a s c H D I h;refine wpAny_execs_cons (je (k a s c H {D with nx:=u D} I h) λf d q=>?_);cases f with
 |next=>obtain⟨b,n,m,q⟩:=q;exact g a d b n D m q
 |ret v=>exact q
 |brk=>exact q
 |cont=>exact q
def JY(c:PS X l t):ph X [l] t:=by
 intro a s b H D I h;refine wpAny_execs_cons (je (c a s b H D I h) λf d q=>?_);cases f with
 |next=>exact fN q
 |ret v=>exact q
 |brk=>exact q
 |cont=>exact q
def ZF:TS:=λD a H=>D.bk a H
def WH:PS X (.Break i) ZF:=λ_ _ a H _ I h=>wpAny_Break ⟨a,H,I,h⟩
def Inv.quiet(I:Inv X pins r H s):interactive X.env=false:=by simp[interactive,I.ok.kind]
def ZQ(j:TE):TS:=λD a H=>j a H λ_ b=>D.nx a b
def zY(f:PE X e j)(d:swapsWith e none i.line X.env=pure false):PS X (.Expr e i) (ZQ j):=by intro a s b H D I h;exact wpAny_Expr_any (je (f a s b H _ I h) λv m ⟨x,k,g,n,c⟩=>⟨b,k,g,c⟩) I.quiet d
def aaa(j:TE):TS:=λD a H=>j a H D.rt
def JU(f:PE X e j):PS X (.Return (some e) i) (aaa j):=by intro a s b H D I h;exact wpAny_Return_some (je (f a s b H _ I h) λv m ⟨x,k,g,c,d⟩=>⟨x,b,k,g,c,d⟩)
def ZX(c:TT)(t u:TS):TS:=λD a H=>c a H λb d=>if b=true then t D a d else u D a d
def JT(p:PT X c tc)(r:ph X a t)(q:ph X b u):PS X (.If c a b i) (ZX tc t u):=by
 intro f s g H D I h;refine wpAny_If (je (p f s g H _ I h) λd k ⟨o,n,m⟩=>?_);cases d with
 |true=>exact r f k g o D n m
 |false=>exact q f k g o D n m
end
abbrev TG:=V->St->Hp->(St->Hp->Prop)->Prop
abbrev tI:=aa V->St->Hp->(St->Hp->Prop)->Prop
def PG(X:Cx)(a:jf)(t:TG):Prop:=
 ∀b s d H v u Q,Inv X b d H s->RelV v u->t v d H Q->
  wpAny (model X.prog X.w) X.A (assign a X.env u) (λ_ f=>∃c e,Inv X b c e f/\Q c e) X.xe s
def uR(X:Cx)(g:kK)(t:tI):Prop:=
 ∀a s c H d e Q,Inv X a c H s->Vals d e->t d c H Q->
  wpAny (model X.prog X.w) X.A (assignInOrder ((assignEach g X.env).map (·.2)) e) (λ_ h=>∃b f,Inv X a b f h/\Q b f) X.xe s
abbrev Fh:=V->V->V->Hp->(Hp->Prop)->Prop
def E4(X:Cx)(t:Fh):Prop:=
 ∀a s b H o i v c d u Q,Inv X a b H s->RelV o c->RelV i d->RelV v u->t o i v H Q->
  wpAny (model X.prog X.w) X.A (setItem c d u) (λ_ f=>∃e,Inv X a b e f/\Q e) X.xe s
abbrev yq:=V->V->Hp->VK->Prop
def yj(X:Cx)(c:Operator)(t:yq):Prop:=
 ∀a s b H x y v u Q,Inv X a b H s->RelV x v->RelV y u->t x y H Q->
  wpAny (model X.prog X.w) X.A (inplaceOp c v u) (EP X a b Q) X.xe s
section
variable{X:Cx}{B:Pos}
def qL(i:Nat):TG:=λv a H Q=>Q (a.set i<|some v) H
def xw(hN:X.N.Nodup)(c:X.N[i]?=some x)(b:Loc X.env.scope x)(hf:X.hf x):PG X (.Name x B) (qL i):=by intro a s e H v u Q I r h;exact wpAny_assign_Name (xF I hN c b r (λf d=>⟨_,H,d,h⟩) hf)
def Pn:tI:=λb a H Q=>b=[]/\Q a H
def Pj(t:TG)(u:tI):tI:=λc b H Q=>∃v r,c=v::r/\t v b H λa d=>u r a d Q
def JJ:uR X [] Pn:=by intro a s b H c d Q I r h;obtain⟨e,h⟩:=h;subst e;cases r;exact assignInOrder_nil ⟨b,H,I,h⟩
def JI{t}(l:PG X e t)(k:uR X es u)
 (j:(assignEach (e::es) X.env).map (·.2)=assign e X.env::(assignEach es X.env).map (·.2)):uR X (e::es) (Pj t u):=by
  intro a s d H p w Q I r h;obtain⟨v,q,m,h⟩:=h;subst m;cases r with
  |cons r g=>rw[j];refine fY (je (l a s d H _ _ _ I r h) λ_ f c=>?_);obtain⟨b,o,n,i⟩:=c;exact k a f b o _ _ Q n g i
def Pp(K:i9)(n:Nat)(t:tI):TG:=λv c H Q=>∃a b,v=.ref a/\mJ K H a b/\b.length=n/\t b c H Q
def JH{k t}(y:X.calm=true)(h:uR X es t)
 (w:(assignEach es X.env).length=n)(f:(assignEach es X.env).findIdx? (·.1)=none):PG X (.Tuple es k B) (Pp X.K n t):=by intro c s g H v u Q I r d;obtain⟨a,j,A,q,x,d⟩:=d;subst A;cases r;obtain⟨l,i,p,D⟩:=I.tuple q;refine assign_Tuple_tuple (I.ok.hd y) p (by simp[w,<-x,i.length]) f λz m=>?_;have C:Inv X c g H {s with heap:=z}:=I.kept (t':=s.toks) λb o e=>m b o (aV<|aM e) e;exact h c _ g H j _ Q C (by simpa using i) d
def Po(to b:TE)(t:Fh):TG:=λv a H Q=>to a H λo e=>b a e λi d=>t o i v d λc=>Q a c
def Wl{t}(q:PE X o to)(w:PE X i ti)(p:E4 X t)
 (z:∀v,assign (.Subscript o i B) X.env v=(do
 let c<-holding [v] (eval o X.env)
 let d<-holding [v,c] (eval i X.env)
 standAt B
 holding [v,c,d] (setItem c d v)
 release [v,c,d] [])):PG X (.Subscript o i B) (Po to ti t):=by intro a s e H v u Q I r h;rw[z];refine ae (bH<|je (q a s e H _ I h) λc g b=>?_);obtain⟨x,G,D,k,n⟩:=b;refine ae (bH<|je (w a g e G _ D n) λd f b=>?_);obtain⟨y,F,C,j,m⟩:=b;refine ae (fJ<|ae<|bH<|je (p a f e F x y v c d u _ C k j r m) λ_ J ⟨E,A,l⟩=>?_);exact wpAny_release ⟨e,E,A,l⟩
def Ee(b:TE)(g:TG):TS:=λD a H=>b a H λx c=>g x a c D.nx
def WE(m:PE X e te)(l:PG X tg g)(k:swapsWithSole [tg] e B.line X.env=pure false)(j:swappedStores [tg] e X.env=pure none)
 (n:(assignEach [tg] X.env).map (·.2)=[assign tg X.env]):PS X (.Assign [tg] e B) (Ee te g):=by intro a s c H D I h;refine wpAny_Assign_stores (je (m a s c H _ I h) λv d b=>?_) k j;obtain⟨x,p,o,f,i⟩:=b;rw[n];exact je (l a d c p x v _ o f i) λ_ r q=>q
def DL(hN:X.N.Nodup)(k:X.N[i]?=some x)(g:Loc X.env.scope x)(l:PE X e te)(j:swapsWith e (some<|.Name x pos') B.line X.env=pure false)(hf:X.hf x):
    PS X (.Assign [.Name x pos'] e B) (Ee te<|qL i):=by
 intro a s c H D I h;refine wpAny_Assign_Name (je (l a s c H _ I h) λv q b=>?_) j;obtain⟨y,o,n,d,f⟩:=b;exact xF n hN k g d (λp m=>⟨_,o,m,f⟩) hf
def Z7(i j:Nat)(c:TA):TS:=λD a H=>c a H λb d=>∃v w,b=[v,w]/\D.nx ((a.set i<|some v).set j (some w)) d
def WJ{pt n r d}(S:X.calm=true)(hN:X.N.Nodup)(R:X.N[i]?=some x)(Q:X.N[j]?=some y)(z:i≠j)
 (E:X.env.scope.names.lookup x=some .local)(C:X.env.scope.names.lookup y=some .local)(T:PA X [a,b] ta)
 (O:swappedStores [.Tuple [.Name x px,.Name y py] n pt] (.Tuple [a,b] r d) X.env=pure (some [x,y]))
 (P:swapsWithSole [.Tuple [.Name x px,.Name y py] n pt] (.Tuple [a,b] r d) B.line X.env=pure false):
   PS X (.Assign [.Tuple [.Name x px,.Name y py] n pt] (.Tuple [a,b] r d) B) (Z7 i j ta):=by
  intro c s A H D I h;rw[exec_Assign_arm];refine ae (fJ ?_);rw[P];refine ae (ah ?_);rw[aA<|by decide];refine ae (Tuple_<|je (T _ c s A H _ I h) λJ k u=>?_);obtain⟨vs,G,Z,L,m⟩:=u;obtain⟨v,w,U,m⟩:=m;subst U;obtain⟨g,f,rfl,K,l⟩:∃g f,J=[g,f]/\RelV v g/\RelV w f:=by
   cases L with
   |cons p q=>
    cases q with
    |cons N M=>cases M;exact⟨_,_,rfl,p,N⟩
  refine bc ?_ (by show 2<=sizeLine;decide);have Y:Inv X c A G {k with heap:=k.heap.push {cls:=.type "tuple",data:=.seq [g,f].toArray}}:=Z.kept (t':=k.toks) λb o e=>ai _ e;rw[O];refine ae (ah ?_);show wpAny (model X.prog X.w) X.A (do rule "assign.swapped-stores";let items<-unpackItems (.ref k.heap.objs.size) 2 none;assignInOrder [λv=>bindName X.env y v,λv=>bindName X.env x v] items.reverse;pure Flow.next) _ _ _;refine ae (gS<|ae<|unpackItems_tuple (items:=#[g,f]) (I.ok.hd S) (IsTup.new k.heap _) λh' t=>?_);have W:=Y.kept (h':=h') (t':=k.toks) λb o e=>t b o (aV<|aM e) e;show wpAny _ _ (assignInOrder [λv=>bindName X.env y v,λv=>bindName X.env x v] [f,g]>>=λ_=>pure Flow.next) _ _ _;refine ae (fY<|h8<|xF W hN Q (.inl C) l (λs2 V=>?_)<|.inr C);refine fY (h8<|xF V hN R (.inl E) K (λs3 F=>assignInOrder_nil<|ah ?_)<|.inr E);rw[iE _ _<|bK z]at F;exact⟨_,G,F,m⟩
def Zz(i:Nat)(c:TE)(b:yq):TS:=λD a H=>∃x,a[i]?=some (some x)/\c a H λy e=>b x y e λz d=>D.nx (a.set i<|some z) d
def WG(hN:X.N.Nodup)(q:X.N[i]?=some x)(o:Loc X.env.scope x)(N:PE X e te)(J:yj X op ti)(hf:X.hf x):
    PS X (.AugAssign (.Name x pos') op e B) (Zz i te ti):=by
 intro a s p H D I h;obtain⟨v,P,h⟩:=h;obtain⟨m,K,M⟩:=I.loc;have n:pT X.env.scope x:=by rcases o with k|k;exact .inl k;exact .inr (.inl k)
 obtain⟨u,r,l⟩:=M i x v q P n;refine wpAny_AugAssign_Name ?_;have t:wpAny (model X.prog X.w) X.A (eval e X.env) (λw j=>wpAny (model X.prog X.w) X.A (inplaceOp op u w) (λr g=>wpAny (model X.prog X.w) X.A (storeName X.env x r) (λ_=>SP X a D .next) X.xe g) X.xe j) X.xe s:=by refine je (N a s p H _ I h) λw A d=>?_;obtain⟨y,U,S,E,G⟩:=d;refine je (J a A p U v y u w _ S r E G) λz Y d=>?_;obtain⟨V,T,R,C,F⟩:=d;exact xF R hN q o C (λW Q=>⟨_,T,Q,F⟩) hf
 rcases l with⟨b,L⟩|⟨b,c,O,f⟩;.exact wpAny_loadName_local I.ok.kind b K L t
 .rcases b with b|b;.exact wpAny_loadName_cell I.ok.kind b O f t
  .rcases o with k|k
   .have:X.env.scope.names.lookup x=some .free:=b;rw[k]at this;cases this
   .have:X.env.scope.names.lookup x=some .free:=b;rw[k]at this;cases this
def HI(f:Int->Int->Int):yq:=λx y H Q=>∃i j,x=.int i/\y=.int j/\Q (.int<|f i j) H
def Rx:yj X .Add (HI λi j=>i+j):=by intro a s f H x y v u Q I c b h;obtain⟨i,j,e,d,q⟩:=h;subst e;subst d;obtain⟨t,rfl⟩:=c;obtain⟨g,rfl⟩:=b;exact iadd_int ⟨.int _,H,I.tok _,⟨_,rfl⟩,q⟩
def Rz:yj X .Sub (HI λi j=>i - j):=by intro a s f H x y v u Q I c b h;obtain⟨i,j,e,d,q⟩:=h;subst e;subst d;obtain⟨t,rfl⟩:=c;obtain⟨g,rfl⟩:=b;exact isub_int ⟨.int _,H,I.tok _,⟨_,rfl⟩,q⟩
def aae(c:TT)(h:TS):TS:=λD a H=>∃W:Nat->St->Hp->Prop,(∃m,W m a H)/\∀m a H,W m a H->
 c a H λb f=>if b=true then∃N:St->Hp->Prop,(∀d g,N d g->∃e,e<m/\W e d g)/\h {D with nx:=N,ct:=N,bk:=D.nx} a f else D.nx a f
def WL(t:PassesOwn (model X.prog X.w) X.A X.env X.xe)(K:PT X c tc)(L:ph X body tb):PS X (.While c body [] B) (aae tc tb):=by
 intro d s z H D I h;obtain⟨W,⟨J,C⟩,i⟩:=h;refine wpAny_While (codeAny_whileLoop (λn G=>∃g y,Inv X d g y G/\W n g y) ?_ J ⟨z,H,I,C⟩)
 rintro n F ⟨e,x,M,A⟩
 refine c8 t (je (K d F e x _ M<|i n e x A) λb E ⟨w,u,l⟩=>?_);cases b with
 |true=>
  obtain⟨N,hN,l⟩:=l;rw[aq rfl];refine c8 t (je (L d E e w _ u l) λf O k=>?_);cases f with
  |next=>obtain⟨a,j,r,o⟩:=k;obtain⟨p,q,m⟩:=hN a j o;exact⟨p,q,a,j,r,m⟩
  |cont=>obtain⟨a,j,r,o⟩:=k;obtain⟨p,q,m⟩:=hN a j o;exact⟨p,q,a,j,r,m⟩
  |brk=>exact k
  |ret v=>exact k
 |false=>rw[aA av];exact fN ⟨e,w,u,l⟩
end
structure It where
 go:Nat->Hp->Prop
 xN:Nat->Hp->V->Hp->Prop
 stop:Nat->Hp->Prop
def sy(X:Cx)(a:kv)(H:Hp)(b:iR):Prop:=
 H b=none/\b≠X.env.locals/\b∉X.fs/\(b∈X.ex\/X.s₀.heap.objs.size<=b)/\(∀x c,X.env.cells.lookup x=some c->c≠b)/\∀p∈X.pn++a,p.1≠b
def Inv.vo{d}(I:Inv X pins r H s)(a:s.heap.objs.size<=b)(g:d b=none):sy X pins d b:=by
 refine⟨g,dE<|aE I.lt a,I.Up a,.inr<|aW I.sz a,λx c e z=>?_,λp f z=>?_⟩
 .obtain⟨v,q⟩:=I.cell x c e;exact absurd (aE q.lt (by rw[z];exact a)) (cL _)
 .exact absurd (aE (aM (I.pin p f).1)<|by rw[z];exact a) (cL _)
structure Turn(P:jE)(w:jz)(K:i9)(tg:jf)(J:It)(fp:nW)(it:iR)(tn:Nat->jb->Prop):Prop where
 mem:it∈fp
 obj:∀i h,tn i h->∀b∈fp,∃o,h.get? b=some o/\∀v,o.data≠.cell v
 keep:∀i h h',tn i h->(∀b∈fp,∀o,h.get? b=some o->h'.get? b=some o)->tn i h'
 item:∀(X:Cx),X.prog=P->X.w=w->X.K=K->X.calm=true->∀(i:Nat) (pins:kv) (s:i7) (y:St) (H:Hp) (E:j0),Inv X pins y H s->(∀b∈fp,sy X pins H b)->tn i s.heap->J.go i H->
  wpAny (model P w) X.A (pyNext (.ref it)) (λr s1=>∃u,r=some u/\
   wpAny (model P w) X.A (letOwnedTupleGo tg (.ref it) u) (λ_ s2=>∃x H',Inv X pins y H' s2/\RelV x u/\J.xN i H x H'/\tn (i+1) s2.heap/\∀b∈fp,H' b=none) E s1) E s
 done:∀(X:Cx),X.prog=P->X.w=w->X.K=K->X.calm=true->∀(i:Nat) (pins:kv) (s:i7) (y:St) (H:Hp) (E:j0),Inv X pins y H s->(∀b∈fp,sy X pins H b)->tn i s.heap->J.stop i H->
  wpAny (model P w) X.A (pyNext<|.ref it) (λr s1=>r=none/\Inv X pins y H s1) E s
 self:∀(A:jY) (i:Nat) (s:i7) (Q:j0) (E:j0),tn i s.heap->Q (.ref it) s->wpAny (model P w) A (pyIter<|.ref it) Q E s
abbrev TI:=St->Hp->(It->Hp->Prop)->Prop
def PIE(X:Cx)(a:kv)(i:St)(j:jf)(R:It->Hp->Prop)(c:iT)(f:i7):Prop:=
 ∃g h e J d,c=.ref g/\Inv X a i d f/\Turn X.prog X.w X.K j J h g e/\e 0 f.heap/\(∀b∈h,sy X a d b)/\R J d
def PI(X:Cx)(e b:jf)(d:TI):Prop:=
 ∀a s c H R,Inv X a c H s->d c H R->
  wpAny (model X.prog X.w) X.A (eval b X.env) (λv f=>wpAny (model X.prog X.w) X.A (pyIter v) (PIE X a c e R) X.xe f) X.xe s
def vu{s}{Q}(b:s.heap.get? it=some o)(e:o.cls=.type n)(d:o.data=.fields vs)
 (c:["enumerate","zip","dict_itemiterator","dict_reverseitemiterator","odict_iterator","itertools.zip_longest","itertools.pairwise"].contains n=false)(a:Q () s):wpAny M A (letOwnedTupleGo tg (.ref it) u) Q E s:=by
  unfold letOwnedTupleGo
  cases tg<;>first
   |exact ah a
   |(cases u<;>first
      |exact ah a
      |(refine ae (wpAny_load b ?_)
        rw[e,d];show wpAny M A (if(["enumerate","zip","dict_itemiterator","dict_reverseitemiterator","odict_iterator","itertools.zip_longest","itertools.pairwise"].contains n&&vs[0]?==some (rawInt _))=true then _ else _) Q E s;rw[aA (by intro h;rw[c,Bool.false_and]at h;cases h)];exact ah a))
def AK(K:i9)(a:iR):It:=
 ⟨λi H=>∃b x,lH K H a b/\b[i]?=some x,λi H x c=>c=H/\∀b,lH K H a b->b[i]?=some x,λi H=>∃b,lH K H a b/\b.length<=i⟩
def AL(K:i9)(a:iR):It:=
 ⟨λi H=>∃b x,mJ K H a b/\b[i]?=some x,λi H x c=>c=H/\∀b,mJ K H a b->b[i]?=some x,λi H=>∃b,mJ K H a b/\b.length<=i⟩
def ye(lo:Int)(n:Nat):It:=⟨λi _=>i<n,λi H x a=>a=H/\x=.int (lo+i),λi _=>n<=i⟩
def aas{P}{w}{K}{Q}(a it):Turn P w K Q (AK K a) [it] it (λi h=>h.IsListIter it a i) where
 mem:=by simp
 obj:=λi h f b j=>by
  have e:b=it:=by simpa using j
  subst e;obtain⟨o,e,c,d⟩:=f;exact⟨o,e,λv z=>by rw[d]at z;cases z⟩
 keep:=λi h n f k=>f.at λo e=>k it (by simp) o e
 item:=by intro X B y C N i g s M H E I hf f A;subst B y C;obtain⟨O,x,m,t⟩:=A;obtain⟨r,q,p,T⟩:=I.list m;obtain⟨u,V,S⟩:=q.get t;obtain⟨L,J,W,G,F,D⟩:=hf it (by simp);refine wpAny_pyNext_list_item f p.isList (x:=u) (by simpa using V) λn l R=>?_;have Z:Inv X g M H {s with heap:=n}:=I.turned (t':=s.toks) (λb o j e=>(R.2 b j).trans e) L J G F D;obtain⟨o,e,c,d⟩:=id l;exact⟨u,rfl,vu (s:={s with heap:=n}) e c d (by decide) ⟨x,H,Z,S,⟨rfl,λys U=>by rw[I.SI U m];exact t⟩,l,λb j=>(hf b j).1⟩⟩
 done:=by intro X B y C N i g s M H E I hf f A;subst B y C;obtain⟨O,m,t⟩:=A;obtain⟨r,q,p,T⟩:=I.list m;obtain⟨L,J,W,G,F,D⟩:=hf it (by simp);have hl:=q.length;exact wpAny_pyNext_list_end (I.ok.hd N) f p.isList (by simp;simp_all) λn Y=>⟨rfl,I.turned (t':=s.toks) (λb o j e=>Y b o j e) L J G F D⟩
 self:=λ_ _ _ _ _ f h=>wpAny_pyIter_listiter f h
def aau{P}{w}{K}{Q}(a it):Turn P w K Q (AL K a) [it] it (λi h=>h.IsTupleIter it a i) where
 mem:=by simp
 obj:=λi h f b l=>by
  have e:b=it:=by simpa using l
  subst e;obtain⟨o,e,c,d⟩:=f;exact⟨o,e,λv z=>by rw[d]at z;cases z⟩
 keep:=λi h q f k=>f.at λo e=>k it (by simp) o e
 item:=by intro X B y C N i g s M H E I hf f A;subst B y C;obtain⟨O,x,n,t⟩:=A;obtain⟨j,r,p,T⟩:=I.tuple n;obtain⟨u,V,S⟩:=r.get t;obtain⟨L,J,W,G,F,D⟩:=hf it (by simp);refine wpAny_pyNext_tuple_item f (show s.heap.IsTuple a j.toArray from p) (x:=u) (by simpa using V) λq m R=>?_;have Z:Inv X g M H {s with heap:=q}:=I.turned (t':=s.toks) (λb o l e=>(R.2 b l).trans e) L J G F D;obtain⟨o,e,c,d⟩:=id m;exact⟨u,rfl,vu (s:={s with heap:=q}) e c d (by decide) ⟨x,H,Z,S,⟨rfl,λys U=>by rw[I.aaq U n];exact t⟩,m,λb l=>(hf b l).1⟩⟩
 done:=by intro X B y C N i g s M H E I hf f A;subst B y C;obtain⟨O,n,t⟩:=A;obtain⟨j,r,p,T⟩:=I.tuple n;obtain⟨L,J,W,G,F,D⟩:=hf it (by simp);have hl:=r.length;exact wpAny_pyNext_tuple_end (I.ok.hd N) f (show s.heap.IsTuple a j.toArray from p) (by simp;simp_all) λq Y=>⟨rfl,I.turned (t':=s.toks) (λb o l e=>Y b o l e) L J G F D⟩
 self:=λ_ _ _ _ _ f h=>wpAny_pyIter_tupleiter f h
def aat{P}{w}{K}{D}(it)(lo)(n):Turn P w K D (ye lo n) [it] it (λi h=>IsRangeIter h it (lo+(i:Nat)*1) ((n:Int) - (i:Nat)) 1) where
 mem:=by simp
 obj:=λi h a b d=>by
  have e:b=it:=by simpa using d
  subst e;exact⟨_,a,λv z=>by have C:Data.fields _=Data.cell v:=z;cases C⟩
 keep:=λi h g a k=>k it (by simp) _ a
 item:=by intro X p j q m i c s B H E I hf a l;subst p j q;obtain⟨A,y,G,x,u,r⟩:=hf it (by simp);have W:=Walks.range (prog:=X.prog) (w:=X.w) (I.ok.hd m) it lo 1 n;refine W.item i s _ _ l a λv g tk hv f F=>?_;obtain⟨t,rfl⟩:=hv;have L:Inv X c B H {s with heap:=g,toks:=tk}:=I.turned (λb o d e=>F b o (by simpa using d) e) A y x u r;refine⟨_,rfl,vu (s:={s with heap:=g,toks:=tk}) (n:="range_iterator") f rfl rfl (by decide) ⟨.int<|lo+i,H,L,⟨t,?_⟩,⟨rfl,rfl⟩,f,λb d=>(hf b d).1⟩⟩;rw[Int.mul_one]
 done:=by intro X p j q m i c s B H E I hf a l;subst p j q;obtain⟨A,y,G,x,u,r⟩:=hf it (by simp);exact wpAny_pyNext_range_end (I.ok.hd m) a (by have:n<=i:=l;lia) λg J=>⟨rfl,I.turned (t':=s.toks) (λb o d e=>J b o d e) A y x u r⟩
 self:=λ_ _ _ _ _ a h=>wpAny_pyIter_rangeiter a h
section
variable{X:Cx}{Y:jf}
def Rk(K:i9)(e:TE):TI:=λc H R=>e c H λx b=>∃a,x=.ref a/\(∃d,lH K b a d)/\R (AK K a) b
def Ro(K:i9)(e:TE):TI:=λc H R=>e c H λx b=>∃a,x=.ref a/\(∃d,mJ K b a d)/\R (AL K a) b
def DF{l:jf}{i}(t:PE X l i):PI X Y l (Rk X.K i):=by
 intro c s j H R I h;refine je (t c s j H _ I h) λv d g=>?_;obtain⟨x,w,f,k,m⟩:=g;obtain⟨a,e,⟨y,r⟩,q⟩:=m;subst e;cases k;obtain⟨n,z,p,A⟩:=f.list r;refine gf p.isList ?_;refine⟨d.heap.objs.size,[d.heap.objs.size],_,_,w,rfl,f.kept (t':=d.toks) λb o e=>ai _ e,aas a _,⟨_,aJ _ rfl,rfl,rfl⟩,λb u=>?_,q⟩;have e:b=d.heap.objs.size:=by simpa using u
 subst e;exact f.vo (af _) (f.hok.fresh<|af _)
def Wr{l:jf}{j}(t:PE X l j):PI X Y l (Ro X.K j):=by
 intro d s k H R I h;refine je (t d s k H _ I h) λv c i=>?_;obtain⟨x,w,f,m,n⟩:=i;obtain⟨a,e,⟨y,r⟩,q⟩:=n;subst e;cases m;obtain⟨g,z,p,A⟩:=f.tuple r;refine wpAny_pyIter_tuple (show c.heap.IsTuple a g.toArray from p) ?_;refine⟨c.heap.objs.size,[c.heap.objs.size],_,_,w,rfl,f.kept (t':=c.toks) λb o e=>ai _ e,aau a _,⟨_,aJ _ rfl,rfl,rfl⟩,λb u=>?_,q⟩;have e:b=c.heap.objs.size:=by simpa using u
 subst e;exact f.vo (af _) (f.hok.fresh<|af _)
def X8{R:It->Hp->Prop}{lo a}{t u v:Tok}{tk:Nat}(I:Inv X pins r H s)(i: -(2^62)<=lo)(h:lo<2^62)(g: -(2^62)<=a)(f:a<2^62)
 (q:R (ye lo (a - lo).toNat) H):wpAny (model X.prog X.w) X.A (pyIter<|.ref s.heap.objs.size) (PIE X pins r Y R) E {s with heap:=s.heap.push {cls:=.type "range",data:=.fields #[.int lo t,.int a u,.int 1 v]},toks:=tk}:=by
  refine wpAny_pyIter_range (IsRange.new ..) (small_one i h g f) ?_;have c:Inv X pins r H {s with heap:=s.heap.push {cls:=.type "range",data:=.fields #[.int lo t,.int a u,.int 1 v]},toks:=tk}:=I.kept λb o e=>ai _ e
  refine⟨(s.heap.push {cls:=.type "range",data:=.fields #[.int lo t,.int a u,.int 1 v]}).objs.size,[(s.heap.push {cls:=.type "range",data:=.fields #[.int lo t,.int a u,.int 1 v]}).objs.size],_,_,H,rfl,
   c.kept (t':=tk) λb o e=>ai _ e,aat _ lo (a - lo).toNat,?_,λb d=>?_,q⟩
  .have k:lo+((0:Nat):Int)*1=lo:=by simp
   have j:(((a - lo).toNat:Nat):Int) - ((0:Nat):Int)=Builtin.Range.rangeSize lo a 1:=by rw[rangeSize_one];split<;>grind
   show IsRangeIter _ _ (lo+((0:Nat):Int)*1) ((((a - lo).toNat:Nat):Int) - ((0:Nat):Int)) 1;rw[k,j];exact aJ _ rfl
  .have e:b=(s.heap.push {cls:=.type "range",data:=.fields #[.int lo t,.int a u,.int 1 v]}).objs.size:=by simpa using d
   subst e;exact c.vo (af _) (c.hok.fresh<|af _)
def Rm(c:TA):TI:=λa H R=>c a H λb d=>∃j:Int,b=[.int j]/\ -(2^62)<=j/\j<2^62/\R (ye 0 j.toNat) d
def Wo(m:Gl X "range")(l:X.mg "range"=none)(n:PA X [a] ta)(k:starEach [a] X.env=[(false,eval a X.env)]):PI X Y (.Call (.Name "range" p) [a] [] pos) (Rm ta):=by
 intro b s d H R I h;refine Call_ (ui I m l boot_range (dI (je (n pos b s d H _ I h) λv w ⟨u,x,o,g,c⟩=>?_) k rfl) (by decide)<|by decide);obtain⟨j,e,c,i,q⟩:=c;subst e;cases g with
 |cons r f=>cases f;obtain⟨t,rfl⟩:=r;exact call_range_1 (X8 o (by simp) (by simp) c i<|by simpa using q)
def ZU(f:TI)(g:TG)(h:TS):TS:=λD a H=>f a H λJ k=>∃W:Nat->Nat->St->Hp->Prop,(∃m,W 0 m a k)/\∀i m a H,W i m a H->
 (J.stop i H/\D.nx a H)\/(J.go i H/\∃N:St->Hp->Prop,(∀b c,N b c->∃e,e<m/\W (i+1) e b c)/\∀x c,J.xN i H x c->g x a c λd j=>h {D with nx:=N,ct:=N,bk:=D.nx} d j)
def xy(a:nW)(h:jb):aa (iR×lj):=a.filterMap λb=>(h.get? b).map λo=>(b,o)
def zE{h:jb}(a:b∈fp)(e:h.get? b=some o):(b,o)∈xy fp h:=aZ.mpr ⟨b,a,by rw[e];rfl⟩
def Uy(a:p∈xy fp h):p.1∈fp/\h.get? p.1=some p.2:=by
 obtain⟨b,c,e⟩:=aZ.mp a;cases q:h.get? b with
 |none=>rw[q]at e;cases e
 |some o=>rw[q]at e;have d:(b,o)=p:=Option.some.inj e;subst d;exact⟨c,q⟩
def Inv.pinned(I:Inv X pins r H s)(hf:∀b∈fp,sy X pins H b)(g:∀b∈fp,∃o,s.heap.get? b=some o/\∀v,o.data≠.cell v):Inv X (pins++xy fp s.heap) r H s:=
 I.JN λp f=>(aY.mp f).elim (λz=>I.pin p (bq _ z)) λz=>by obtain⟨a,e⟩:=Uy z;obtain⟨j,i,h,_⟩:=hf p.1 a;obtain⟨o,c,d⟩:=g p.1 a;rw[e]at c;cases c;exact⟨e,j,i,h,d⟩
def Inv.Ak(I:Inv X (pins++pl) r H s):Inv X pins r H s:=I.JN λp a=>I.pin p (bq _<|b8 _ a)
def DK(K:PassesOwn (model X.prog X.w) X.A X.env X.xe)(hc:X.calm=true)(hi:PI X Y iter wi)(hg:PG X Y g)(p:ph X body tb)
 (hs:∀x,foldedSetIterable iter X.env x=pure x):PS X (.For Y iter body [] pos) (ZU wi g tb):=by
  intro c s Z H D I h;refine wpAny_For (je (hi c s Z H _ I h) λv s1 h1=>je h1 λRL s2 h2=>?_) hs;obtain⟨it,M,tn,J,H2,e,I2,T,Q,f2,W,⟨m0,w0⟩,C⟩:=h2;subst e
  have l:∀{y:Hp},(∀b∈M,y b=none)->∀b∈M,sy X c y b:=λhn b p=>⟨hn b p,(f2 b p).2⟩;refine codeAny_forLoop_any (λn s'=>∃i k y,Inv X c k y s'/\tn i s'.heap/\(∀b∈M,y b=none)/\W i n k y) ?_ m0 ⟨0,Z,H2,I2,Q,λb p=>(f2 b p).1,w0⟩
  rintro n s3 ⟨i,j,O,I3,F,L,w3⟩
  rcases C i n j O w3 with⟨E,qn⟩|⟨go,N,hN,step⟩
  .refine c8 K (je (T.done X rfl rfl rfl hc i c s3 j O X.xe I3 (l L) F E) λr s4 ⟨S,I4⟩=>?_);subst S;exact fN ⟨j,O,I4,qn⟩
  .refine c8 K (je (T.item X rfl rfl rfl hc i c s3 j O X.xe I3 (l L) F go) λr s4 ⟨u,S,h4⟩=>?_);subst S;refine c8 K (je h4 λ_ s5 B=>?_);obtain⟨x,H5,I5,r5,y5,A,U⟩:=B;have V:=I5.pinned (l U) (T.obj _ _ A);refine c8 K (je (hg _ s5 j H5 x u _ V r5<|step x H5 y5) λ_ s6 B=>?_);obtain⟨P,H6,I6,q6⟩:=B;refine c8 K (je (p _ s6 P H6 _ I6 q6) λf R z=>?_);have q:∀{a:St} {w:Hp},Inv X (c++xy M s5.heap) a w R->N a w->∃m,m<n/\∃i k y,Inv X c k y R/\tn i R.heap/\(∀b∈M,y b=none)/\W i m k y:=λ{a w} t G=>by
    obtain⟨m',hm,w7⟩:=hN a w G;refine⟨m',hm,i+1,a,w,t.Ak,T.keep _ _ _ A λb p o e=>(t.pin (b,o)<|bq _<|bq _<|zE p e).1,λb p=>?_,w7⟩;obtain⟨o,e,d⟩:=T.obj _ _ A b p;exact(t.pin (b,o)<|bq _<|bq _<|zE p e).2.1
   cases f with
   |next=>obtain⟨a,w,t,G⟩:=z;exact q t G
   |cont=>obtain⟨a,w,t,G⟩:=z;exact q t G
   |brk=>obtain⟨a,w,t,z⟩:=z;exact⟨a,w,t.Ak,z⟩
   |ret v=>obtain⟨x7,a,w,t,r7,z⟩:=z;exact⟨x7,a,w,t.Ak,r7,z⟩
abbrev R2:=V->V->Hp->VK->Prop
def kI(X:Cx)(f:iT->iT->Sem iT)(r:R2):Prop:=
 ∀a s b H x y v u Q,Inv X a b H s->RelV x v->RelV y u->r x y H Q->
  wpAny (model X.prog X.w) X.A (f v u) (EP X a b Q) X.xe s
def yB(X:Cx)(f:iT->Sem iT)(r:V->Hp->VK->Prop):Prop:=
 ∀a s b H x v Q,Inv X a b H s->RelV x v->r x H Q->
  wpAny (model X.prog X.w) X.A (f v) (EP X a b Q) X.xe s
def ny(X:Cx)(f:iT)(r:aa V->Hp->VK->Prop):Prop:=
 ∀a s b H c d Q,Inv X a b H s->Vals c d->r c H Q->
  wpAny (model X.prog X.w) X.A (call f d) (EP X a b Q) X.xe s
def Mj(X:Cx)(r:V->Hp->(i6->Hp->Prop)->Prop):Prop:=
 ∀(a:kv) (s:i7) (u:St) (H:Hp) (x:V) (v:iT) (Q:rm),Inv X a u H s->RelV x v->r x H Q->
  wpAny (model X.prog X.w) X.A (truthy v) (TP X a u Q) X.xe s
def Ag(r:R2)(c b:TE):TE:=λa H Q=>c a H λx e=>b a e λy d=>r x y d Q
def tUn(r:V->Hp->VK->Prop)(b:TE):TE:=λa H Q=>b a H λx c=>r x c Q
def rI(C:Int->Int->Prop)(g:Int->Int->V):R2:=λx y H Q=>∃i j,x=.int i/\y=.int j/\C i j/\Q (g i j) H
def sX(g:Int->Int->V):R2:=λx y H Q=>∃i j,x=.int i/\y=.int j/\Q (g i j) H
def rU(g:Int->V):V->Hp->VK->Prop:=λx H Q=>∃i,x=.int i/\Q (g i) H
variable{a b c:jf}{F L tc:TE}{O:Pos}
def Bt(r:PE X a F)(q:PE X b L){R:V->V->Hp->Prop}(I:Inv X pins z H s)
 (h:F z H λx k=>L z k λy e=>R x y e){f:iT->iT->Sem iT}
 (hf:∀v u j x y e,Inv X pins z e j->RelV x v->RelV y u->R x y e->wpAny (model X.prog X.w) X.A (f v u) Q X.xe j):
   wpAny (model X.prog X.w) X.A (eval a X.env) (λv i=>wpAny (model X.prog X.w) X.A (eval b X.env) (λu g=>wpAny (model X.prog X.w) X.A (f v u) Q X.xe g) X.xe i) X.xe s:=by
  refine je (r pins s z H _ I h) λv l d=>?_;obtain⟨x,k,w,n,p⟩:=d;refine je (q pins l z k _ w p) λu j d=>?_;obtain⟨y,e,t,m,o⟩:=d;exact hf v u j x y e t n m o
def JA(j:kI X (binaryOp op) r)(l:PE X a F)(k:PE X b L):PE X (.BinOp a op b O) (Ag r F L):=by intro d s e H Q I h;exact wpAny_BinOp (Bt l k I h λv u f x y n m i g q=>j d f e n x y v u Q m i g q)
def Wi(j:yB X (unaryOp op) r)(k:PE X a F):PE X (.UnaryOp op a O) (tUn r F):=by intro d s e H Q I h;exact UnaryOp_ (je (k d s e H _ I h) λv f ⟨x,m,l,g,i⟩=>j d f e m x v Q l g i)
def xu{f}{C}{g:Int->Int->Int}
 (d:∀(i j:Int) t u (s:i7) (Q:j0) E,C i j->Q (.int (g i j) s.toks) {s with toks:=s.toks+1}->wpAny (model X.prog X.w) X.A (f (.int i t)<|.int j u) Q E s):
   kI X f (rI C λi j=>.int<|g i j):=by
  intro e s o H x y v u Q I m l h;obtain⟨i,j,rfl,rfl,n,q⟩:=h;obtain⟨t,rfl⟩:=m;obtain⟨k,rfl⟩:=l;exact d i j t k s _ _ n ⟨.int<|g i j,H,I.tok _,⟨_,rfl⟩,q⟩
def Jl{f}{g:Int->Int->Int}
 (d:∀(i j:Int) t u (s:i7) Q E,Q (.int (g i j) s.toks) {s with toks:=s.toks+1}->wpAny (model X.prog X.w) X.A (f (.int i t)<|.int j u) Q E s):
   kI X f (sX λi j=>.int<|g i j):=by
  intro e s n H x y v u Q I m l h;obtain⟨i,j,rfl,rfl,q⟩:=h;obtain⟨t,rfl⟩:=m;obtain⟨k,rfl⟩:=l;exact d i j t k s _ _ ⟨.int<|g i j,H,I.tok _,⟨_,rfl⟩,q⟩
def Dp{f}{g:Int->Int->i6}
 (d:∀(i j:Int) t u s Q E,Q (.bool<|g i j) s->wpAny (model X.prog X.w) X.A (f (.int i t)<|.int j u) Q E s):
   kI X f (sX λi j=>.bl<|g i j):=by
  intro e s n H x y v u Q I m l h;obtain⟨i,j,rfl,rfl,q⟩:=h;obtain⟨t,rfl⟩:=m;obtain⟨k,rfl⟩:=l;exact d i j t k s _ _ ⟨.bl<|g i j,H,I,rfl,q⟩
def Mb(i j:Int):Prop:=0<=j/\j<=1000000/\i.natAbs<2^64
def AF(i j:Int):Prop:=(-(2^64)<i/\i<2^64)\/(-(2^64)<j/\j<2^64)
def AF.ok{i j:Int}(h:AF i j):IntMulOk i j:=by
 rcases h with⟨e,d⟩|⟨e,d⟩;.exact .of_left (intBits_le_64 e d)
 .exact .of_right (intBits_le_64 e d)
def UI:kI X (binaryOp .Add) (sX λi j=>.int<|i+j):=Jl λ_ _ _ _ _ _ _ q=>add_int q
def Vd:kI X (binaryOp .Sub) (sX λi j=>.int<|i - j):=Jl λ_ _ _ _ _ _ _ q=>sub_int q
def U5:kI X (binaryOp .Mult) (rI AF λi j=>.int<|i*j):=xu λ_ _ _ _ _ _ _ d q=>mul_int q d.ok
def U4:kI X (binaryOp .Mod) (rI (λ_ j=>j≠0) λi j=>.int<|i.fmod j):=xu λ_ _ _ _ _ _ _ d q=>mod_int' d q
def Vb:kI X (binaryOp .Pow) (rI Mb λi j=>.int<|i^j.toNat):=xu λ_ _ _ _ _ _ _ d q=>pow_int_small d.1 d.2.1 d.2.2 q
def unI{f}{g:Int->Int}
 (d:∀(i:Int) t (s:i7) Q E,Q (.int (g i) s.toks) {s with toks:=s.toks+1}->wpAny (model X.prog X.w) X.A (f<|.int i t) Q E s):
   yB X f (rU λi=>.int<|g i):=by
  intro e s k H x v Q I j h;obtain⟨i,rfl,q⟩:=h;obtain⟨t,rfl⟩:=j;exact d i t s _ _ ⟨.int<|g i,H,I.tok _,⟨_,rfl⟩,q⟩
def aax:yB X (unaryOp .USub) (rU λi=>.int<|-i):=unI λ_ _ _ _ _ q=>neg_int q
noncomputable def D3:V->V->i6
 |.non,.non=>true|.non,.int _=>true|.int _,.non=>true|.non,.bl _=>true|.bl _,.non=>true|.non,.str _=>true|.str _,.non=>true
 |.int _,.int _=>true|.bl _,.bl _=>true|.str _,.str _=>true|.ou _,.ou _=>true
 |.int _,.str _=>true|.str _,.int _=>true|.bl _,.str _=>true|.str _,.bl _=>true
 |_,_=>false
def X0:R2:=λx y H Q=>D3 x y=true/\Q (.bl<|decide<|x=y) H
def X3:R2:=λx y H Q=>D3 x y=true/\Q (.bl<|!decide (x=y)) H
def Gk:decide (V.int i=V.int j)=(i==j):=by rw[fP];simp
def Gi:decide (V.bl i=V.bl j)=(i==j):=by rw[fP];simp
def Gm:decide (V.str i=V.str j)=(i==j):=by rw[fP];simp
def Gj:decide (V.ou i=V.ou j)=(i.toList==j.toList):=by rw[fP];cases i;cases j;simp
def kE{Q}{k}(I:Inv X pins r H s)(q:Q (.bl k) H)(e:k=k'):EP X pins r Q (.bool k') s:=by subst e;exact⟨.bl k,H,I,rfl,q⟩
def UM:kI X (compareOp .Eq) X0:=by
 intro k s l H x y v u Q I g d h;obtain⟨f,q⟩:=h;cases x with
 |non=>
  cases g;cases y with
  |non=>cases d;exact PySem.EqNone.eq_none_none (kE I q<|by simp)
  |bl j=>cases d;exact PySem.EqNone.eq_none_bool (kE I q<|by simp)
  |int j=>obtain⟨e,rfl⟩:=d;exact PySem.EqNone.eq_none_int (kE I q<|by simp)
  |str j=>obtain⟨e,rfl⟩:=d;exact PySem.EqNone.eq_none_str (kE I q<|by simp)
  |_=>exact absurd (show false=true from f) av
 |bl i=>
  cases g;cases y with
  |non=>cases d;exact PySem.EqNone.eq_bool_none (kE I q<|by simp)
  |bl j=>cases d;exact eq_bool (kE I q Gi)
  |str j=>obtain⟨e,rfl⟩:=d;exact PySem.EqMixed.eq_bool_str (kE I q<|by simp)
  |_=>exact absurd (show false=true from f) av
 |int i=>
  obtain⟨t,rfl⟩:=g;cases y with
  |non=>cases d;exact PySem.EqNone.eq_int_none (kE I q<|by simp)
  |int j=>obtain⟨e,rfl⟩:=d;exact eq_int (kE I q Gk)
  |str j=>obtain⟨e,rfl⟩:=d;exact PySem.EqMixed.eq_int_str (kE I q<|by simp)
  |_=>exact absurd (show false=true from f) av
 |str i=>
  obtain⟨t,rfl⟩:=g;cases y with
  |non=>cases d;exact PySem.EqNone.eq_str_none (kE I q<|by simp)
  |bl j=>cases d;exact PySem.EqMixed.eq_str_bool (kE I q<|by simp)
  |int j=>obtain⟨e,rfl⟩:=d;exact PySem.EqMixed.eq_str_int (kE I q<|by simp)
  |str j=>obtain⟨e,rfl⟩:=d;exact eq_str (kE I q Gm)
  |_=>exact absurd (show false=true from f) av
 |ou i=>
  obtain⟨t,rfl⟩:=g;cases y with
  |ou j=>obtain⟨e,rfl⟩:=d;exact W.eq_bytes (kE I q Gj)
  |_=>exact absurd (show false=true from f) av
 |_=>cases y<;>exact absurd (show false=true from f) av
def U9:kI X (compareOp .NotEq) X3:=by
 intro k s l H x y v u Q I g d h;obtain⟨f,q⟩:=h;cases x with
 |non=>
  cases g;cases y with
  |non=>cases d;exact PySem.EqNone.ne_none_none (kE I q<|by simp)
  |bl j=>cases d;exact PySem.EqNone.ne_none_bool (kE I q<|by simp)
  |int j=>obtain⟨e,rfl⟩:=d;exact PySem.EqNone.ne_none_int (kE I q<|by simp)
  |str j=>obtain⟨e,rfl⟩:=d;exact PySem.EqNone.ne_none_str (kE I q<|by simp)
  |_=>exact absurd (show false=true from f) av
 |bl i=>
  cases g;cases y with
  |non=>cases d;exact PySem.EqNone.ne_bool_none (kE I q<|by simp)
  |bl j=>cases d;exact ne_bool (kE I q<|bG not Gi)
  |str j=>obtain⟨e,rfl⟩:=d;exact PySem.EqMixed.ne_bool_str (kE I q<|by simp)
  |_=>exact absurd (show false=true from f) av
 |int i=>
  obtain⟨t,rfl⟩:=g;cases y with
  |non=>cases d;exact PySem.EqNone.ne_int_none (kE I q<|by simp)
  |int j=>obtain⟨e,rfl⟩:=d;exact ne_int (kE I q<|bG not Gk)
  |str j=>obtain⟨e,rfl⟩:=d;exact PySem.EqMixed.ne_int_str (kE I q<|by simp)
  |_=>exact absurd (show false=true from f) av
 |str i=>
  obtain⟨t,rfl⟩:=g;cases y with
  |non=>cases d;exact PySem.EqNone.ne_str_none (kE I q<|by simp)
  |bl j=>cases d;exact PySem.EqMixed.ne_str_bool (kE I q<|by simp)
  |int j=>obtain⟨e,rfl⟩:=d;exact PySem.EqMixed.ne_str_int (kE I q<|by simp)
  |str j=>obtain⟨e,rfl⟩:=d;exact ne_str (kE I q<|bG not Gm)
  |_=>exact absurd (show false=true from f) av
 |ou i=>
  obtain⟨t,rfl⟩:=g;cases y with
  |ou j=>obtain⟨e,rfl⟩:=d;exact W.ne_bytes (kE I q<|bG not Gj)
  |_=>exact absurd (show false=true from f) av
 |_=>cases y<;>exact absurd (show false=true from f) av
def U1:kI X (compareOp .Lt) (sX λi j=>.bl<|decide<|i<j):=Dp λ_ _ _ _ _ _ _ q=>lt_int q
def UZ:kI X (compareOp .LtE) (sX λi j=>.bl<|decide<|i<=j):=Dp λ_ _ _ _ _ _ _ q=>le_int q
def UQ:kI X (compareOp .Gt) (sX λi j=>.bl<|decide<|j<i):=Dp λ_ _ _ _ _ _ _ q=>gt_int q
def UU:kI X (compareOp .In) (λx y H Q=>∃i j,x=.str i/\y=.str j/\Q (.bl<|!(Builtin.Str.occurrences j i 0 j.length 1).isEmpty) H):=by intro d s g H x y v u Q I f e h;obtain⟨i,j,rfl,rfl,q⟩:=h;obtain⟨t,rfl⟩:=f;obtain⟨k,rfl⟩:=e;exact in_str (kE I q rfl)
def UW:kI X (compareOp .Is) (λx y H Q=>y=.non/\Q (.bl<|decide<|x=.non) H):=by
 intro e s g H x y v u Q I d f h;obtain⟨rfl,q⟩:=h;cases f;refine is_none_gen (kE I q ?_)
 cases x<;>first
  |(cases d;rfl)
  |(obtain⟨t,rfl⟩:=d;rfl)
def Jp:kI X (compareOp .IsNot) (λx y H Q=>y=.non/\Q (.bl<|!decide (x=.non)) H):=by
 intro e s g H x y v u Q I d f h;obtain⟨rfl,q⟩:=h;cases f;refine isnot_none_gen (kE I q ?_)
 cases x<;>first
  |(cases d;rfl)
  |(obtain⟨t,rfl⟩:=d;rfl)
def uv(b)(h:autoParam (op≠.In) aZ1)(d:autoParam (op≠.NotIn) aZ1):behindInMarks op b=false:=by
 have f:(op==CmpOp.In)=false:=by cases op<;>first|rfl|exact absurd rfl h
 have e:(op==CmpOp.NotIn)=false:=by cases op<;>first|rfl|exact absurd rfl d
 cases b<;>simp[behindInMarks,f,e]
def Jv(j:kI X (compareOp op) r)(m:PE X a F)(l:PE X b L)(k:behindInMarks op b=false):PE X (.Compare a [op] [b] O) (Ag r F L):=by intro d s e H Q I h;exact wpAny_Compare1 (Bt m l I h λv u f x y o n i g q=>j d f e o x y v u Q n i g q) k
def La(t:TE):TT:=λd H Q=>t d H λx e=>∃k,x=.bl k/\Q k e
def z5(t:kI X (compareOp op) r)(B:PE X a F)(A:PE X b L)(w:behindInMarks op b=false):PT X (.Compare a [op] [b] O) (La<|Ag r F L):=by intro d s g H Q I h;refine wpAny_isTrue_Compare1 (je (B d s g H _ I h) λv j f=>?_) w;obtain⟨x,K,E,n,q⟩:=f;refine je (A d j g K _ E q) λu i f=>?_;obtain⟨y,J,D,m,p⟩:=f;refine je (t d i g J x y v u _ D n m p) λc M f=>?_;obtain⟨z,G,C,l,k,e,o⟩:=f;subst e;cases l;exact cP ⟨G,C,o⟩
def ZH(r g:R2)(F L tc:TE):TE:=λd H Q=>F d H λx j=>L d j λy i=>r x y i λz e=>∃k,z=.bl k/\
 (if k=true then tc d e λf h=>g y f h Q else Q (.bl false) e)
def WN(R:kI X (compareOp op) r)(j:kI X (compareOp xq) r')(V:PE X a F)(U:PE X b L)(T:PE X c tc)
 (S:lastMarks [op,xq] [b,c]=false):PT X (.Compare a [op,xq] [b,c] O) (La<|ZH r r' F L tc):=by
  intro g s i H Q I h;refine isTrue_chain (je (V g s i H _ I h) λv B f=>?_) S;obtain⟨x,H1,I1,G,N⟩:=f;refine test_link (je (U g B i H1 _ I1 N) λu A f=>?_);obtain⟨y,H2,I2,l,M⟩:=f;refine je (R g A i H2 x y v u _ I2 G l M) λd w f=>?_;obtain⟨z,o,n,E,k,e,m⟩:=f;subst e;cases E;refine cP ?_;cases k with
  |false=>obtain⟨k',Z,P⟩:=m;cases Z;exact ite_ff ⟨o,n,P⟩
  |true=>refine ite_tt (test_last<|je (T g w i o _ n m) λq t f=>?_);obtain⟨p,H4,I4,D,K⟩:=f;refine je (j g t i H4 y p u q _ I4 l D K) λd' s5 f=>?_;obtain⟨z2,H5,I5,C,k2,W,J⟩:=f;subst W;cases C;exact cP ⟨H5,I5,J⟩
def wx(K:i9)(x:V)(H:Hp)(k:i6):Prop:=
 match x with
 |.non=>k=false
 |.bl b=>k=b
 |.int i=>k=(i !=0)
 |.str y=>y.length<=sizeLine/\k=((y.length:Int)!=0)
 |.ou y=>y.size<=sizeLine/\k=((y.size:Int)!=0)
 |.ref p=>(∃d,lH K H p d/\k=!d.isEmpty)\/(∃d,mJ K H p d/\k=!d.isEmpty)\/∃e,H p=some (.dK e)/\k=!e.isEmpty
 |_=>False
def RD{d:aa<|s×V}{e:aa<|s×iT}(r:KV d e):(!e.isEmpty)=!d.isEmpty:=by cases r<;>rfl
def HJ{e:aa V}{d:kn}(r:Vals e d):(!d.toArray.isEmpty)=!e.isEmpty:=by cases r<;>simp
def uj:(sizeLine:Nat)<2^63:=by rw[dc];decide
def El:Mj X (λx H Q=>∃k,wx X.K x H k/\Q k H):=by
 intro z s D H x v Q I l h;obtain⟨k,e,q⟩:=h;have G:=uj;have E:sizeLine=16777216:=dc;cases x with
 |non=>cases l;have d:k=false:=e;subst d;exact truthy_none ⟨H,I,q⟩
 |bl b=>cases l;have d:k=b:=e;subst d;exact cP ⟨H,I,q⟩
 |int i=>obtain⟨t,rfl⟩:=l;have d:k=(i !=0):=e;subst d;exact PySem.P.truthy_int ⟨H,I,q⟩
 |str y=>obtain⟨t,rfl⟩:=l;obtain⟨B,d⟩:y.length<=sizeLine/\k=((y.length:Int)!=0):=e;subst d;exact PySem.P.truthy_str (by lia) ⟨H,I.tok _,q⟩
 |ou y=>obtain⟨t,rfl⟩:=l;obtain⟨B,d⟩:y.size<=sizeLine/\k=((y.size:Int)!=0):=e;subst d;exact W.truthy_bytes (by walk_at "l") ⟨H,I.tok _,q⟩
 |ref p=>
  cases l;have d:(∃j,lH X.K H p j/\k=!j.isEmpty)\/(∃j,mJ X.K H p j/\k=!j.isEmpty)\/∃f,H p=some (.dK f)/\k=!f.isEmpty:=e;rcases d with⟨j,n,d⟩|⟨j,n,d⟩|⟨f,n,d⟩
  .subst d;obtain⟨w,r,u,A⟩:=I.list n;have g:=r.length;exact wpAny_truthy_list u.isList (by simp only[aP];omega) ⟨H,I.tok _,by rw[HJ r];exact q⟩
  .subst d;obtain⟨w,r,u,A⟩:=I.tuple n;have g:=r.length;exact truthy_tuple u (by simp only[aP];omega) ⟨H,I.tok _,by rw[HJ r];exact q⟩
  .subst d;obtain⟨A,C,o,r,m⟩:f.length<=sizeLine/\(p==sysModules)=false/\∃o,KV f o/\s.heap.DictOf (jP X.prog X.w) p o:=I.hok p _ n;have g:f.length=o.length:=Paired.length r;exact wpAny_truthy_dict C m (by omega) ⟨H,I.tok _,by rw[RD r];exact q⟩
 |_=>exact(show False from e).elim
def J1(n:PE X a F)(m:∀d,isTrue a X.env d=(do let v<-d;standAt a.pos;holding [v]<|truthy v)):
    PT X a (λf H Q=>F f H λx g=>∃k,wx X.K x g k/\Q k g):=by
 intro e s f H Q I h;exact isTrue_plain (je (n e s f H _ I h) λv i ⟨x,p,o,j,l⟩=>El e i f p x v Q o j l) (m _)
def UK:kI X (binaryOp .Add) (λx y H Q=>∃i j,x=.str i/\y=.str j/\i.length+j.length<=sizeLine/\Q (.str<|i++j) H):=by intro d s l H x y v u Q I g f h;obtain⟨i,j,rfl,rfl,k,q⟩:=h;obtain⟨t,rfl⟩:=g;obtain⟨e,rfl⟩:=f;exact add_str (λe tk=>⟨.str<|i++j,H,I.tok _,⟨_,rfl⟩,q⟩) k
def vals1(r:Vals [x] us):∃u,us=[u]/\RelV x u:=by
 cases r with
 |cons e d=>cases d;exact⟨_,rfl,e⟩
def vals2(r:Vals [x,y] us):∃u d,us=[u,d]/\RelV x u/\RelV y d:=by
 cases r with
 |cons h g=>
  cases g with
  |cons f e=>cases e;exact⟨_,_,rfl,h,f⟩
def MK:ny X (.builtin "abs") (λd H Q=>∃i,d=[.int i]/\Q (.int<|if i<0 then -i else i) H):=by intro e s f H d g Q I r h;obtain⟨i,rfl,q⟩:=h;obtain⟨u,rfl,t,rfl⟩:=vals1 r;exact call_abs_int λu tk=>⟨.int<|if i<0 then -i else i,H,I.tok _,⟨_,rfl⟩,q⟩
structure tE(h:jb)(x dx C:iR)(mA:km):Prop where
 obj:h.get? x=some (W.instObj C dx)
 ns:h.Ns1 dx mA
 ne:dx≠x
def SN{h:jb}(n:h.Ns1 dx mA):∃g,h.get? dx=some g/\∀d,W.lookIn d g=some (mA d):=by
 obtain⟨o,i,s,k,p,m,_,l⟩:=n;refine⟨o,k,λd=>?_⟩;have e:=l d;unfold nsFind findBy at e;rw[<-Array.find?_toList]at e;unfold W.lookIn;rw[p];dsimp only;split
 .rename_i y q;rw[q]at e;exact bG some e
 .rename_i q;rw[q]at e;have a:i.toList.any (·.refKey)=false:=by
   rw[bX];intro y j;obtain⟨z,t,f⟩:=m y (ia.mp j);simp[DictEntry.refKey,f]
  have r:¬i.toList.any (·.refKey)=true:=by rw[a];exact av
  rw[aA r];exact bG some e
def tE.look(I:tE h x dx C mA):∃e,W.InstAt h x (W.instObj C dx) C (some e)/\∀d,W.lookIn d e=some (mA d):=
 let⟨e,f,g⟩:=SN I.ns
 ⟨e,⟨I.obj,rfl,rfl,f⟩,g⟩
variable{M:jE}{w:jz}{A:jY}{E:j0}{s:i7}{K:i9}{x S C f:iR}{U:km}{B:iS}{v:iT}
def get_map{Q}(X:K.In s.heap)(I:tE s.heap x S C U)(i:W.plainGet K C B=true)(g:W.hasDictIn K C=true)
 (j:W.findIn K (.ref C) B=some none)(hv:U B=some v)(d:W.handedIn v=true)(h:Q v {s with toks:=s.toks+1}):
   wpAny (model M w) A (getAttr (.ref x) B expr) Q E s:=by
  obtain⟨k,J,e⟩:=I.look;exact W.get_value X J (W.plainGet_of i).1 (W.findObj_own g j rfl<|by rw[e,hv]) d h
def Pt{Q}(X:K.In s.heap)(I:tE s.heap x S C U)(d:W.plainGet K C B=true)
 (hf:W.findIn K (.ref C) B=some (some<|.ref f))(g:W.isFn K (.ref f)=true)(hv:U B=none)(h:Q (.ref f,[.ref x]) s):
   wpAny (model M w) A (getMethod (.ref x) B pl) Q E s:=by
  obtain⟨e,J,i⟩:=I.look;exact W.method_fn X J (W.plainGet_of d).1 (W.plainGet_of d).2 hf (dP.mp g) (by show(W.lookIn B e).map (·.isSome)=some false;rw[i,hv];rfl) h
def YL{Q}(X:K.In s.heap)(I:tE s.heap x S C U)
 (q:W.findIn K (.ref C) "__setattr__"=some (some<|.builtin "object.__setattr__"))(t:W.plainOver K C=true)(o:W.takerIn K C B=some none)(u:W.hasDictIn K C=true)
 (n:PySem.Within U ns)(p:ns.length<=sizeLine)
 (h:∀g,tE g x S C (λy=>if y=B then some v else U y)->Heap.SameBut S s.heap g->Q () {s with heap:=g,toks:=s.toks+2}):
   wpAny (model M w) A (setAttr (.ref x) B v) Q E s:=by
  obtain⟨H,J,P⟩:=I.look;refine W.set_plain X J q (W.osa_open (s:={s with toks:=s.toks+1}) (r:=none) X J t o λb=>?_);obtain⟨R,z,k⟩:=W.any_some u;have m:s.heap.get? x=some ⟨.ref C,some S,.plain,#[]⟩:=I.obj;refine ae (ah<|ae<|ae<|wpAny_loadPart m<|ae<|W.Looks.here (s:={s with toks:=s.toks+1}) (W.looks_clsIn X z) ?_);rw[k];refine ah (a:=some S) (ae<|ah<|ae ?_);refine wpAny_nsSet1 (s:={s with toks:=s.toks+1}) I.ns λg e d=>?_;obtain⟨N,D,G,i,j,l⟩:=e.count (PySem.Within.cons B v n);refine ae (wpAny_lookBehind i (by rw[j];exact pastItsLine_dict (aW l (by rw[au];walk_at "l"))) ?_);exact ah (h _ ⟨(d.2 _<|bK I.ne).trans I.obj,e,I.ne⟩ d)
def TX(X:K.In s.heap)(i:W.makesIn K C=true)
 (j:W.findIn K (.ref C) "__init__"=some (some<|.ref f))(hf:W.typeIn K (.ref f)=some (.type "function"))
 (h:codeAny (model M w) (A.under (.builtin "type.__call__" ⟨.ref C::vs,kw⟩)) (.call (.ref f) ⟨.ref (s.heap.objs.size+1)::vs,kw⟩) (W.InitBack (s.heap.objs.size+1) R)
 {s with heap:=(s.heap.push W.emptyDict).push (W.instObj C s.heap.objs.size)}):
   codeAny (model M w) A (.call (.ref C) ⟨vs,kw⟩) R s:=by
  obtain⟨l,g,d,t,k⟩:=s;exact W.make_core (W.makes_of X i) (W.looks_findIn X j) (λe=>W.bind_fn X e hf) (.inl rfl) h
end
def mr(f:iS)(v:V):aa (iS×V)->aa (iS×V)
 |[]=>[(f,v)]
 |(g,x)::r=>if g=f then(g,v)::r else(g,x)::mr f v r
theorem IF(f g v):∀fs:aa (iS×V),(mr f v fs).lookup g=if g=f then some v else fs.lookup g
 |[]=>by
  show List.lookup g [(f,v)]=_;by_cases h:g=f
  .have a:(g==f)=true:=dP.mpr h;simp only[List.lookup,a,aq h]
  .have a:(g==f)=false:=cT.mpr h;simp only[List.lookup,a,aA h]
 |(k,x)::r=>by
  have c:=IF f g v r;rw[show mr f v ((k,x)::r)=(if k=f then(k,v)::r else(k,x)::mr f v r)from rfl];by_cases b:k=f
  .rw[aq b];by_cases h:g=k
   .have a:(g==k)=true:=dP.mpr h;simp only[List.lookup,a,aq<|h.trans b]
   .have a:(g==k)=false:=cT.mpr h;simp only[List.lookup,a,aA (λe:g=f=>h<|e.trans b.symm)]
  .rw[aA b];by_cases h:g=k
   .have a:(g==k)=true:=dP.mpr h;simp only[List.lookup,a,aA (λe:g=f=>b<|h.symm.trans e)]
   .have a:(g==k)=false:=cT.mpr h;simp only[List.lookup,a];exact c
theorem CU(f v):∀fs:aa (iS×V),f∈(mr f v fs).map (·.1)/\∀g,g∈fs.map (·.1)->g∈(mr f v fs).map (·.1)
 |[]=>⟨by simp[mr],λg h=>by simp at h⟩
 |(k,x)::r=>by
  obtain⟨c,b⟩:=CU f v r;rw[show mr f v ((k,x)::r)=(if k=f then(k,v)::r else(k,x)::mr f v r)from rfl];by_cases a:k=f
  .rw[aq a];subst a;exact⟨by simp,λg h=>by simpa using h⟩
  .rw[aA a];refine⟨?_,λg h=>?_⟩
   .rw[aD];exact bo _ c
   .rw[aD]at h⊢;rcases aI.mp h with e|e;.exact aI.mpr (.inl e)
    .exact bo _ (b g e)
theorem Iw(f v):∀fs:aa (iS×V),(mr f v fs).length<=fs.length+1
 |[]=>by simp[mr]
 |(k,x)::r=>by
  have b:=Iw f v r;rw[show mr f v ((k,x)::r)=(if k=f then(k,v)::r else(k,x)::mr f v r)from rfl];by_cases a:k=f;.rw[aq a,au,au];simp
  .rw[aA a,au,au];walk_at "l"
def mU.some_of(r:mU (some v) o):∃u,o=some u/\RelV v u:=by
 cases o with
 |none=>exact(show False from r).elim
 |some u=>exact⟨u,rfl,r⟩
def mU.none_of(r:mU none o):o=none:=by
 cases o with
 |none=>rfl
 |some u=>exact(show False from r).elim
def Ql(r:RelV v u):W.handedIn u=true:=by
 cases v with
 |non=>cases(show u=Value.none from r);rfl
 |bl b=>cases(show u=Value.bool b from r);rfl
 |int i=>obtain⟨t,e⟩:=(show∃t,u=Value.int i t from r);cases e;rfl
 |str x=>obtain⟨t,e⟩:=(show∃t,u=Value.str x t from r);cases e;rfl
 |ou b=>obtain⟨t,e⟩:=(show∃t,u=Value.bytes b t from r);cases e;rfl
 |flt b=>obtain⟨t,e⟩:=(show∃t,u=Value.float b t from r);cases e;rfl
 |ref a=>cases(show u=Value.ref a from r);rfl
 |ty n=>cases(show u=Value.type n from r);rfl
section
variable{P:jE}{w:jz}{H j:Hp}{h i:jb}{a C b:iR}{fs c:aa<|iS×V}
def CH(k:kG P w H h)(e:H a=some (.ins C b fs)):∃g,tE h a b C g/\(∀f,mU (fs.lookup f) (g f))/\PySem.Within g (fs.map (·.1))/\fs.length<=1000/\H b=some (.own a):=by obtain⟨d,z,ne,ob,g,n,r,q⟩:=(show kH P w H h a (.ins C b fs)from k a _ e);exact⟨g,⟨ob,n,ne⟩,r,q,z,d⟩
end
structure o9(K:i9)(C:iR):Prop where
 pg:W.plainGet K C Str.empty=true
 hd:W.hasDictIn K C=true
 po:W.plainOver K C=true
 sa:W.findIn K (.ref C) "__setattr__"=some (some<|.builtin "object.__setattr__")
def o9.get{K:i9}{C:iR}(c:o9 K C)(f:iS):W.plainGet K C f=true:=c.pg
def qB(K:i9)(C:iR)(f:iS):Prop:=W.findIn K (.ref C) f=some none
def qB.aah{K}{C}{f}(n:qB K C f):W.takerIn K C f=some none:=by unfold W.takerIn;rw[show W.findIn K (.ref C) f=some none from n];rfl
structure Meth(K:i9)(C:iR)(m:iS)(f:iR):Prop where
 at_:W.findIn K (.ref C) m=some (some<|.ref f)
 fn:W.isFn K (.ref f)=true
 kp:W.keepIn K (.ref f)=true
section
variable{X:Cx}{i:kv}{j:St}{H:Hp}{s:i7}{a C F:iR}{fs:aa<|iS×V}{f:iS}{v:V}{A:jY}{E:j0}
def Pu{Q:j0}(I:Inv X i j H s)(e:H a=some (.ins C F fs))(c:o9 X.K C)(n:qB X.K C f)(l:fs.lookup f=some v)
 (h:∀u d,Inv X i j H d->RelV v u->Q u d):wpAny (model X.prog X.w) A (getAttr (.ref a) f b) Q E s:=by obtain⟨k,O,r,_,_,_⟩:=CH I.hok e;obtain⟨u,m,g⟩:=mU.some_of (v:=v) (o:=k f) (by rw[<-l];exact r f);exact get_map I.mj O (c.get f) c.hd n m (Ql g) (h u _ (I.tok _) g)
def Pw{Q}(I:Inv X i j H s)(e:H a=some (.ins C F fs))(c:o9 X.K C)(k:Meth X.K C m g)(l:fs.lookup m=none)
 (h:Q (.ref g,[.ref a]) s):wpAny (model X.prog X.w) A (getMethod (.ref a) m pl) Q E s:=by obtain⟨b,O,r,_,_,_⟩:=CH I.hok e;have d:b m=none:=mU.none_of (by rw[<-l];exact r m);exact Pt I.mj O (c.get m) k.at_ k.fn d h
def YM{Q:uZ}(I:Inv X i j H s)(e:H a=some (.ins C F fs))(c:o9 X.K C)(n:qB X.K C f)(M:fs.length<1000)(w:RelV y u)
 (h:∀l,Inv X i j (upd H a<|.ins C F<|mr f y fs) l->Q () l):wpAny (model X.prog X.w) A (setAttr (.ref a) f u) Q E s:=by
  obtain⟨m,O,r,k,_,p⟩:=CH I.hok e;have B:(fs.map (·.1)).length<=sizeLine:=by rw[aj,dc];walk_at "l"
  refine YL I.mj O c.sa c.po n.aah c.hd k B λK d t=>h _ ?_;have G:∃o,K.get? F=some o:=let⟨o,_,_,L,_⟩:=d.ns;⟨o,L⟩;refine I.write (x:=a) (e:=F) (by rw[e];exact True.intro) (.inr p) (λb q J z=>(t.2 b J).trans z) G ?_;refine⟨by rw[jw O.ne];exact p,?_,O.ne,d.obj,_,d.ns,λg=>?_,λg D=>?_⟩;.have:=Iw f y fs;walk_at "l"
  .show mU ((mr f y fs).lookup g) (if g=f then some u else m g);rw[IF];by_cases q:g=f;.rw[aq q,aq q];exact w
   .rw[aA q,aA q];exact r g
  .by_cases q:g=f;.rw[q];exact(CU f y fs).1
   .refine(CU f y fs).2 g (k g λz=>D ?_);show(if g=f then some u else m g)=none;rw[aA q];exact z
def Inv.made(I:Inv X i j H s):Inv X i j (upd (upd H s.heap.objs.size<|.own<|s.heap.objs.size+1) (s.heap.objs.size+1)<|.ins C s.heap.objs.size [])
    {s with heap:=(s.heap.push W.emptyDict).push (W.instObj C s.heap.objs.size)}:=by
 have c:(s.heap.push W.emptyDict).get? s.heap.objs.size=some W.emptyDict:=aJ s.heap rfl;have k:((s.heap.push W.emptyDict).push (W.instObj C s.heap.objs.size)).get? (s.heap.objs.size+1)=some (W.instObj C s.heap.objs.size):=by
  have:=aJ (s.heap.push W.emptyDict) (o:=W.instObj C s.heap.objs.size) rfl
  rwa [cg]at this
 have h:(s.heap.push W.emptyDict).Ns s.heap.objs.size (λ_=>none):=⟨W.emptyDict,#[],_,c,rfl,(λe g=>absurd g<|by simp),λ_=>rfl⟩;have l:=I.laid (a:=s.heap.objs.size) (o:=.own<|s.heap.objs.size+1) (h':=s.heap.push W.emptyDict) (t':=s.toks) (λb u q=>ai _ q) (af _) ⟨_,c⟩;refine l.laid (a:=s.heap.objs.size+1) (o:=.ins C s.heap.objs.size []) (t':=s.toks) (λb u q=>ai _ q) (iF<|cg _ _) ?_;have ne:s.heap.objs.size≠s.heap.objs.size+1:=aV (bB _);refine⟨by rw[jw ne,j7],bI _,ne,k,λ_=>none,(Heap.Ns1.of_empty h).at λo q=>ai _ q,λ_=>True.intro,λy d=>absurd rfl d⟩
def MD(c:attributeBase e f env (eval e env)=eval e env)
 (h:wpAny (model prog w) A (eval e env) (λo b=>wpAny (model prog w) A (getAttr o f true) Q E b) E s):wpAny (model prog w) A (eval (.Attribute e f pos) env) Q E s:=
  Attribute_any_ h (by rw[arm_eval_Attribute,c])
def ZR(K:i9)(c:TE)(f:iS):TE:=λj H Q=>c j H λx b=>∃a C F fs v,x=.ref a/\b a=some (.ins C F fs)/\o9 K C/\qB K C f/\fs.lookup f=some v/\Q v b
def Yw(K:i9)(d c:TE)(f:iS):TS:=λD j H=>c j H λy e=>d j e λx b=>∃a C F fs,x=.ref a/\b a=some (.ins C F fs)/\o9 K C/\qB K C f/\fs.length<1000/\
 D.nx j (upd b a<|.ins C F<|mr f y fs)
variable{o e B:jf}{J M U:Pos}{L S:TE}
def V8(k:PE X e L)(m:attributeBase e f X.env (eval e X.env)=eval e X.env):PE X (.Attribute e f J) (ZR X.K L f):=by intro i s j H Q I h;refine MD m (je (k i s j H _ I h) λu D b=>?_);obtain⟨x,w,t,d,a,C,F,fs,v,ex,p,c,n,l,q⟩:=b;subst ex;obtain rfl:u=Value.ref a:=d;exact Pu t p c n l λy z r g=>⟨v,w,r,g,q⟩
def WI(t:PE X o L)(hv:PE X B S)(r:swapsWith B (some<|.Attribute o f M) J.line X.env=pure false):PS X (.Assign [.Attribute o f M] B J) (Yw X.K L S f):=by intro i s j H D I h;refine plainObj_wpAny_Assign_Attribute (je (hv i s j H _ I h) λu d b=>?_) r;obtain⟨y,N,K,g,q⟩:=b;refine je (t i d j N _ K q) λp P b=>?_;obtain⟨x,Q,G,k,a,C,F,fs,ex,w,c,n,l,m⟩:=b;subst ex;obtain rfl:p=Value.ref a:=k;exact YM G w c n l g λO z=>⟨j,_,z,m⟩
end
structure kz(k:Nat)(A:jY):Prop where
 hd:A.handled=none
 dp:A.depth+3*k+5<recursionLimit
 un:A.units+16*k+200<cLine
def kz.mono{k}(r:kz k A)(h:j<=k):kz j A:=⟨r.hd,by have:=r.dp;lia,by have:=r.un;lia⟩
def kz.deeper{k}(r:kz (k+1) A)(env):kz k (A.deeper env):=
 ⟨r.hd,by have:=r.dp;show A.depth+1+3*k+5<_;lia,by have:=r.un;show A.units+3+16*k+200<_;lia⟩
def TU{A:jY}:(A.under<|.builtin "type.__call__" ⟨.ref C::us,kw⟩).depth=A.depth+1:=by first|rfl|simp[Around.under,Code.weight,Code.isCreation,Code.isGuard,Code.isCaller,Code.frames,Code.isFrame,guardIds]
def TY{A:jY}:(A.under<|.builtin "type.__call__" ⟨.ref C::us,kw⟩).units=A.units+1:=by first|rfl|simp[Around.under,Code.cUnits,Code.frames,Code.isFrame]
def kz.make{k}(r:kz (k+1) A)(C us kw):kz k (A.under<|.builtin "type.__call__" ⟨.ref C::us,kw⟩):=
 ⟨r.hd,by have:=r.dp;rw[TU];lia,by have:=r.un;rw[TY];lia⟩
def kz.depth{k}(r:kz k A):A.depth<recursionLimit:=by have:=r.dp;lia
def kz.units{k}(r:kz k A):A.units+64<cLine:=by have:=r.un;lia
def Eh:TA:=λ_ H Q=>Q [] H
def Eg(d:TE)(c:TA):TA:=λa H Q=>d a H λx f=>c a f λb e=>Q (x::b) e
section
variable{X:Cx}{e:jf}{m:kK}{y:TE}{t:TA}{c:Pos}
def rP:PA X [] Eh:=λ_ _ _ _ H Q I h=>dJ ⟨[],H,I,.nil,h⟩
def rO(p:PE X e y)(o:PA X m t)(n:X.se e m):PA X (e::m) (Eg y t):=by intro c a s d H Q I h;rw[n];show wpAny _ _ (spliced<|(false,eval e X.env)::backTo c (starEach m X.env)) _ _ s;refine cF (je (p a s d H _ I h) λu g b=>?_);obtain⟨x,w,r,j,l⟩:=b;exact je (o c a g d w _ r l) λz A ⟨f,v,q,i,k⟩=>⟨x::f,v,q,.cons j i,k⟩
def aad(t:TA):TE:=λd H Q=>t d H λa b=>a.length<=sizeLine/\∀p,b p=none->Q (.ref p) (upd b p<|.tup a)
def ZY(t:TA):TE:=λd H Q=>t d H λa b=>a.length<=sizeLine/\∀p,b p=none->Q (.ref p) (upd b p<|.lst a)
def DB{l}(h:PA X m t):PE X (.Tuple m l c) (aad t):=by intro a s j H Q I o;refine wpAny_Tuple_spliced (je (h c a s j H _ I o) λn d f=>?_);obtain⟨k,i,g,r,z,q⟩:=f;refine⟨by rw[<-r.length];exact z,?_⟩;have hf:i d.heap.objs.size=none:=g.hok.fresh (af _);refine⟨.ref d.heap.objs.size,upd i d.heap.objs.size<|.tup k,g.laid (t':=d.toks) (λb u e=>ai _ e) (af _) ?_,rfl,q _ hf⟩;exact⟨z,n,r,⟨_,aJ _ rfl,rfl,_,rfl⟩⟩
def Jy(h:PA X m t):PE X (.List m c) (ZY t):=by intro a s j H Q I n;refine wpAny_List_spliced (je (h c a s j H _ I n) λl d f=>?_);obtain⟨k,i,g,r,z,q⟩:=f;refine⟨by rw[<-r.length];exact z,?_⟩;have hf:i d.heap.objs.size=none:=g.hok.fresh (af _);refine⟨.ref d.heap.objs.size,upd i d.heap.objs.size<|.lst k,g.laid (t':=d.toks) (λb u e=>ai _ e) (af _) ?_,rfl,q _ hf⟩;exact⟨z,l,0,r,aJ _ rfl⟩
abbrev Sp:=aa V->Hp->VK->XK->Prop
abbrev qv:=aa Env->Hp->i7->XK->j0
structure tu(P:jE)(w:jz)(K:i9)(mg:km)(base:jb)(A:jY)(outer:mL)(s:i7)(H:Hp):Prop where
 frames:A.frames=some outer
 mod:Mod K mg base
 bs:∀b o,base.get? b=some o->s.heap.get? b=some o/\H b=none
 tW:base.objs.size<=s.heap.objs.size
 pz:s.heap.FunFrames base outer
 wV:∀b∈frs outer,H b=none
 hok:kG P w H s.heap
 bare:AllBare s.gens
def CE(a:mL)(P:jE)(w:jz)(H:Hp)(s:i7)(Q:VK)(u:iT)(b:i7):Prop:=
 ∃v d,b.os=s.os/\AllBare b.gens/\Un (frs a) [] H d s.heap b.heap/\kG P w d b.heap/\RelV v u/\Q v d
def CR(d:qv)(a:mL)(P:jE)(w:jz)(H:Hp)(s:i7)(Q:VK)(E:XK)(r:Result)(b:i7):Prop:=
 match r with
 |.ok (.ret u)=>CE a P w H s Q u b
 |.ok _=>False
 |.error e=>d a H s E e b
structure mS(P:jE)(w:jz)(K:i9)(mg:km)(base:jb)(CX:qv)(k:Nat)(f:iR)(fd:m8)(ps:jy)(sp:Sp):Prop where
 len:∀vs H Q E,sp vs H Q E->vs.length=ps.length
 run:∀A outer s H args us vs Q E,kz k A->tu P w K mg base A outer s H->BindsTo s fd args (ps.zip us)->Vals vs us->sp vs H Q E->
  codeAny (model P w) A (.call (.ref f) args) (CR CX outer P w H s Q E) s
def mS.mono{P}{w}{K}{l}{a}{o}{k}{f}{n}{i}{g}(F:mS P w K l a o j f n i g)(h:j<=k):
    mS P w K l a o k f n i g:=⟨F.len,λA b s H d q p Q E r=>F.run A b s H d q p Q E<|r.mono h⟩
def mS.imp{P}{w}{K}{l}{a}{o}{k}{f}{n}{j}{i}(F:mS P w K l a o k f n j i)
 (h:∀d H Q E,YZ d H Q E->i d H Q E):mS P w K l a o k f n j YZ:=
  ⟨λd H Q E q=>F.len d H Q E<|h _ _ _ _ q,λA b s H g p d Q E u v x hv r=>F.run A b s H g p d Q E u v x hv<|h _ _ _ _ r⟩
def tu.make{P}{w}{K}{b}{a}{A}{s}{H}(e:tu P w K b a A outer s H)(C)(us)(kw):
    tu P w K b a (A.under<|.builtin "type.__call__" ⟨.ref C::us,kw⟩) outer s H:=⟨by first|exact e.frames|(simpa [Around.under,Code.envs,Code.isFrame,pushEnvs]using e.frames),e.mod,e.bs,e.tW,e.pz,e.wV,e.hok,e.bare⟩
variable{a:kv}{i:St}{H:Hp}{s l:i7}
def Inv.GL(I:Inv X a i H s):tu X.prog X.w X.K X.mg X.base X.A X.stack s H:=
 ⟨I.ok.frames,I.ok.mod,I.bs,aW I.ok.tW I.sz,I.stack,I.Ed,I.hok,I.bare⟩
def Inv.after(I:Inv X a i H s)(h:CE X.stack X.prog X.w H s Q u l):EP X a i Q u l:=by obtain⟨v,p,n,f,un,k,r,q⟩:=h;obtain⟨o,g,d,t,j⟩:=l;obtain rfl:j=s.os:=n;exact⟨v,p,I.call (h':=o) (g':=g) (d':=d) (t':=t) (ch:=[]) un k f<|λb z=>absurd z<|by simp,r,q⟩
end
def K8(d:Sp)(a:aa V)(E:XK)(t:TA):TE:=λb H Q=>t b H λc e=>d (c++a) e Q E
def Z1(C:iR)(m:iS)(g:Sp)(b:aa V)(E:XK)(f:TE)(t:TA):TE:=λc H Q=>f c H λx d=>∃a h fs,x=.ref a/\d a=some (.ins C h fs)/\fs.lookup m=none/\
 t c d λe i=>g (x::(e++b)) i Q E
def ZZ(C:iR)(f:Sp)(b:aa V)(E:XK)(t:TA):TE:=λd H Q=>t d H λe c=>∀x a,c x=none->c a=none->a≠x->
 f (.ref x::(e++b)) (upd (upd c a<|.own x) x<|.ins C a []) (λv g=>v=.non/\Q (.ref x) g) E
def Binds(K:i9)(c:m8)(a:jy)(b:kn):Prop:=
 ∀(s:i7) us,K.In s.heap->(us++b).length=a.length->BindsTo s c ⟨us,[]⟩ (a.zip<|us++b)
def Binds.all{K:i9}{d:m8}{b:jy}(h:∀a:aa iT,a.length=b.length->bindArgs d ⟨a,[]⟩=pure (b.zip a)):Binds K d b []:=λs a _ c=>by rw[aU]at c⊢;exact .of_eq (h a c)
def Passes(d:qv)(X:Cx)(E:XK):Prop:=∀a c H s e b,Inv X a c H s->d X.stack H s E e b->X.xe e b
section
variable{X:Cx}{O:qv}{k:Nat}{f C:iR}{L:m8}{z:jy}{J:Sp}{i:aa V}{j:kn}{E:XK}{x m:iS}{p b B:Pos}{e o:jf}{y:kK}{S:TE}{t:TA}
def Kw(F:mS X.prog X.w X.K X.mg X.base O k f L z J)(l:kz k X.A)(v:Binds X.K L z j)(q:Vals i j)(g:Passes O X E)
 (I:Inv X pins Y H s)(r:Vals vs us)(h:J (vs++i) H Q E):wpAny (model X.prog X.w) X.A (call (.ref f) us) (EP X pins Y Q) X.xe s:=by
  have c:Vals (vs++i) (us++j):=r.append q;have n:(us++j).length=z.length:=by rw[<-c.length];exact F.len _ _ _ _ h
  refine wpAny_call (eI (F.run X.A X.stack s H ⟨us,[]⟩ (us++j) (vs++i) Q E l I.GL (v s us I.mj n) c h) λr d a=>?_);cases r with
  |error e=>exact g pins Y H s e d I a
  |ok w=>
   cases w with
   |ret u=>exact I.after a
   |next=>exact False.elim a
   |brk=>exact False.elim a
   |cont=>exact False.elim a
def V0(F:mS X.prog X.w X.K X.mg X.base O k f L z J)(v:kz k X.A)(D:Gl X x)(w:X.mg x=some (.ref f))(A:W.keepIn X.K (.ref f)=true)(M:Binds X.K L z j)(K:Vals i j)(u:Passes O X E)
 (N:PA X (e::y) t)(g:lL x)(G:X.se e y)(d:X.bk b y):
   PE X (.Call (.Name x p) (e::y) [] b) (K8 J i E t):=by
  intro a s n H Q I h;refine cG (CY I D w ?_ g);refine W.callWith_K (h₀:=X.base) I.ok.mod.xb A (je (N b a s n H _ I h) λR T c=>?_) G d;obtain⟨P,U,l,r,q⟩:=c;refine⟨l.mj,?_⟩;exact Kw F v M K u l r q
def Wb(Y:PE X o S)(c:o9 X.K C)(D:Meth X.K C m f)(F:mS X.prog X.w X.K X.mg X.base O k f L z J)(U:kz k X.A)(hb:Binds X.K L z j)(Z:Vals i j)(R:Passes O X E)(ha:PA X (e::y) t)
 (n:autoParam (X.se e y) aZ0)(v:autoParam (X.bk b y) aZ0)
 (T:autoParam (eval (.Call (.Attribute o m B) (e::y) [] b) X.env=(do
 let A<-eval o X.env
 standAt B.atName
 let(f,first)<-holding [A] (getMethod A m pl)
 callWith b f first (backTo b (starEach (e::y) X.env)) (backToKw b (keywordEach [] X.env)))) aZ0):
  PE X (.Call (.Attribute o m B) (e::y) [] b) (Z1 C m J i E S t):=by
  intro d s w H Q I h;refine W.methodCall_KW (pl:=pl) (je (Y d s w H _ I h) λu M g=>?_) T;obtain⟨x,H1,K,N,a,dx,fs,ex,ea,l,q⟩:=g;subst ex;obtain rfl:u=Value.ref a:=N;refine Pw K ea c D l ?_;refine W.callWith_K (first:=[.ref a]) (h₀:=X.base) I.ok.mod.xb D.kp (je (ha b d M w H1 _ K q) λus s2 g=>?_) n v;obtain⟨vs,H2,G,r,P⟩:=g;refine⟨G.mj,?_⟩;exact Kw (us:=.ref a::us) (vs:=.ref a::vs) F U hb Z R G (.cons rfl r) P
structure Mk(K:i9)(C f:iR):Prop where
 makes:W.makesIn K C=true
 init:W.findIn K (.ref C) "__init__"=some (some<|.ref f)
 fn:W.isFn K (.ref f)=true
 kp:W.keepIn K (.ref C)=true
def Yr{Q}(M:Mk X.K C f)(F:mS X.prog X.w X.K X.mg X.base O k f L z J)(D:kz (k+1) X.A)(N:Binds X.K L z j)(K:Vals i j)
 (A:Passes O X E)(I:Inv X pins Y H s)(r:Vals vs us)
 (h:∀x c,H x=none->H c=none->c≠x->J (.ref x::(vs++i)) (upd (upd H c<|.own x) x<|.ins C c []) (λv U=>v=.non/\Q (.ref x) U) E):
   wpAny (model X.prog X.w) X.A (call (.ref C) us) (EP X pins Y Q) X.xe s:=by
  have l:=h (s.heap.objs.size+1) s.heap.objs.size (I.hok.fresh<|cN _) (I.hok.fresh<|af _) (aV<|bB _);have d:=Inv.made (C:=C) I;have g:Vals (V.ref (s.heap.objs.size+1)::(vs++i)) (Value.ref (s.heap.objs.size+1)::(us++j)):=.cons rfl (r.append K);have G:(Value.ref (s.heap.objs.size+1)::us++j).length=z.length:=by have e:=g.length;rw[F.len _ _ _ _ l]at e;exact e.symm
  refine wpAny_call (TX (f:=f) I.mj M.makes M.init (dP.mp M.fn) (eI (F.run _ X.stack _ _ ⟨Value.ref (s.heap.objs.size+1)::us,[]⟩ (Value.ref (s.heap.objs.size+1)::(us++j)) _ _ E (D.make C us [])
   (d.GL.make C us []) (N _ (Value.ref (s.heap.objs.size+1)::us) d.mj G) g l) λr n a=>?_))
  cases r with
  |error e=>exact A pins Y _ _ e n d a
  |ok P=>
   cases P with
   |ret u=>obtain⟨v,W,T,q,R,w⟩:=d.after a;subst R;exact⟨q,⟨V.ref<|s.heap.objs.size+1,W,T,rfl,w⟩⟩
   |next=>exact False.elim a
   |brk=>exact False.elim a
   |cont=>exact False.elim a
def Wa(M:Mk X.K C f)(F:mS X.prog X.w X.K X.mg X.base O k f L z J)(v:kz (k+1) X.A)(A:Gl X x)(w:X.mg x=some (.ref C))(K:Binds X.K L z j)(G:Vals i j)(u:Passes O X E)
 (N:PA X (e::y) t)(g:autoParam (lL x) aZ1)(D:autoParam (X.se e y) aZ0)(d:autoParam (X.bk b y) aZ0):
   PE X (.Call (.Name x p) (e::y) [] b) (ZZ C J i E t):=by
  intro a s n H Q I h;refine cG (CY I A w ?_ g);refine W.callWith_K (h₀:=X.base) I.ok.mod.xb M.kp (je (N b a s n H _ I h) λR T c=>?_) D d;obtain⟨P,U,l,r,q⟩:=c;refine⟨l.mj,?_⟩;exact Yr M F v K G u l r q
end
structure tw(N P:jy)(sc:Scope):Prop where
 kind:sc.kind=.function
 co:sc.isCoroutine=false
 gen:sc.isGenerator=false
 nd:N.Nodup
 pre:N.take P.length=P
 par:∀x∈P,sc.names.lookup x=some .local\/sc.names.lookup x=some .cell
 Uo:∀y∈sc.names,y.2≠.free
theorem FN{a}{x}:∀{binds:aa<|iS×iT} {m:km},(∀v,(x,v)∉binds)->bindL a binds m x=m x
 |[],_,_=>rfl
 |(n,v)::r,m,h=>by
  unfold bindL;rw[FN λw b=>h w<|bo _ b];split
  .have:x≠n:=by rintro rfl;exact h v bT
   simp[this]
  .rfl
theorem FK{a}{x}:∀{binds:aa<|iS×iT} {m:km},(∀v,(x,v)∉binds)->bindC a binds m x=m x
 |[],_,_=>rfl
 |(n,v)::r,m,h=>by
  unfold bindC;rw[FK λw b=>h w<|bo _ b];split;.rfl
  .have:x≠n:=by rintro rfl;exact h v bT
   simp[this]
theorem FL{a:iS->i0 NameKind}{x:iS}{v:iT}:∀{P:jy} {b:kn} {i:Nat} {m:km},P.Nodup->P[i]?=some x->b[i]?=some v->a x=some .local->
 bindL a (P.zip b) m x=some v
 |[],_,_,_,_,h,_,_=>by simp at h
 |_::_,[],_,_,_,_,h,_=>by simp at h
 |p::P,w::b,0,m,nd,d,c,e=>by simp at d c;subst d;subst c;show bindL a ((p,w)::P.zip b) m p=_;unfold bindL;rw[FN λv hv=>(bA.mp nd).1 (g8 hv).1,aq e];simp
 |p::P,w::b,i+1,m,nd,d,c,e=>by show bindL a ((p,w)::P.zip b) m x=_;unfold bindL;exact FL (i:=i) (bA.mp nd).2 (by simpa using d) (by simpa using c) e
theorem FJ{a:iS->i0 NameKind}{x:iS}{v:iT}:∀{P:jy} {b:kn} {i:Nat} {m:km},P.Nodup->P[i]?=some x->b[i]?=some v->a x≠some .local->
 bindC a (P.zip b) m x=some v
 |[],_,_,_,_,h,_,_=>by simp at h
 |_::_,[],_,_,_,_,h,_=>by simp at h
 |p::P,w::b,0,m,nd,d,c,e=>by simp at d c;subst d;subst c;show bindC a ((p,w)::P.zip b) m p=_;unfold bindC;rw[FK λv hv=>(bA.mp nd).1 (g8 hv).1,aA e];simp
 |p::P,w::b,i+1,m,nd,d,c,e=>by show bindC a ((p,w)::P.zip b) m x=_;unfold bindC;exact FJ (i:=i) (bA.mp nd).2 (by simpa using d) (by simpa using c) e
def start(N:jy)(a:aa V):St:=a.map some++List.replicate (N.length - a.length) none
def kC(g:qv)(P:jE)(w:jz)(K:i9)(mg:km)(base:jb)(N:jy)(b:iS)(a:Scope)(f:iR)(d:iT)(A:jY)(outer:mL)(s:i7)(H:Hp)(E:XK):Cx where
 prog:=P
 w:=w
 K:=K
 mg:=mg
 base:=base
 A:=A.deeper (envOfC b a s.heap.objs.size f d)
 N:=N
 s₀:=s
 H₀:=H
 env:=envOfC b a s.heap.objs.size f d
 outer:=outer
 stack:=envOfC b a s.heap.objs.size f d::outer
 ex:=[]
 calm:=true
 fn:=λ_=>true
 pn:=[]
 xe:=λe h=>wpAny (model P w) (A.deeper<|envOfC b a s.heap.objs.size f d) (leaving (envOfC b a s.heap.objs.size f d) e) (λ_ c=>g outer H s E e c) (λi c=>g outer H s E i c) h
def FZ{sc:Scope}(h:sc.names.lookup x=some .cell):∃c,(cellsFrom n sc.names []).lookup x=some c:=by have q:=W.cellsFrom_some sc.names n [] (.inl h);exact d9.mp q
def Rv{U:qv}{P:jE}{w:jz}{K:i9}{O:km}{m:jb}{N B:jy}{j:iS}{d:Scope}{f:iR}{L:iT}{A:jY}{g:mL}{s Q:i7}{H:Hp}{E:XK}{M:kn}{t:aa V}
    (S:tw N B d)(Z:A.handled=none)(o:tu P w K O m A g s H)(hl:t.length=B.length)(r:Vals t M)
    (x:InCallC s s.heap.objs.size (bindL (envOfC j d s.heap.objs.size f L).kindOf (B.zip M) λ_=>none) (cellsFrom (s.heap.objs.size+1) d.names []) (bindC (envOfC j d s.heap.objs.size f L).kindOf (B.zip M) λ_=>none) Q):
    Inv (kC U P w K O m N j d f L A g s H E) [] (start N t) H Q:=by
 have Y:B.length<=N.length:=by have:=bG List.length S.pre;rw[cX]at this;lia
 obtain⟨J,tk,rfl,T⟩:=x.done;have C:∀b:iR,b∉(kC U P w K O m N j d f L A g s H E).ex:=λb z=>absurd (show b∈([]:aa iR)from z) (by simp)
 refine⟨⟨o.mod,S.kind,rfl,rfl,af _,λy z c J l=>?_,λy D=>?_,λy c _ h=>?_,λ_=>Z,Around.frames_deeper o.frames,.inr ⟨rfl,rfl⟩,λb z=>absurd z (C b),o.bs,o.tW,λb _ _=>C b,λb z=>absurd z (C b),o.pz,o.wV⟩,
  rfl,o.bare,Un.kept T,⟨_,x.toInCall.ns,λi y v J l h3=>?_⟩,λy c h=>⟨_,x.cell y c h⟩,o.hok.fresh (af _),λy c h=>?_,λp G=>absurd (show p∈([]:aa (iR×lj))from G) (by simp),o.hok.kept T,?_⟩
 .exact name_of_addr x.apart (bz J) (bz l)
 .have D:d.names.lookup y=some .cell\/d.names.lookup y=some .free:=D;rcases D with D|D;.exact FZ D
  .exact absurd rfl (S.Uo _<|bz D)
 .exact dD (x.above y c<|bz h)
 .have I:i<t.length:=by
   unfold start at l;by_cases I:i<t.length;.exact I
   .rw[aK<|by simpa using I]at l;rw[bM]at l;split at l<;>cases l
  have ha:t[i]?=some v:=by
   unfold start at l;rw[aw<|by simpa using I,aC]at l;cases e:t[i]? with
   |none=>rw[e]at l;cases l
   |some a=>rw[e]at l;cases l;rfl
  obtain⟨u,R,X⟩:=r.get ha;have G:B[i]?=some y:=by rw[<-S.pre,List.getElem?_take_of_lt<|by simp_all];exact J
  have F:B.Nodup:=by rw[<-S.pre];exact S.nd.sublist (List.take_sublist _ _)
  refine⟨u,X,?_⟩;rcases S.par y (a9 G)with k|k;.exact .inl ⟨k,FL F G R k⟩
  .obtain⟨c,e⟩:=FZ (n:=s.heap.objs.size+1) k;refine .inr ⟨.inl k,c,e,?_⟩;have q:=x.cell y c e;rw[FJ F G R (by show d.names.lookup y≠_;rw[k];decide)]at q;exact q
 .exact o.hok.fresh (dD<|x.above y c<|bz h)
 .unfold start;show _=N.length;rw[ag,aj,c7];simp_all
def G0{K}{k kV}
 {p}(R:K.lookup f=some ⟨oc,od,.func<|W.fnOf name qual params body scope dV kV doc pm an cdv ct,osl⟩)(F:W.codeIn K cdv qual=true)(S:tw N ps scope)
 (len:∀c H Q E,p c H Q E->c.length=ps.length)
 (h:∀(A:jY) outer (s:i7) H c Q E,kz k (A.deeper (envOfC qual scope s.heap.objs.size f cdv))->p c H Q E->
 ∃t,ph (kC CX P w K mg base N qual scope f cdv A outer s H E) body t/\t {nx:=λ_ d=>Q .non d,rt:=Q} (start N c) H):
   mS P w K mg base CX (k+1) f (W.fnOf name qual params body scope dV kV doc pm an cdv ct) ps p:=by
  refine⟨len,λA outer s H L O c Q E D m hb r j=>?_⟩;have Y:=len _ _ _ _ j;have M:K.In s.heap:=m.mod.xb.keeps λb o e=>(m.bs b o e).1;have C:s.heap.NoLimit:=m.mod.nolimit.keeps λb o e=>(m.bs b o e).1;have g:∀y∈ps.zip O,scope.names.lookup y.1=some .local\/(scope.names.lookup y.1=some .cell/\((cellsFrom (s.heap.objs.size+1) scope.names []).lookup y.1).isSome=true):=λ⟨n,v⟩ T=>by
   rcases S.par n (g8 T).1 with q|q;.exact .inl q
   .exact .inr ⟨q,W.cellsFrom_some _ _ _<|.inl q⟩
  refine codeAny_call_function D.depth (M _ _ R) rfl S.co S.gen rfl (W.codeRec_of M F) (hb _ _ _ _ ?_);refine wpAny_newFunctionEnv_cells S.kind g λenv Z G x=>?_;subst Z;refine⟨C.keeps x.toInCall.keep,codeAny_func ?_⟩;obtain⟨t,U,X⟩:=h A outer s H c Q E (D.deeper _) j;have I:Inv (kC CX P w K mg base N qual scope f cdv A outer s H E) [] (start N c) H G:=Rv S D.hd m Y r x;refine br (U [] G (start N c) H _ I X) (λfl z i=>?_) λe z i=>i
  have l:∀{a:St} {d:Hp} {v:V} {u:iT},Inv (kC CX P w K mg base N qual scope f cdv A outer s H E) [] a d z->RelV v u->Q v d->CE outer P w H s Q u z:=
   λ{a d v u} J B q=>⟨v,d,J.os,J.bare,J.base,J.hok,B,q⟩
  cases fl with
  |ret u=>obtain⟨v,a,d,J,B,q⟩:=i;exact l J B q
  |next=>obtain⟨a,d,J,q⟩:=i;exact l (v:=V.non) (u:=Value.none) J rfl q
  |brk=>obtain⟨_,_,_,q⟩:=i;exact False.elim q
  |cont=>obtain⟨_,_,_,q⟩:=i;exact False.elim q
variable{X:Cx}{x:iS}{p pos:Pos}{e:jf}{es:kK}{t:TA}{id T:String}{r:aa V->Hp->VK->Prop}
def K7(r:aa V->Hp->VK->Prop)(t:TA):TE:=λa H Q=>t a H λb c=>r b c Q
def V1(q:ny X (.builtin id) r)(n:Gl X x)(m:X.mg x=none)(hv:bootBuiltins x=some (.builtin id))(u:PA X (e::es) t)(l:x≠"__name__")(c:lL x)
 (o:X.se e es)(b:X.bk pos es):PE X (.Call (.Name x p) (e::es) [] pos) (K7 r t):=by intro a s d H Q I h;refine cG (ui I n m hv ?_ l c);exact dm (je (u pos a s d H _ I h) λg i ⟨f,w,v,j,k⟩=>q a i d w f g Q v j k) o b
def Dv(q:ny X (.type T) r)(n:Gl X x)(m:X.mg x=none)(hv:bootBuiltins x=some (.type T))(u:PA X (e::es) t)(l:x≠"__name__")(c:lL x)
 (o:X.se e es)(b:X.bk pos es):PE X (.Call (.Name x p) (e::es) [] pos) (K7 r t):=by intro a s d H Q I h;refine cG (ui I n m hv ?_ l c);exact dI (je (u pos a s d H _ I h) λg i ⟨f,w,v,j,k⟩=>q a i d w f g Q v j k) o b
end L2
namespace HT
open PySem PyProof.Rows
variable{a:jE}{w:jz}{A:jY}{E:j0}{s:i7}
def jH(n d:Nat):i0 Int->Nat
 |none=>d
 |some v=>if v<0 then(v+(n:Int)).toNat else min v.toNat n
def Yx(n d)(b:d<=n)(o):jH n d o<=n:=by
 cases o with
 |none=>exact b
 |some v=>
  show(if v<0 then(v+(n:Int)).toNat else min v.toNat n)<=n;by_cases hv:v<0;.rw[aq hv];lia
  .rw[aA hv];exact Nat.min_le_right _ _
def F3(v)(n d:Nat):(if v<0 then max (v+(n:Int)) 0 else min v (n:Int))=((jH n d<|some v:Nat):Int):=by
 show(if v<0 then max (v+(n:Int)) 0 else min v (n:Int))=(((if v<0 then(v+(n:Int)).toNat else min v.toNat n):Nat):Int);by_cases hv:v<0;.simp only[aq hv];simp
 .simp only[aA hv];grind
abbrev _root_.tM:=i0 Int
def Ms(lo b:tM)(n:Nat):Builtin.Slice.sliceAdjust lo b 1 (n:Int)=(((jH n 0 lo:Nat):Int),((jH n n b:Nat):Int)):=by
 have c:¬((1:Int)<0):=by simp
 unfold Builtin.Slice.sliceAdjust;simp only[c,cj];refine Prod.ext ?_ ?_
 .cases lo with
  |none=>rfl
  |some v=>exact F3 v n 0
 .cases b with
  |none=>rfl
  |some v=>exact F3 v n n
def Wy(i j:Nat):Builtin.Slice.slicePlaces (i:Int) (j:Int) 1=j - i:=by
 unfold Builtin.Slice.slicePlaces;have b:(1:Int)>0:=by simp
 simp only[b,df,Int.ediv_one];split<;>simp_all
def KN{Q:i0 Int->i7->Prop}(p:IsPart v o)(h:Q o s):wpAny (model a w) A (Builtin.Slice.slicePartIndex v) Q E s:=by
 cases p with
 |none=>exact slicePart_none h
 |int i t=>exact slicePart_int h
def YT{g:iR}{f e:iT}{lo c:tM}{n:Nat}{Q:Int×Int×Nat->i7->Prop}(k:s.heap.IsSliceOf g f e .none)(j:IsPart f lo)(i:IsPart e c)
    (h:Q (((jH n 0 lo:Nat):Int),1,jH n n c - jH n 0 lo) s):wpAny (model a w) A (Builtin.Slice.sliceApplied (.ref g)<|pure (n:Int)) Q E s:=by
 obtain⟨m,b,l,d⟩:=id k;unfold Builtin.Slice.sliceApplied Builtin.Slice.sliceFields;refine ae (ae<|dQ b d (x:=f) rfl<|ae<|dQ b d (x:=e) rfl<|ae<|dQ b d (x:=.none) rfl<|ah ?_);refine ae (slicePart_none ?_);show wpAny _ _ (if((1:Int)==0)=true then _ else _) _ _ s;rw[aA<|by decide];refine ae (KN j<|ae<|KN i<|ae<|ah ?_);show wpAny _ _ (match Builtin.Slice.sliceAdjust lo c 1 (n:Int)with|(lo,c)=>pure (lo,(1:Int),Builtin.Slice.slicePlaces lo c 1)) _ _ s;rw[Ms lo c n];show wpAny _ _ (pure (((jH n 0 lo:Nat):Int),(1:Int),Builtin.Slice.slicePlaces ((jH n 0 lo:Nat):Int) ((jH n n c:Nat):Int) 1)) _ _ s;rw[Wy];exact ah h
def Ws(b:rn)(i k:Nat):((List.range k).filterMap λ(m:Nat)=>b[((i:Int)+(m:Int)*1).toNat]?).toArray=((b.toList.drop i).take k).toArray:=by
 have e:(λ(m:Nat)=>b[((i:Int)+(m:Int)*1).toNat]?)=λm=>b[i+m]?:=by
  funext m;have:((i:Int)+(m:Int)*1).toNat=i+m:=by walk_at "l"
  rw[this]
 rw[e];have:=pick_run b i k;rw[List.filterMap_map]at this;have c:((λx=>b[x]?)∘λx=>i+x)=λm=>b[i+m]?:=rfl;rw[c]at this;rw[this]
def Pr{t f:iR}{b:rn}{n l:iT}{lo d:tM}{Q:j0}(e:IsTup s.heap t b)(o:s.heap.IsSliceOf f n l .none)(r:IsPart n lo)(p:IsPart l d)
    (v:¬(jH b.size 0 lo=0/\jH b.size b.size d=b.size))
    (h:Q (.ref s.heap.objs.size) {s with heap:=s.heap.push {cls:=.type "tuple",data:=.seq ((b.toList.drop<|jH b.size 0 lo).take (jH b.size b.size d - jH b.size 0 lo)).toArray}})
    (x:b.size<=sizeLine):wpAny (model a w) A (getItem (.ref t)<|.ref f) Q E s:=by
 have c:sizeOk (.seq ((b.toList.drop<|jH b.size 0 lo).take (jH b.size b.size d - jH b.size 0 lo)).toArray):=by show((b.toList.drop<|jH b.size 0 lo).take (jH b.size b.size d - jH b.size 0 lo)).toArray.size<=sizeLine;rw[aP,cX,cY,aF];omega
 have C:jH b.size b.size d<=b.size:=Yx _ _ (af _) d;obtain⟨u,g,j,y⟩:=id o;have k:s.TypeIs (.ref f) "slice":=⟨u,g,j⟩;unfold getItem;try with_reducible refine bH ?_
 first|refine ae (ah ?_)|skip
 refine ae (wpAny_sequenceKey e.typeIs (by decide) ?_)
 refine ae (bR (name:=Str.ofString "__getitem__") e.typeIs fy
  (bE fy e.typeIs entry_tuple_getitem ?_ (args_tuple_getitem _ _)))
 show wpAny _ _ (Builtin.Tuple.tupleItemsOf (.ref t)>>=_) _ _ s;refine ae (tupleItemsOf_ e ?_);refine ae (dW k ?_);rw[aq<|by decide];refine ae (YT o r p ?_);have i:¬((((jH b.size 0 lo:Nat):Int)==0&&(1:Int)==1&&(jH b.size b.size d - jH b.size 0 lo)==b.size)=true):=by intro q;rw[aS,aS]at q;have B:((jH b.size 0 lo:Nat):Int)=0:=eq_of_beq q.1.1;have z:jH b.size b.size d - jH b.size 0 lo=b.size:=eq_of_beq q.2;exact v ⟨by simp_all,by simp_all⟩
 show wpAny _ _ (if(((jH b.size 0 lo:Nat):Int)==0&&(1:Int)==1&&(jH b.size b.size d - jH b.size 0 lo)==b.size)=true then _ else _) _ _ s;rw[aA i,Ws]
 first
  |exact ae (m:=Builtin.Tuple.tupleExact _) (bc (ah ⟨_,rfl,ah h⟩) c)
  |exact ae (m:=Builtin.Tuple.tupleExact _) (bc (ae<|ah<|ah ⟨_,rfl,ah h⟩) c)
  |exact ae (ae (m:=Builtin.Tuple.tupleExact _)<|bc (ah<|ah ⟨_,rfl,ah h⟩) c)
  |exact ae (ae (m:=Builtin.Tuple.tupleExact _)<|bc (ah ⟨_,rfl,ah h⟩) c)
end HT
namespace L2
open PySem PySem.Spec PyProof.Rows
abbrev TO:=St->Hp->(i0 Int->Hp->Prop)->Prop
def PO(X:Cx)(e:i0 jf)(t:TO):Prop:=
 ∀a s b H Q,Inv X a b H s->t b H Q->
  wpAny (model X.prog X.w) X.A (evalPart e X.env) (λu d=>∃o c,Inv X a b c d/\IsPart u o/\Q o c) X.xe s
def Z3:TO:=λ_ H Q=>Q none H
def Z8(t:TE):TO:=λa H Q=>t a H λx b=>∃i,x=.int i/\Q (some i) b
section
variable{X:Cx}{e:jf}{j:TE}{lo c:i0 jf}{m y:TO}{z B:Pos}
def WA:PO X none Z3:=by intro a s b H Q I h;rw[evalPart_none];exact ah ⟨none,H,I,.none,h⟩
def WB(h:PE X e j):PO X (some e) (Z8 j):=by intro a s d H Q I k;rw[evalPart_some];refine je (h a s d H _ I k) λu o b=>?_;obtain⟨x,n,l,f,g⟩:=b;obtain⟨i,rfl,q⟩:=g;obtain⟨t,rfl⟩:=f;exact⟨some i,n,l,.int i t,q⟩
def rh(X:Cx)(r:V->i0 Int->i0 Int->Hp->VK->Prop):Prop:=
 ∀a s b H x v f d lo c g Q,Inv X a b H s->RelV x v->s.heap.IsSliceOf g f d .none->IsPart f lo->IsPart d c->r x lo c H Q->
  ∃T h,typeLookup (.type T) "__getitem__"=pure (some<|.builtin h)/\s.TypeIs v T/\wpAny (model X.prog X.w) X.A (getItem v<|.ref g) (EP X a b Q) X.xe s
def rh.or{r k:V->i0 Int->i0 Int->Hp->VK->Prop}(h:rh X r)(p:rh X k):rh X (λx lo c H Q=>r x lo c H Q\/k x lo c H Q):=by
 intro a s b H x v f d lo c g Q I i o n l q;rcases q with q|q;.exact h a s b H x v f d lo c g Q I i o n l q
 .exact p a s b H x v f d lo c g Q I i o n l q
def tSl(r:V->i0 Int->i0 Int->Hp->VK->Prop)(j:TE)(m y:TO):TE:=λa H Q=>j a H λx f=>m a f λl d=>y a d λu b=>r x l u b Q
def Wd(J:rh X r)(M:PE X e j)(K:PO X lo m)(F:PO X c y):PE X (.Subscript e (.Slice lo c none B) z) (tSl r j m y):=by intro a s g H Q I h;refine Subscript_ (je (M a s g H _ I h) λv p d=>?_);obtain⟨x,U,R,t,C⟩:=d;refine wpAny_Slice (je (K a p g U _ R C) λk o d=>?_);obtain⟨l,S,P,E,A⟩:=d;refine je (F a o g S _ P A) λi f d=>?_;obtain⟨u,n,O,D,w⟩:=d;rw[evalPart_none];refine ah ?_;have N:Inv X a g n {f with heap:=f.heap.push {cls:=.type "slice",data:=.fields #[k,i,.none]}}:=O.kept (t':=f.toks) λb ob q=>ai _ q;obtain⟨T,V,hT,G,L⟩:=J a {f with heap:=f.heap.push {cls:=.type "slice",data:=.fields #[k,i,.none]}} g n x v k i l u f.heap.objs.size Q N t (Heap.IsSliceOf.new ..) E D w;show wpAny (model X.prog X.w) X.A (subscriptTail e (.Slice lo c none B) v<|.ref f.heap.objs.size) (EP X a g Q) X.xe {f with heap:=f.heap.push {cls:=.type "slice",data:=.fields #[k,i,.none]}};exact tail_any (ops:=[.ref f.heap.objs.size,v]) G hT L (by with_unfolding_all rfl)
def sM(a:aa V)(lo c:tM):aa V:=(a.drop<|HT.jH a.length 0 lo).take (HT.jH a.length a.length c - HT.jH a.length 0 lo)
def Ge(xs lo c):(sM xs lo c).length<=xs.length:=by
 unfold sM;rw[cX,cY]
 lia
def X7(K:i9):V->i0 Int->i0 Int->Hp->VK->Prop:=λx lo c H Q=>∃a b,x=.ref a/\mJ K H a b/\
 ¬(HT.jH b.length 0 lo=0/\HT.jH b.length b.length c=b.length)/\∀p,H p=none->Q (.ref p) (upd H p<|.tup<|sM b lo c)
def YS:rh X (X7 X.K):=by
 intro i s C H x v E D lo c F Q I n A t p h;obtain⟨a,f,rfl,u,w,q⟩:=h;cases n;obtain⟨g,r,l,k⟩:=I.tuple u;have d:g.toArray.size=f.length:=by rw[aP];exact r.length.symm
 refine⟨"tuple",_,PyProof.Rows.slot_tuple_getitem.lookup,l.typeIs,?_⟩;refine HT.Pr l A t p (by rw[d];exact w) ?_ (by rw[d];exact k);rw[d];refine⟨.ref s.heap.objs.size,_,I.laid (t':=s.toks) (o:=.tup<|sM f lo c) (λb ob q=>ai _ q) (af _) ?_,rfl,q _<|I.hok.fresh<|af _⟩;exact⟨aW (Ge f lo c) k,_,(r.drop<|HT.jH f.length 0 lo).take (HT.jH f.length f.length c - HT.jH f.length 0 lo),IsTup.new _ _⟩
end
noncomputable def qO(n:Nat)(i:Int):i0 Nat:=if 0<=i then(if i<n then some i.toNat else none)else if -(n:Int)<=i then some (i+n).toNat else none
def jO{a:Type}(b:aa a)(i:Int):i0 a:=(qO b.length i).bind λj=>b[j]?
def HP(h:qO n i=some j):seqIndex? i n=some j/\j<n/\ -(n:Int)<=i/\i<n:=by
 unfold qO at h;by_cases b:0<=i
 .rw[aq b]at h;by_cases a:i<n
  .rw[aq a]at h;have e:i.toNat=j:=Option.some.inj h;exact⟨by rw[seqIndex_of b a,e],by lia,by lia,a⟩
  .rw[aA a]at h;cases h
 .rw[aA b]at h;by_cases a: -(n:Int)<=i
  .rw[aq a]at h;have e:(i+n).toNat=j:=Option.some.inj h;exact⟨by rw[seqIndex_neg (by simp_all) a,e],by lia,a,by lia⟩
  .rw[aA a]at h;cases h
def Bm{a}{v:r}(h:jO a i=some v):∃j,seqIndex? i a.length=some j/\a[j]?=some v/\j<a.length/\ -(a.length:Int)<=i/\i<a.length:=by
 unfold jO at h;cases e:qO a.length i with
 |none=>rw[e]at h;cases h
 |some j=>rw[e]at h;obtain⟨f,d,c,b⟩:=HP e;exact⟨j,f,h,d,c,b⟩
def ry{a}{j:Nat}{v:r}(h:a[j]?=some v):jO a (j:Int)=some v:=by
 have b:j<a.length:=(az.mp h).1;have e:qO a.length (j:Int)=some j:=by unfold qO;rw[aq<|by simp,aq<|by simp_all];simp
 unfold jO;rw[e];exact h
def ym(b:jf):Prop:=∀o i,subscripted b false o i=operate [o,i] (getItem o i)
def qz(X:Cx)(r:R2):Prop:=
 ∀(b a:jf) (pins:kv) (s:i7) (z:St) (H:Hp) (x y:V) (v u:iT) (Q:VK),Inv X pins z H s->RelV x v->RelV y u->r x y H Q->
  subscripted a false v u=operate [v,u] (getItem v u)->wpAny (model X.prog X.w) X.A (subscriptTail b a v u) (EP X pins z Q) X.xe s
def E2(X:Cx)(e:String)(r:V->aa V->Hp->VK->Prop):Prop:=
 ∀a s b H x c v d Q,Inv X a b H s->RelV x v->Vals c d->r x c H Q->
  wpAny (model X.prog X.w) X.A (call (.builtin e)<|v::d) (EP X a b Q) X.xe s
variable{X:Cx}{a b:jf}{ta tb:TE}{pos:Pos}
def qz.or{r j:R2}(h:qz X r)(l:qz X j):qz X (λx y H Q=>r x y H Q\/j x y H Q):=by
 intro c d e s f H x y v u Q I i g q k;rcases q with q|q;.exact h c d e s f H x y v u Q I i g q k
 .exact l c d e s f H x y v u Q I i g q k
def Dy(j:qz X r)(l:PE X a ta)(k:PE X b tb)(i:ym b):PE X (.Subscript a b pos) (Ag r ta tb):=by intro c s d H Q I h;exact Subscript_ (Bt l k I h λv u e x y n m g f q=>j a b c e d n x y v u Q m g f q<|i _ _)
def Ki(K:i9):R2:=λx y H Q=>∃p c i v,x=.ref p/\y=.int i/\lH K H p c/\jO c i=some v/\Q v H
def Kk(K:i9):R2:=λx y H Q=>∃p c i v,x=.ref p/\y=.int i/\mJ K H p c/\jO c i=some v/\Q v H
def Kj:R2:=λx y H Q=>∃z i c,x=.str z/\y=.int i/\z.length<=sizeLine/\jO z.cps.toList i=some c/\Q (.str ⟨#[c]⟩) H
def HQ:qz X (Ki X.K):=by
 intro f g c s o H x y v u Q I F E h A;obtain⟨p,O,i,z,rfl,rfl,G,K,q⟩:=h;cases F;obtain⟨t,rfl⟩:=E;obtain⟨m,r,l,P⟩:=I.list G;obtain⟨j,e,N,S,M,L⟩:=Bm K;obtain⟨w,C,k⟩:=r.get N;have J:=r.length;have R:=uj;have d:EP X c o Q w s:=⟨z,H,I,k,q⟩;by_cases B:0<=i
 .have n:i.toNat=j:=by
   rw[seqIndex_of B L]at e;exact Option.some.inj e
  exact item_listR l.isList B (by lia) (by rw[n];simpa using C) d A
 .have n:(i+(m.toArray.size:Int)).toNat=j:=by
   rw[seqIndex_neg (by simp_all) M]at e;rw[aP,<-J];exact Option.some.inj e
  exact subscriptTail_builtinR (x:=w) l.isList.typeIs slot_list_getitem.lookup
   (wpAny_getItem_list_neg (Q:=λr D=>r=w/\EP X c o Q r D) l.isList (by simp_all) (by rw[aP]<;>simp_all) (by lia) (by rw[n];simpa using C) ⟨rfl,d⟩) A
def RQ:qz X (Kk X.K):=by
 intro d e c s k H x y v u Q I o n h B;obtain⟨p,K,i,z,rfl,rfl,C,E,q⟩:=h;cases o;obtain⟨t,rfl⟩:=n;obtain⟨A,r,l,L⟩:=I.tuple C;obtain⟨j,G,F,P,O,N⟩:=Bm E;obtain⟨w,J,f⟩:=r.get F;have D:=r.length;have M:=uj;have g:EP X c k Q w s:=⟨z,H,I,f,q⟩
 exact subscriptTail_builtinR (x:=w) l.typeIs slot_tuple_getitem.lookup
  (getItem_tuple (j:=j) (Q:=λr m=>r=w/\EP X c k Q r m) l (by lia) (by lia) (by rw[aP,<-D];exact G) (by simpa using J) ⟨rfl,g⟩) B
def RP:qz X Kj:=by
 intro d e f s C H x y v u Q I l k h m;obtain⟨z,i,c,rfl,rfl,E,o,q⟩:=h;obtain⟨t,rfl⟩:=l;obtain⟨D,rfl⟩:=k;obtain⟨j,g,w,G,r,p⟩:=Bm o;have n:z.cps.toList.length=z.length:=by simp[Str.length]
 rw[n]at g r p;have F:=uj;exact tail_any (typeIs_str s z t) slot_str_getitem.lookup (getItem_str (c:=c) (by have B:decide (i< -(2^63:Int))=false:=aG (by lia);have A:decide (i≥2^63)=false:=aG (by lia);rw[B,A,Bool.or_false]) (by rw[g];simpa using w) ⟨.str ⟨#[c]⟩,H,I.tok _,⟨_,rfl⟩,q⟩) m
def X2(K:i9):R2:=λx y H Q=>Ki K x y H Q\/Kk K x y H Q\/Kj x y H Q
def RO:qz X (X2 X.K):=HQ.or (RQ.or RP)
def TZ(c:kn)(n j:Nat)(u):Obj.mapSeq (·.setIfInBounds j u) {cls:=.type "list",data:=.seq c.toArray n}={cls:=.type "list",data:=.seq (c.set j u).toArray n}:=by simp[Obj.mapSeq]
def Inv.lst{d:kv}{g:St}{H:Hp}{s:i7}{p:iR}{f:aa V}(I:Inv X d g H s)(h:H p=some (.lst f)):
    ∃(c:kn) (n:Nat),Vals f c/\s.heap.get? p=some {cls:=.type "list",data:=.seq c.toArray n}/\f.length<=sizeLine:=by
 obtain⟨z,c,n,r,e⟩:=I.hok p _ h;exact⟨c,n,r,e,z⟩
def Inv.SO{d c:kn}{f:lj->lj}(I:Inv X pins v H s)(h:H p=some (.lst xs))
 (i:s.heap.get? p=some {cls:=.type "list",data:=.seq d.toArray n})(hf:f {cls:=.type "list",data:=.seq d.toArray n}={cls:=.type "list",data:=.seq c.toArray n'})(r:Vals ys c)(g:ys.length<=sizeLine)(t:Nat):
   Inv X pins v (upd H p<|.lst ys) {s with heap:=s.heap.update p f,toks:=t}:=by
  have e:(s.heap.update p f).get? p=some {cls:=.type "list",data:=.seq c.toArray n'}:=by rw[bf f i<|by rw[hf]<;>rfl,hf]
  refine I.write (x:=p) (e:=p) (by rw[h];trivial) (.inl rfl) (λb u j q=>(bJ _ _<|bK j).trans q) ⟨_,e⟩ ?_;exact⟨g,c,n',r,e⟩
def X4:V->V->V->Hp->(Hp->Prop)->Prop:=λo i v H Q=>∃p c k j,o=.ref p/\i=.int k/\H p=some (.lst c)/\qO c.length k=some j/\Q (upd H p<|.lst<|c.set j v)
def set_list:E4 X X4:=by
 intro c s A H o i v J K u Q I D E C h;obtain⟨p,B,k,j,rfl,rfl,m,G,q⟩:=h;cases D;obtain⟨t,rfl⟩:=E;obtain⟨d,n,r,f,F⟩:=I.lst m;obtain⟨e,M,x,w⟩:=HP G;have g:=r.length;have L:=uj
 have z:Inv X c A (upd H p<|.lst<|B.set j v) {s with heap:=s.heap.update p (Obj.mapSeq (·.setIfInBounds j u))}:=
  I.SO m f (TZ d n j u) (r.set C j) (by rw[aN];exact F) s.toks
 by_cases y:0<=k
 .have l:k.toNat=j:=by
   rw[seqIndex_of y w]at e;exact Option.some.inj e
  exact W.ki_setAt f y (by lia) (by rw[aP,<-g];exact w) (by rw[l];exact⟨_,z,q⟩)
 .have l:(k+(d.toArray.size:Int)).toNat=j:=by
   rw[seqIndex_neg (by simp_all) x]at e;rw[aP,<-g];exact Option.some.inj e
  exact W.ki_setBack f (by simp_all) (by rw[aP,<-g];exact x) (by lia) (by rw[l];exact⟨_,z,q⟩)
def YV(lo hi n):(sliceBounds lo hi none n).1=((HT.jH n 0 lo:Nat):Int)/\(sliceBounds lo hi none n).2.1=((HT.jH n n hi:Nat):Int)/\(sliceBounds lo hi none n).2.2=1:=by
 refine⟨?_,?_,rfl⟩
 .cases lo with
  |none=>simp[sliceBounds,HT.jH]
  |some i=>
   simp only[sliceBounds,HT.jH,Option.getD_none,show(1:Int)>0 by decide,df];by_cases h:i<0;.simp only[h,df]<;>grind
   .simp only[h,cj]<;>grind
 .cases hi with
  |none=>simp[sliceBounds,HT.jH]
  |some i=>
   simp only[sliceBounds,HT.jH,Option.getD_none,show(1:Int)>0 by decide,df];by_cases h:i<0;.simp only[h,df]<;>grind
   .simp only[h,cj]<;>grind
def YU(c:kn)(lo hi):slicePick c.toArray lo hi none=((c.drop (HT.jH c.length 0 lo)).take (HT.jH c.length c.length hi - HT.jH c.length 0 lo)).toArray:=by obtain⟨f,e,d⟩:=YV lo hi c.toArray.size;unfold slicePick;rw[f,e,d];simp only[sliceRange_one,pick_run,aP]<;>rfl
def X5(K:i9):V->i0 Int->i0 Int->Hp->VK->Prop:=λx lo d H Q=>∃a c,x=.ref a/\lH K H a c/\∀p,H p=none->Q (.ref p) (upd H p<|.lst<|sM c lo d)
def YQ:rh X (X5 X.K):=by intro f s t H x v w u lo e y Q I i p k j h;obtain⟨a,c,rfl,n,q⟩:=h;cases i;obtain⟨l,r,g,m⟩:=I.list n;have d:=r.length;refine⟨"list",_,slot_list_getitem.lookup,g.isList.typeIs,?_⟩;refine wpAny_getItem_list_slice g.isList p k j .none (by simp) ?_ (by rw[aP]<;>simp_all);rw[YU,<-d];refine⟨.ref s.heap.objs.size,_,I.laid (t':=s.toks) (o:=.lst<|sM c lo e) (λb ob q=>ai _ q) (af _) ?_,rfl,q _<|I.hok.fresh<|af _⟩;exact⟨aW (Ge c lo e) m,_,0,(r.drop<|HT.jH c.length 0 lo).take (HT.jH c.length c.length e - HT.jH c.length 0 lo),aJ _ rfl⟩
def MT:ny X (.builtin "len") (λj H Q=>∃p d,j=[.ref p]/\(lH X.K H p d\/mJ X.K H p d)/\Q (.int d.length) H):=by
 intro k s n H j o Q I r h;obtain⟨p,d,rfl,e,q⟩:=h;obtain⟨u,rfl,l⟩:=vals1 r;cases l;have t:=uj;rcases e with e|e
 .obtain⟨i,f,g,m⟩:=I.list e;have c:=f.length;exact Calls.call_len_list g.isList (by simp only[aP]<;>omega) ⟨.int d.length,H,I.tok _,⟨s.toks+1,by rw[aP,c]⟩,q⟩
 .obtain⟨i,f,g,m⟩:=I.tuple e;have c:=f.length;exact len_tuple g (by simp only[aP]<;>omega) ⟨.int d.length,H,I.tok _,⟨s.toks+1,by rw[aP,c]⟩,q⟩
def MU:ny X (.builtin "len") (λc H Q=>∃z,c=[.str z]/\z.length<=sizeLine/\Q (.int z.length) H):=by intro d s e H c f Q I r h;obtain⟨z,rfl,g,q⟩:=h;obtain⟨u,rfl,t,rfl⟩:=vals1 r;have i:=uj;exact len_str (by lia) ⟨.int z.length,H,I.tok _,⟨_,rfl⟩,q⟩
def ny.or{f:iT}{r i:aa V->Hp->VK->Prop}(h:ny X f r)(j:ny X f i):ny X f (λd H Q=>r d H Q\/i d H Q):=by
 intro c s e H d g Q I rs q;rcases q with q|q;.exact h c s e H d g Q I rs q
 .exact j c s e H d g Q I rs q
def FV:ny X (.type "list") (λA H Q=>∃p f,A=[.ref p]/\(lH X.K H p f\/mJ X.K H p f)/\∀l,H l=none->Q (.ref l) (upd H l<|.lst f)):=by
 intro j s C H A E Q I r h;obtain⟨p,f,rfl,m,q⟩:=h;obtain⟨u,rfl,D⟩:=vals1 r;cases D
 have v:∀(c:kn),Vals f c->f.length<=sizeLine->∀(d:jb) (i:Nat),(∀b B,s.heap.get? b=some B->d.get? b=some B)->
  d.get? s.heap.objs.size=some {cls:=.type "list",dict:=none,data:=.seq c.toArray i,slots:=#[]}->EP X j C Q (.ref s.heap.objs.size) {s with heap:=d}:=λc g k d i kp e=>
  ⟨.ref s.heap.objs.size,_,I.laid (t':=s.toks) kp (af _)<|show kH X.prog X.w _ d _ (.lst f)from⟨k,c,i,g,e⟩,rfl,q _<|I.hok.fresh<|af _⟩
 rcases m with m|m
 .obtain⟨c,g,w,k⟩:=I.list m;have t:=g.length;obtain⟨o,x,z,n,y⟩:=w.isList;exact call_list_seq p (.inl rfl) x z y (λd i kp e=>v c g k d i kp e) (by simp only[aP]<;>simp_all)
 .obtain⟨c,g,w,k⟩:=I.tuple m;have t:=g.length;obtain⟨o,x,z,n,y⟩:=w;exact call_list_seq p (.inr rfl) x z y (λd i kp e=>v c g k d i kp e) (by simp only[aP]<;>simp_all)
def Eo(K:i9)(T:String)(x:V)(H:Hp):Prop:=match x with
 |.str _=>T="str"
 |.int _=>T="int"
 |.ref p=>(T="list"/\∃d,lH K H p d)\/(T="tuple"/\∃o,K.lookup p=some o/\o.cls=.type "tuple"/\o.dict=none)\/
   (T="dict"/\((∃c,H p=some (.dK c))\/∃c,H p=some (.dT c)))\/(T="set"/\∃S n,H p=some (.set S n))
 |_=>False
def Ln(I:Inv X pins w H s)(r:RelV x v)(ty:Eo X.K T x H):
    s.TypeIs v T/\∀a,v=.ref a->∃ob,s.heap.get? a=some ob/\ob.dict=none:=by
 cases x with
 |str z=>obtain⟨t,rfl⟩:=r;cases(show T="str" from ty);exact⟨typeIs_str s z t,λ_ e=>nomatch e⟩
 |int i=>obtain⟨t,rfl⟩:=r;cases(show T="int" from ty);exact⟨typeIs_int s i t,λ_ e=>nomatch e⟩
 |ref p=>
  cases r;rcases ty with⟨rfl,q,l⟩|⟨rfl,o,d,m,g⟩|⟨rfl,d⟩|⟨rfl,S,n,d⟩
  .obtain⟨k,_,j,_⟩:=I.list l;refine⟨j.isList.typeIs,λa e=>?_⟩;cases e;obtain⟨o,n,e,c,g,_⟩:=j;exact⟨o,e,g⟩
  .refine⟨⟨o,I.mj p o d,m⟩,λa e=>?_⟩;cases e;exact⟨o,I.mj _ o d,g⟩
  .have z:∃o,s.heap.get? p=some o/\o.ExactDict:=by
    rcases d with⟨f,d⟩|⟨f,d⟩
    .obtain⟨_,_,_,_,o,_,_,e,ex,_⟩:=I.hok p _ d;exact⟨o,e,ex⟩
    .obtain⟨_,_,_,_,o,_,_,e,ex,_⟩:=I.hok p _ d;exact⟨o,e,ex⟩
   obtain⟨o,e,ex⟩:=z;refine⟨⟨o,e,ex.1⟩,λa h=>?_⟩;cases h;exact⟨o,e,ex.2.1⟩
  .obtain⟨o,_,_,_,e,ex,_⟩:=I.hok p _ d;refine⟨⟨o,e,ex.1⟩,λa h=>?_⟩;cases h;exact⟨o,e,ex.2.1⟩
 |_=>exact False.elim ty
def ZD(K:i9)(T:String)(r:V->aa V->Hp->VK->Prop)(to:TE):TE:=λd H Q=>to d H λx c=>Eo K T x c/\r x [] c Q
def ZC(K:i9)(T:String)(r:V->aa V->Hp->VK->Prop)(to:TE)(t:TA):TE:=λc H Q=>to c H λx d=>Eo K T x d/\t c d λe f=>r x e f Q
variable{o e:jf}{es:kK}{to:TE}{t:TA}{O:iS}{Y M:Pos}{T U:String}{r:V->aa V->Hp->VK->Prop}
def VZ(q:PlainAttrs T)(g:Slot T O U)(i:typeOf (.builtin U)=pure (.type "method_descriptor"))(w:E2 X U r)(u:PE X o to)
 (f:attributeBase o O X.env (eval o X.env)=eval o X.env)(d:(Y.endLine==M.line)=true):PE X (.Call (.Attribute o O Y) [] [] M) (ZD X.K T r to):=by intro c s k H Q I h;refine wpAny_Call_method0_late f d (je (u c s k H _ I h) λv n j=>?_);obtain⟨x,A,m,l,ty,p⟩:=j;obtain⟨z,y⟩:=Ln m l ty;exact⟨T,U,q,g,i,z,y,ck rfl<|PySem.evalArgs_none<|w c n k A x [] v [] Q m l .nil p⟩
def Du(D:PlainAttrs T)(i:Slot T O U)(l:typeOf (.builtin U)=pure (.type "method_descriptor"))(G:E2 X U r)(F:PE X o to)(J:PA X (e::es) t)
 (g:autoParam (attributeBase o O X.env (eval o X.env)=eval o X.env) aZ0)
 (j:autoParam (((backTo M (starEach (e::es) X.env)).all (λx=>!x.1)&&(backToKw M (keywordEach [] X.env)).all (λx=>x.1.isSome)
 &&decide ((e::es).length+([]:aa Keyword).length+(if([]:aa Keyword).isEmpty then 0 else 1)<30))=true) aZ0)
 (f:autoParam ((Y.endLine==M.line)=true) aZ0)(E:autoParam (X.se e es) aZ0)(d:autoParam ((backTo M<|starEach es X.env).any (·.1)=false) aZ0):
   PE X (.Call (.Attribute o O Y) (e::es) [] M) (ZC X.K T r to t):=by
  intro c s k H Q I h;refine wpAny_Call_method_late g j f rfl (je (F c s k H _ I h) λv z m=>?_);obtain⟨x,R,q,n,ty,C⟩:=m;obtain⟨L,K⟩:=Ln q n ty;refine⟨T,U,D,i,l,L,K,?_⟩;have p:=J M c z k R _ q C;rw[E]at p⊢;refine ck (by show(false||(backTo M (starEach es X.env)).any (·.1))=false;rw[d]<;>rfl) (dR ?_);exact je p λw y ⟨u,P,N,A,B⟩=>G c y k P x u v w Q N n A B
def A9(X:Cx)(U:String)(r:V->aa V->Hp->VK->Prop):Prop:=
 ∀c s d H x f v g Q,Inv X c d H s->RelV x v->Vals f g->r x f H Q->
  wpAny (model X.prog X.w) X.A (call (.builtin U)<|v::g) (EP X c d Q) X.xe s
def Vals.one:∀{x} {c},Vals [x] c->∃u,c=[u]/\RelV x u
 |_,_,.cons r .nil=>⟨_,rfl,r⟩
def Vals.zero:∀{c},Vals [] c->c=[]
 |_,.nil=>rfl
variable{C:kv}{L:St}{H:Hp}{s:i7}{l b:iR}{J ys zs:aa V}
def Inv.C5{c:kn}{f}{d:Nat}(I:Inv X C L H s)(j:H l=some (.lst J))
 (e:s.heap.get? l=some {cls:=.type "list",data:=.seq c.toArray n})(hf:f c.toArray=its'.toArray)(hv:Vals ys its')(g:ys.length<=sizeLine):
   Inv X C L (upd H l<|.lst ys) {s with heap:=s.heap.update l<|Obj.mapSeq f,toks:=d}:=by
  have q:=PySem.IsL.update e f;rw[hf]at q;refine I.write (x:=l) (e:=l) (by rw[j];exact trivial) (.inl rfl) (λk u i h=>(bJ s.heap (Obj.mapSeq f)<|bK i).trans h) ⟨_,q⟩ ?_;exact⟨g,its',_,hv,q⟩
def Inv.SK{t':Nat}(I:Inv X C L H s)(hv:Vals ys w4)(c:ys.length<=sizeLine):
    Inv X C L (upd H s.heap.objs.size<|.lst ys) {s with heap:=s.heap.push {cls:=.type "list",data:=.seq w4.toArray},toks:=t'}:=
 I.laid (λ_ _ q=>ai _ q) (af _) ⟨c,w4,0,hv,aJ _ rfl⟩
def Inv.fresh(I:Inv X C L H s):H s.heap.objs.size=none:=I.hok.fresh (af _)
def Inv.C6(I:Inv X C L H s)(d:H l=some (.lst J)):J.length<=sizeLine/\∃(c:kn) (n:Nat),Vals J c/\J.length=c.length/\s.heap.get? l=some {cls:=.type "list",data:=.seq c.toArray n}:=by obtain⟨z,c,n,r,e⟩:=I.hok l _ d;exact⟨z,c,n,r,r.length,e⟩
def Ur(h:n<=sizeLine):Builtin.List.listTooLong n=false:=by unfold Builtin.List.listTooLong;exact aG (by simp_all)
def XX:V->aa V->Hp->VK->Prop:=λx c H Q=>∃l J y,x=.ref l/\c=[y]/\H l=some (.lst J)/\J.length<sizeLine/\Q .non (upd H l<|.lst<|J++[y])
def C9:A9 X "list.append" XX:=by intro C s L H x j v k Q I f g h;obtain⟨l,J,y,rfl,rfl,d,m,q⟩:=h;cases f;obtain⟨u,rfl,i⟩:=g.one;obtain⟨z,c,n,r,p,e⟩:=I.C6 d;refine call_meets eJ ⟨_,e,rfl⟩ F.entry_list_append (F.args_list_append_2 _ _) (PySem.list_append l c.toArray n u (by rw[aP];simp_all)) ⟨e,?_⟩;refine⟨.non,_,I.C5 (its':=c++[u]) d e (by simp) (r.append<|.cons i .nil) ?_,rfl,q⟩;rw[ag,bY];walk_at "l"
def XZ:V->aa V->Hp->VK->Prop:=λx c H Q=>∃l J,x=.ref l/\c=[]/\H l=some (.lst J)/\Q .non (upd H l<|.lst [])
def Ub:A9 X "list.clear" XZ:=by intro C s L H x j v k Q I g i h;obtain⟨l,J,rfl,rfl,f,q⟩:=h;cases g;have d:=i.zero;subst d;obtain⟨z,c,n,r,m,e⟩:=I.C6 f;refine call_meets F.slot_list_clear ⟨_,e,rfl⟩ F.entry_list_clear (F.args_list_clear_1 _) (AutoSeq1.list_clear_list_0 l c.toArray n (by rw[aP];simp_all)) ⟨e,?_⟩;exact⟨.non,_,I.C5 (its':=[]) (ys:=[]) f e rfl .nil<|bI _,rfl,q⟩
end L2
namespace EE
open PySem PySem.W PySem.Calls PyProof.Rows
abbrev _root_.lJ:=aa Int
def Ru:∀(c:lJ) vs,WellAll P h vs (c.map WData.int)->IntsAre vs c:=by
 intro c;induction c with
 |nil=>intro vs w;rw[dg]at w;cases w;exact .nil
 |cons n c d=>
  intro vs w;rw[aD]at w;cases w with
  |cons a b=>cases a;exact .cons _ _ (d _ b)
def Yz{l:OpenLaw}(v:l.most=some n)
 (c:l.row.toRowW.claim.pre args=true)(j:WellAll P h vals args):
   ∃a m b,vals=[Value.ref a]/\args=[WData.list<|b.map WData.int]/\h.get? a=some {cls:=.type "list",data:=.seq m.toArray}/\IntsAre m b/\b.length<=n:=by
  have k:WShape.hasAll [] args [.list .int]=true:=(pre_splitW c).1;have o:l.pre.holds [] {args:=args}=true:=(pre_splitW c).2;obtain⟨d,r,rfl,y,x⟩:=hasAllW_cons k;obtain rfl:=hasAllW_nil x;obtain⟨z,rfl,w⟩:=hasW_list y;obtain⟨b,rfl⟩:=items_int w;have e:b.length<=n:=by
   unfold OpenLaw.pre at o;have i:(WTm.not<|.lt (.lit<|.int (n:Int))<|.len<|.arg 0).holds [] {args:=[.list<|b.map .int]}=true:=by have i:=(holds_andW o).1;rw[v]at i;exact i
   have g:=condW_of i (w_not<|w_lt w_lit<|w_len_list<|w_arg rfl);rw[aj]at g;refine Nat.le_of_not_lt λq=>?_;have t:(n:Int)<((b.length:Nat):Int):=by simp_all
   first
    |(rw[aR t]at g;exact absurd g (by decide))
    |(simp at g;omega)
  cases j with
  |cons s p=>
   cases p;cases s with
   |list u f=>exact⟨_,_,b,rfl,rfl,u,Ru b _ f,e⟩
def WC(l:OpenLaw)(args):l.row.toRowW.claim.post args (.bool true) args=true:=
 postW_of (r:=l.row.toRowW) (X:=(true==true))
  (show WShape.has [] (.bool true) .bool=true by first|rfl|decide|simp[WShape.has,WShape.arms,WShape.armsAll])
  (show(WTm.eq .res<|.lit<|.bool true).value [] {args:=args,res:=some<|.bool true,after:=args}=some (.bool<|true==true)from w_eq_bool (w_res rfl) w_lit) rfl
def MC{l:OpenLaw}{z:jz->jb->Prop}{d:DefRec}
 (D:l.most=some n)(s:d.params.defaults=[])
 (call:∀w (c b:i7) mg mb fa o pm cd doc a (g:kn) ns,
 Ground q loose [] XP w c mg mb b.heap->z w b.heap->
 b.heap.get? fa=some o->o.data=.func (docDef d.name d.params d.body d.scope pm cd doc)->b.heap.CodeRec cd d.name->mg d.name=some (.ref fa)->
 b.heap.get? a=some {cls:=.type "list",data:=.seq g.toArray}->IntsAre g ns->ns.length<=n->b.gens=#[]->
 codeAny (model l.prog w) callerA (.call (.ref fa) ⟨[.ref a],[]⟩) (λr k=>r=.ok (.ret (.bool true))/\OldK b.heap k.heap/\k.os=b.os/\AllBare k.gens) b):
  WalkO q loose XP z l.row.toRowW d [] (λf g=>PySem.call f g):=by
  intro w c b mg mb G Y fa o pm cd doc dV kV C I t x p H y u M h v A m F;obtain rfl:dV=.none:=Dflts.none x s;obtain rfl:kV=.none:=Dflts.noKw x;obtain⟨a,g,ns,rfl,rfl,i,e,j⟩:=Yz D h m;refine enter_call (eI (call w c b mg mb fa o pm cd doc a g ns G Y C (fd_plain I) t p i e j H) λr k B=>?_);obtain⟨rfl,L,K,J⟩:=B;exact⟨.inl ⟨.bool true,.bool true,[],rfl,λ_=>rfl,.bool true,WC l _,λ_=>⟨List.Pairwise.nil,λ_ E=>(nomatch E)⟩⟩,L,K,J⟩
end EE
namespace L2
open PySem PySem.Spec PyProof.Rows
theorem Lu:∀{a} {b},IntsAre a b->Vals (b.map V.int) a
 |_,_,.nil=>.nil
 |_,_,.cons n t h=>.cons ⟨t,rfl⟩ (Lu h)
def inClass(s:Stmt)(j:Nat):Stmt:=match s with
 |.ClassDef _ _ _ body _ _ _ _ _ _ _=>body.getD j (.Pass ⟨0,0,0,0⟩)
 |_=>.Pass ⟨0,0,0,0⟩
def oy(s:Stmt):Arguments:=match s with
 |.FunctionDef _ a _ _ _ _ _ _ _ _=>a
 |_=>{posonlyargs:=[],args:=[],vararg:=none,kwonlyargs:=[],kw_defaults:=[],kwarg:=none,defaults:=[]}
def mh(s:Stmt):aa Stmt:=match s with
 |.FunctionDef _ _ b _ _ _ _ _ _ _=>b
 |_=>[]
def jQ(s:Stmt):Scope:=match s with
 |.FunctionDef _ _ _ _ _ _ sc _ _ _=>sc
 |_=>{kind:=.function,names:=[],isGenerator:=false,isCoroutine:=false}
abbrev E0:XK:=λ_ _ _=>False
structure oi(K:i9)(x qual:iS)(st:Stmt)(f:iR)(fd:m8):Prop where
 ex:∃oc od kV doc pm an cdv ct osl,
  fd=W.fnOf x qual (oy st) (mh st) (jQ st) .none kV doc pm an cdv ct/\K.lookup f=some ⟨oc,od,.func fd,osl⟩/\W.codeIn K cdv qual=true
 kp:W.keepIn K (.ref f)=true
variable{P:jE}{w:jz}{K:i9}{m:km}{e:jb}
abbrev _root_.mf:=i0 iR
def oi.binds{x}{c}{f}{k}{g}(F:oi K x qual c f k)
 (h:∀(kV a i:iT) (j:mf) (b ct:iT) (d:kn),d.length=g.length->bindArgs (W.fnOf x qual (oy c) (mh c) (jQ c) .none kV a i j b ct) ⟨d,[]⟩=pure (g.zip d)):Binds K k g []:=by obtain⟨p,o,kV,a,i,j,b,ct,l,rfl,q,n⟩:=F.ex;exact .all (h kV a i j b ct)
def Hc{x}{st}{f}{kV}(l:K.lookup f=some ⟨oc,od,.func<|W.fnOf x qual (oy st) (mh st) (jQ st) .none kV doc pm an cdv ct,osl⟩)
 (c:W.codeIn K cdv qual=true)(k:W.keepIn K (.ref f)=true):oi K x qual st f (W.fnOf x qual (oy st) (mh st) (jQ st) .none kV doc pm an cdv ct):=⟨⟨oc,od,kV,doc,pm,an,cdv,ct,osl,rfl,l,c⟩,k⟩
variable{X:Cx}
def pv(i)(hN:autoParam (X.N[i]?=some x) aZ0)(hv:autoParam (pT X.env.scope x) aZ4)(b:autoParam (lL x) aZ1)
 (a:autoParam ((x==("__classdict__":iS))=false) aZ1):PE X (.Name x pos) (Lb i):=ux hN hv b a
def ug{A B:Prop}(h:B):if false=true then A else B:=by rw[aA av];exact h
def vB{A B:Prop}(h:A):if true=true then A else B:=by rw[aq rfl];exact h
def kU(H a:Hp):Prop:=∀b o,H b=some o->a b=some o
end L2
namespace Fx
open PySem
def Gs(o:lj)(f):(o.mapFields f).dict=o.dict:=by rcases o with⟨c,d,dt,a⟩;cases dt<;>rfl
def Dk(p:Prop)(h:jb)(e:iR)(d:mf):Prop:=(∀c,d=some c->∃a,h.get? e=some a/\a.dict=some c)/\∃a b,h.get? e=some a/\a.data=.fields b/\(p->b[2]?=some .none)
def oQ(p:Prop)(B:jb)(l:mL)(e:iR)(a:iT)(d:mf)(h:jb):Prop:=
 (∃b,Heap.FlyingW B l e a b h)/\Dk p h e d
def x9(p:Prop)(B:jb)(l:mL)(e:iR)(a:iT)(d:mf)(L:iR)(h:jb):Prop:=
 (∃b,Heap.HeldW B l e a b L h)/\Dk p h e d
def Gx{p d}{f:jZ iT->jZ iT}{o}(n:h.get? b=some o)(m:o.data=.fields vs)(hf:∀i:jZ iT,(f i)[2]?=i[2]?)(k:Dk p h e d):
    Dk p (h.update b<|Obj.mapFields f) e d:=by
 by_cases q:b=e
 .subst q;have g:=bf (Obj.mapFields f) n (bP<|bu m f);refine⟨λr l=>?_,?_⟩
  .obtain⟨j,a,c⟩:=k.1 r l;rw[n]at a;cases a;exact⟨_,g,by rw[Gs];exact c⟩
  .obtain⟨j,i,a,c,s⟩:=k.2;rw[n]at a;cases a;rw[m]at c;cases c;exact⟨_,_,g,bu m f,by rw[hf];exact s⟩
 .have g:(h.update b<|Obj.mapFields f).get? e=h.get? e:=bJ _ _ q;refine⟨λr l=>?_,?_⟩
  .obtain⟨j,a,c⟩:=k.1 r l;simp_all
  .obtain⟨j,i,a,c,s⟩:=k.2;simp_all
def KD(x)(a:rn):(a.setIfInBounds 3 x)[2]?=a[2]?:=cB (by decide)
variable{p:Prop}{M:Model}{A:jY}{E:j0}{s:i7}{B:jb}{a:Env}{outer l:mL}{L e:iR}{cls:iT}{d:mf}{Q:uZ}
def GK{more}(C:A.frames=some (a::outer))(y:s.heap.FunFrames B<|a::outer)(hf:a.frame=some L)
 (v:s.heap.get? e=some oe)(P:B.StaysIn s.heap)(N:B.get? e=none)(w:oe.data=.fields vs)(J:1<vs.size)(V:vs[0]?=some a0)(dk:Dk p s.heap e d)
 (U:∀F,x9 p B (a::outer) e oe.cls d L F->s.heap.UpToSlots F->Q () {s with heap:=F}):
   wpAny M A (do
    let fr<-frameOf a
    let at_<-entryPlaceOf L more
    let O<-EntryCells.newEntry head fr .none (rawInt L) .none at_
    setField (.ref e) 1 O) Q E s:=by
  have ne:e∉(a::outer).filterMap (·.frame):=λz=>by obtain⟨_,Y,i,m⟩:=y.mem z;rw[v]at i;cases i;exact m vs w
  refine ae (wpAny_frameOf_fun C y hf λf x=>?_);refine ae (wpAny_entryPlaceOf λc ok=>?_);unfold EntryCells.newEntry newFields;refine ae (bc ?_ (ok.sizeOk5 _ _ _ _ _));have u:f.get? e=some oe:=by rw[x.2.1 e ne];exact v
  have n:B.StaysIn f:=λb o q=>by rw[x.2.1 b λz=>by rw[(y.mem z).1]at q;cases q];exact P b o q
  generalize K:({cls:=.type "traceback",dict:=none,data:=.fields ([head,.ref L,.none,rawInt L,.none]++(if c.isEmpty then List.replicate 6 Value.none else c)).toArray}:lj)=xG;have t:(f.push xG).get? e=some oe:=ai _ u;refine bZ t w J (U _ ?_ ?_)
  all_goals
   have I:f.objs.size≠e:=dE (aM u);have keep:∀b o,b≠e->f.get? b=some o->((f.push xG).update e (Obj.mapFields (·.setIfInBounds 1 (Value.ref f.objs.size)))).get? b=some o:=λb o S g=>by rw[bJ _ _<|bK S];exact ai _ g
   have h:∀b o,s.heap.get? b=some o->(∀G,o.data≠.fields G)->b≠e:=λb o g r z=>by subst z;rw[v]at g;cases g;exact r vs w
  .have k:=bu w (·.setIfInBounds 1 (Value.ref f.objs.size));have j:=bf (Obj.mapFields (·.setIfInBounds 1 (Value.ref f.objs.size))) t (bP k);have D:((f.push xG).update e (Obj.mapFields (·.setIfInBounds 1 (Value.ref f.objs.size)))).get? f.objs.size=some xG:=by
    rw[bJ _ _<|bK I];exact aJ f (by rw[<-K];rfl)
   refine⟨⟨a0,λb o q=>keep b o (λz=>by rw[z,N]at q;cases q)<|n b o q,N,y.of_keeps λb o g r=>?_,?_⟩,λX T=>?_,?_⟩
   .obtain⟨H,z⟩:=x.2.2 b o g;exact⟨_,keep b _ (h b o g r) z,rfl⟩
   .refine⟨_,_,f.objs.size,xG,_,j,⟨dM _ _,?_⟩,k,by simp[J],n.fresh,I,D,by rw[<-K],?_⟩;.rw[cB<|by decide];exact V
    .rcases ok with z|⟨_,_,_,_,_,_,_,z⟩<;>(rw[z];simp)
   .obtain⟨R,i,m⟩:=dk.1 X T;rw[v]at i;cases i;exact⟨_,j,by rw[Gs];exact m⟩
   .obtain⟨R,G,i,m,W⟩:=dk.2;rw[v]at i;cases i;rw[w]at m;cases m;exact⟨_,_,j,k,by rw[cB (by decide)];exact W⟩
  .intro b o g r;obtain⟨H,z⟩:=x.2.2 b o g;exact⟨H,keep b _ (h b o g r) z⟩
def O2(k:A.frames=some (a::outer))(hf:a.frame=some L)(x:oQ p B (a::outer) e cls d s.heap)
 (y:∀i,x9 p B (a::outer) e cls d L i->s.heap.UpToSlots i->Q () {s with heap:=i}):wpAny M A (noteFrame (.ref e) a) Q E s:=by
  obtain⟨⟨P,u,G,F,N,J,T,O,K,m,⟨w,D⟩,n,i,H,I,hT,g,r⟩,dk⟩:=x;subst w;unfold noteFrame;simp only[hf];refine ae (dQ m n i ?_);rw[aq<|by simp];refine ae (dQ hT g r ?_);rw[aA<|by simp[rawInt]];refine ae (bZ hT g (bw.mp r).1 ?_);have c:∀b,b≠T->(s.heap.update T (Obj.mapFields (·.setIfInBounds 3 Value.none))).get? b=s.heap.get? b:=λb z=>bJ _ _ (bK z);have f:∀b o,s.heap.get? b=some o->(∀t,o.data≠.fields t)->b≠T:=λb o h j z=>by simp_all
  refine GK (s:={s with heap:=s.heap.update T (Obj.mapFields (·.setIfInBounds 3 Value.none))}) k (F.of_keeps λb o h j=>⟨o,by rw[c b<|f b o h j];exact h,rfl⟩) hf
   (by rw[c e<|bK I];exact m) (λb o q=>by rw[c b λz=>by rw[z,H]at q;cases q];exact u b o q) G n (bw.mp i).1 D (Gx hT g (KD _) dk) λC v up=>?_
  exact y C v λb o h j=>up b o (by rw[c b<|f b o h j];exact h) j
def Yd(c:A.frames=some (a::outer))(k:s.heap.FunFrames B<|a::outer)(hf:a.frame=some L)(f:s.heap.get? e=some oe)(h:B.StaysIn s.heap)
 (m:B.get? e=none)(g:oe.data=.fields vs)(b:vs[1]?=some .none)(j:vs[0]?=some a0)(dk:Dk p s.heap e d)
 (i:∀b,x9 p B (a::outer) e oe.cls d L b->s.heap.UpToSlots b->Q () {s with heap:=b}):wpAny M A (noteFrame (.ref e) a) Q E s:=by unfold noteFrame;simp only[hf];refine ae (dQ f g b ?_);exact GK c k hf f h m g (bw.mp b).1 j dk i
def Sw(C:B.StaysIn s.heap)(J:B.get? e=none)(I:s.heap.FunFrames B l)(y:s.heap.TracedAtW B e cls a0 fl)(dk:Dk p s.heap e d)
 (G:∀j,oQ p B l e cls d j->s.heap.UpToSlots j->Q () {s with heap:=j}):wpAny M A (setFlight (.ref e) none) Q E s:=by
  obtain⟨D,w,T,K,x,n,F,r,j,t,u,hT,g,H⟩:=y;have m:3<x.size:=(bw.mp H).1;unfold setFlight;refine ae (dQ n r j ?_);refine bZ hT g m (G _ ⟨⟨a0,?_⟩,Gx hT g (KD _) dk⟩ ?_)
  all_goals
   have c:∀b,b≠T->(s.heap.update T (Obj.mapFields (·.setIfInBounds 3 ((none:mf).elim Value.none λf=>rawInt f)))).get? b=s.heap.get? b:=λb z=>bJ _ _ (bK z);have h:∀b o,s.heap.get? b=some o->(∀v,o.data≠.fields v)->b≠T:=λb o i k z=>by simp_all
  .refine⟨λb o q=>by rw[c b λz=>by rw[z,t]at q;cases q];exact C b o q,J,I.of_keeps λb o i k=>⟨o,by rw[c b<|h b o i k];exact i,rfl⟩,?_⟩;exact⟨D,w,T,_,_,by rw[c e<|bK u];exact n,F,r,j,t,u,bf _ hT<|bP<|bu g _,bu g _,by simp[m]⟩
  .exact λb o i k=>⟨o.slots,by rw[c b<|h b o i k];exact i⟩
def Hw(x:x9 p B l e cls d L s.heap)(g:∀b,oQ p B l e cls d b->s.heap.UpToSlots b->Q () {s with heap:=b}):wpAny M A (setFlight (.ref e) none) Q E s:=by obtain⟨⟨j,f,i,h,c⟩,dk⟩:=x;exact Sw f i h c dk g
def oQ.less(x:oQ p B (a::outer) e cls d s.heap):oQ p B outer e cls d s.heap:=by obtain⟨⟨h,c,g,⟨_,_,f⟩,b⟩,dk⟩:=x;exact⟨⟨h,c,g,f,b⟩,dk⟩
def O1(c:A.frames=some (a::outer))(hf:a.frame=some L)(x:oQ p B (a::outer) e cls d s.heap)
 (k:∀b,oQ p B outer e cls d b->s.heap.UpToSlots b->Q () {s with heap:=b}):wpAny M A (leaving a<|.ref e) Q E s:=by unfold leaving;exact ae (O2 c hf x λb h j=>Hw (s:={s with heap:=b}) h λf g i=>k f (oQ.less (s:={s with heap:=f}) g)<|j.trans i)
def Yc(c:A.frames=some (a::outer))(t:s.heap.FunFrames B<|a::outer)(hf:a.frame=some L)(m:s.heap.get? e=some oe)(k:B.StaysIn s.heap)
 (u:B.get? e=none)(n:oe.data=.fields vs)(b:vs[1]?=some .none)(r:vs[0]?=some a0)(dk:Dk p s.heap e d)
 (o:∀b,oQ p B outer e oe.cls d b->s.heap.UpToSlots b->Q () {s with heap:=b}):wpAny M A (leaving a<|.ref e) Q E s:=by unfold leaving;exact ae (Yd c t hf m k u n b r dk λq h j=>Hw (s:={s with heap:=q}) h λf g i=>o f (oQ.less (s:={s with heap:=f}) g)<|j.trans i)
end Fx
set_option maxHeartbeats 4000000
namespace L2
open PySem PySem.Spec PyProof.Rows Fx
def Fg(d:mf)(H:Hp):Prop:=∀a,d=some a->∃f v,H a=some (.xd [(f,v)])
def j8(P:jE)(w:jz):qv:=λa H s E e b=>
 ∃(f:iR) (cls:iT) (d:mf) (H1:Hp) (B:jb),e=.ref f/\b.os=s.os/\AllBare b.gens/\oQ (Fg d H1) B a f cls d b.heap/\
  (∀c:jb,B.StaysIn c->b.heap.UpToSlots c->Un (frs a) [] H H1 s.heap c/\kG P w H1 c)/\H1 f=none/\s.heap.get? f=none/\E cls d H1
structure E3(X:Cx)(pins:kv)(e:iR):Prop where
 old:X.s₀.heap.get? e=none
 pin:∀p∈X.pn++pins,p.1≠e
 loc:e≠X.env.locals
 cel:∀x c,X.env.cells.lookup x=some c->c≠e
 frm:e∉X.fs
def XP(X:Cx)(a:kv)(g:St)(R:XK)(e:iT)(c:i7):Prop:=
 ∃(b:iR) (cls:iT) (d:mf) (H1:Hp) (B:jb),e=.ref b/\oQ (Fg d H1) B X.stack b cls d c.heap/\
  (∀f:jb,B.StaysIn f->c.heap.UpToSlots f->Inv X a g H1 {c with heap:=f})/\H1 b=none/\E3 X a b/\R cls d H1
section
variable{X:Cx}{a:kv}{i:St}{H:Hp}{s s':i7}{e:iT}{E:XK}
def Inv.Ug(I:Inv X a i H s)(n:s.heap.get? ea=none)(f:X.ex=[]):E3 X a ea:=by
 have z:∀b o,s.heap.get? b=some o->b≠ea:=λb o q w=>by rw[w,n]at q;cases q
 refine⟨?_,λp h=>z _ _ (I.pin p h).1,λw=>?_,λx c j=>?_,λk=>?_⟩
 .cases q:X.s₀.heap.get? ea with
  |none=>rfl
  |some o=>obtain⟨l,g⟩:=I.base.there ea o q (by rw[f];simp);rw[n]at g;cases g
 .obtain⟨m,⟨o,_,_,d,_⟩,_⟩:=I.loc;exact z _ _ d w.symm
 .obtain⟨v,o,d,_⟩:=I.cell x c j;exact z _ _ d
 .obtain⟨_,o,d,_⟩:=I.pz.mem k;exact z _ _ d rfl
def aaP(I:Inv X a i H s)(h:j8 X.prog X.w X.stack H s E e s')(g:X.ex=[]):XP X a i E e s':=by obtain⟨q,j,d,u,B,rfl,m,c,o,r,p,fr,n⟩:=h;refine⟨q,j,d,u,B,rfl,o,λk t l=>?_,p,I.Ug fr g,n⟩;obtain⟨un,f⟩:=r k t l;exact I.FU (s':={s' with heap:=k}) (ch:=[]) m un f c λb z=>absurd z (by simp)
end
def kH.there{w o}(x:kH P w H h a o):∃ob,h.get? a=some ob:=by
 cases o with
 |lst b=>obtain⟨_,_,_,_,q⟩:=x;exact⟨_,q⟩
 |tup b=>obtain⟨_,_,_,ob,q,_⟩:=x;exact⟨_,q⟩
 |set S n=>obtain⟨ob,_,_,_,q,_⟩:=x;exact⟨_,q⟩
 |ins C g fs=>obtain⟨_,_,_,q,_⟩:=x;exact⟨_,q⟩
 |own y=>exact x
 |xd fs=>obtain⟨_,⟨_,_,_,q,_⟩,_⟩:=x;exact⟨_,q⟩
 |Aa lo e=>obtain⟨_,_,_,q⟩:=x;exact⟨_,q⟩
 |kd ob u=>obtain⟨q,_⟩:=x;exact⟨_,q⟩
 |ma d=>exact⟨_,(show h.get? a=some _ from x)⟩
 |met f y=>exact⟨_,(show h.get? a=some _ from x)⟩
 |ext c=>obtain⟨_,q,_⟩:=x;exact q
 |_=>obtain⟨_,_,_,_,ob,_,_,q,_⟩:=x;exact⟨_,q⟩
def kG.no{w}(x:kG P w H h)(n:h.get? a=none):H a=none:=by
 cases q:H a with
 |none=>rfl
 |some o=>obtain⟨ob,z⟩:=(x a o q).there;rw[n]at z;cases z
section
variable{P:jE}{w:jz}{K:i9}{r:km}{j:jb}{N:jy}{i:iS}{c:Scope}{f:iR}{m:iT}{A:jY}{outer:mL}{s:i7}{H:Hp}{E:XK}
def vL:Passes (j8 P w) (kC (j8 P w) P w K r j N i c f m A outer s H E) E:=λp F Q G e o I h=>by obtain⟨t,l,d,D,B,rfl,q,C,z,x,y⟩:=aaP I h rfl;have J:=λb g a=>C b g a;obtain⟨O,v,_⟩:=q.1;have u:=J o.heap v (Heap.UpToSlots.refl _);show wpAny _ _ (leaving _<|.ref t) _ _ o;refine O1 (outer:=outer) (L:=s.heap.objs.size) I.ok.frames rfl q λM k n=>?_;exact⟨t,l,d,D,B,rfl,u.os,u.bare,k,λb g a=>⟨(J b g<|n.trans a).base,(J b g<|n.trans a).hok⟩,z,x.old,y⟩
def Ye{d}
 (I:Inv (kC (j8 P w) P w K r j N i c f m A outer s H E) pins σ H2 s2)(R:s2.heap.get? e=some l)(fr:s.heap.get? e=none)(S:l.data=.fields vs)(h1:vs[1]?=some .none)(h0:vs[0]?=some a0)
 (dk:∀U,d=some U->∃l,s2.heap.get? e=some l/\l.dict=some U)(cn:Fg d H2->vs[2]?=some .none)(T:H2 e=none)(hE:E l.cls d H2):(kC (j8 P w) P w K r j N i c f m A outer s H E).xe (.ref e) s2:=by
  let X:=kC (j8 P w) P w K r j N i c f m A outer s H E
  let B:=W.hideAll s2.heap (e::frs X.stack)
  have Z:B.StaysIn s2.heap:=λb o q=>W.of_hideAll _ q;have fe:B.get? e=none:=W.hideAll_none _ (List.Mem.head _);have ff:s2.heap.FunFrames B X.stack:=W.funFrames_hide I.stack λJ hm b g=>List.Mem.tail _ (aZ.mpr ⟨J,hm,g⟩);show wpAny _ _ (leaving _ (.ref e)) _ _ s2;refine Yc (B:=B) (outer:=outer) (L:=s.heap.objs.size) I.ok.frames ff rfl R Z fe S h1 h0 ⟨dk,l,vs,R,S,cn⟩ λh3 G Y=>?_;refine⟨e,l.cls,d,H2,B,rfl,I.os,I.bare,G,λF b5 V=>?_,T,fr,hE⟩;have up:s2.heap.UpToSlots F:=Y.trans V;have keep:∀b o,s2.heap.get? b=some o->b≠e->b∉frs X.stack->F.get? b=some o:=λb o q y x=>b5 b o (W.hideAll_get _ q λz=>by
   rcases aI.mp z with z|z;· exact y z
   · exact x z)
  have h:∀b o,H2 b=some o->b≠e/\b∉frs X.stack:=λb o q=>⟨λz=>(by subst z;rw[T]at q;cases q),λz=>(by rw[I.Ed b z]at q;cases q)⟩;have v:∀b o,s.heap.get? b=some o->b∉frs outer->b≠e/\b∉frs X.stack:=λb o q n=>⟨λz=>(by subst z;rw[fr]at q;cases q),λz=>(aI.mp (I.Ae b z)).elim (λz=>absurd (aM q) (by rw[z];exact cL _)) (λz=>n z)⟩;have k:∀b o,s2.heap.get? b=some o->b∈frs outer->∃O,F.get? b=some {o with slots:=O}:=λb o q g=>by obtain⟨_,o2,p,nf⟩:=I.pz.mem g;rw[q]at p;cases p;exact up b o q nf
  refine⟨⟨λb o q n g _=>?_,λb o q n g _=>?_,λb o q n D=>I.base.free b o q n D,λb o q D=>?_,I.base.tups,I.base.pX,I.base.rV⟩,λa o M=>?_⟩
  .obtain⟨y,x⟩:=v b o q g;exact keep b o (I.base.keep b o q n g (by intro z;exact absurd (show b∈([]:aa iR)from z) (by simp))) y x
  .obtain⟨O,C⟩:=I.base.slot b o q n g (by intro z;exact absurd (show b∈([]:aa iR)from z) (by simp));obtain⟨t,p⟩:=k b _ C g;exact⟨t,p⟩
  .obtain⟨Q,C⟩:=I.base.there b o q D;by_cases g:b∈frs outer
   .obtain⟨t,p⟩:=k b _ C g;exact⟨_,p⟩
   .obtain⟨y,x⟩:=v b o q g;exact⟨Q,keep b Q C y x⟩
  .refine(I.hok a o M).stay (λb u g q=>?_) (λ_ q=>q) λ_ _ q=>q;rcases g with rfl|g;.exact keep b u q (h b _ M).1 (h b _ M).2
   .exact keep b u q (h b _ g).1 (h b _ g).2
def OR{K}(X:K.In h)(q:W.excIn K C wJ newId=true):
    ∃v N z y bs g x sub D d dd u t p o k F,h.get? C=some (excClassObj z y C N bs v g x sub D d dd u t p o k newId)/\h.Ns N F/\F "__init__"=none/\OwnTail h wJ v:=by
 unfold W.excIn at q;split at q
 next dd m sl ho=>
  split at q
  next C' v u t p o n k hm hs=>
   simp only[aS,dP,eK]at q;obtain⟨⟨⟨⟨⟨rfl,rfl⟩,a⟩,G⟩,b⟩,e⟩:=q;rcases m with⟨z,bs,J,I,y,B,x,sub,D,d,M⟩;dsimp only at hm a b e;subst hm a;have L:sl=#[u,t,p,o,some (.builtin n),k]:=by rcases sl with⟨l⟩;simp only at hs;rw[hs]
   subst L;exact⟨v,I,z,y,bs,B,x,sub,D,d,dd,u,t,p,o,k,_,X _ _ ho,.of_isNs<|W.isNs_of_in X b,W.nsMap_none_of_in X b e,W.tail_of_in X G⟩
  next=>cases q
 next=>cases q
def Z9(E:XK)(C:iR):TS:=λ_ _ H=>E (.ref C) none H
def WK(p:ExcBaseFacts B newId Rq wJ)(q:W.excIn K C wJ newId=true)
 (F:Gl (kC (j8 P w) P w K r j N i c f m A outer s H E) x)(v:r x=some (.ref C))(d:lL x):
   PS (kC (j8 P w) P w K r j N i c f m A outer s H E) (.Raise (some<|.Call (.Name x np) [] [] cpos) none pos) (Z9 E C):=by
  intro a g u O D I h;obtain⟨bm,NS,T,R,bs,l,Q,sub,ab,L,dd,Z,Y,X,V,U,mN,hC,hN,b,n⟩:=OR I.mj q;refine wpAny_Raise_call_subT (bm:=bm) p (mN:=mN) (n.hasType p.hasBase) (I.ok.hd rfl) rfl b (CY I F v ⟨rfl,evalArgs_empty ⟨rfl,bI _,hC,hN,n,λJ e mk=>?_⟩⟩ d);obtain⟨t,G,_,_⟩:=mk.there;have M:Inv (kC (j8 P w) P w K r j N i c f m A outer s H E) a u O {g with heap:=J}:=I.kept (t':=g.toks) mk.keeps;refine Ye M G ?_ rfl rfl rfl (by intro dx z;cases z) (λ_=>rfl) (I.hok.no mk.new) h;cases z:s.heap.get? e with
  |none=>rfl
  |some o=>obtain⟨S,k⟩:=I.base.there e o z (by intro y;exact absurd (show e∈([]:aa iR)from y) (by simp));rw[mk.new]at k;cases k
end
section
variable{P:jE}{w:jz}{K:i9}{l:km}{c:jb}
def oi.Jh{x a g f n N i k h}(F:oi K x a g f n)(S:tw N i<|jQ g)(len:∀d H Q E,h d H Q E->d.length=i.length)
 (e:∀b (A:jY) outer (s:i7) H d Q E,kz k (A.deeper (envOfC a (jQ g) s.heap.objs.size f b))->h d H Q E->
 ∃t,ph (kC (j8 P w) P w K l c N a (jQ g) f b A outer s H E) (mh g) t/\t {nx:=λ_ u=>Q .non u,rt:=Q} (start N d) H):mS P w K l c (j8 P w) (k+1) f n i h:=by obtain⟨z,y,kV,r,v,B,b,ct,o,rfl,p,m⟩:=F.ex;exact G0 p m S len λA outer s H d Q E q j=>e b A outer s H d Q E q j
variable{X:Cx}
def Ma(i j:Int):Prop:=Builtin.Int.intBits i<=1048576/\Builtin.Int.intBits j<=1048576
def U6:kI X (binaryOp .Mult) (rI Ma λi j=>.int<|i*j):=xu λ_ _ _ _ _ _ _ a q=>mul_int q (IntMulOk.of_le a.1 a.2<|by decide)
def EF(_ j:Int):Prop:=j≠0/\Builtin.Int.intBits j<=9000
def SM(h:Builtin.Int.intBits j<=9000):j.natAbs.log2<9000:=by
 by_cases z:j.natAbs=0;.rw[z];decide+kernel
 .exact(Nat.log2_lt z).mpr (intBits_le_iff.mp h)
def UO:kI X (binaryOp .FloorDiv) (rI EF λi j=>.int<|i.fdiv j):=xu λ_ _ _ _ _ _ _ a q=>floordiv_int a.1 q (.inl<|PyProof.noPylong_of_log2<|SM a.2)
def UY:kI X (compareOp .IsNot) (λx y H Q=>∃a b,x=.bl a/\y=.bl b/\Q (.bl<|a !=b) H):=by intro d s g H x y v u Q I f e h;obtain⟨a,b,rfl,rfl,q⟩:=h;cases f;cases e;exact isnot_bool (kE I q rfl)
end
def q7(P:jE)(w:jz)(K:i9)(c:km)(a:jb)(g:qv)(k:Nat)(x:iS)(b:jy)(e:Sp):Prop:=
 ∃f d,mS P w K c a g k f d b e/\Binds K d b []/\W.keepIn K (.ref f)=true/\c x=some (.ref f)
abbrev pQ(P:jE)(w:jz)(K:i9)(mg:km)(base:jb):=q7 P w K mg base (j8 P w)
abbrev my(P:jE)(w:jz)(K:i9)(mg:km)(base:jb):=mS P w K mg base (j8 P w)
def VT{w}:Passes (j8 P w) X E0:=λ_ _ _ _ _ _ _ h=>by obtain⟨_,_,_,_,_,_,_,_,_,_,_,_,z⟩:=h;exact z.elim
variable{X:Cx}{Y:qv}{k:Nat}{M:jy}{O:Sp}{E:XK}{x:iS}{p T:Pos}{e:jf}{U:kK}{t:TA}
def Dx(h:q7 X.prog X.w X.K X.mg X.base Y k x M O)(g:kz k X.A)(i:Gl X x)(d:Passes Y X E)(l:PA X (e::U) t)(c:lL x)
 (j:X.se e U)(a:X.bk T U):PE X (.Call (.Name x p) (e::U) [] T) (K8 O [] E t):=by obtain⟨f,n,F,b,kp,m⟩:=h;exact V0 F g i m kp b .nil d l c j a
end L2
namespace Fx
open PySem
variable{e:jE}{w:jz}{A:jY}{E:j0}{h:jb}{g:jZ GenState}{d:Drawn}{t:Nat}{b:OsState}
abbrev _root_.yA:=i0 iT
variable{p q:iS}{C N:iR}{bs I l:kn}{i:i6}{m:jy}{sub:kn}{J:i6}{j:i0 i6}{dd:mf}{F z x v r:yA}{B c a:String}
abbrev _root_.sE:=i0 iT->i7->Prop
abbrev sD(h:jb)(C:iR)(n:iS)(y:yA):Prop:=∀(M:Model) (A:jY) (E:j0) (g:jZ GenState) (d:Drawn) (t:Nat) (b:OsState) (Q:sE),
 Q y ⟨h,g,d,t,b⟩->wpAny M A (typeLookup (.ref C) n) Q E ⟨h,g,d,t,b⟩
end Fx
namespace L2
open PySem PySem.Spec PyProof.Rows Fx
def yT(e C:iR)(d:mf):HO:=.ext λh=>∃a c,h.get? e=some a/\a.cls=.ref C/\(∀b,d=some b->a.dict=some b)/\a.data=.fields c
variable{X:Cx}{a:kv}{c:St}{H:Hp}{s:i7}{e:iR}{o:HO}
def drop(H:Hp)(e:iR):Hp:=λb=>if b=e then none else H b
def Ek{K:i9}{n}(X:K.In h)(e:W.findIn K (.ref C) n=some y):sD h C n y:=λM A E g d t b Q f=>(W.looks_findIn (M:=M) X e).here (s:=⟨h,g,d,t,b⟩) f
end L2
namespace P2
open PySem L2
inductive D where
 |non|bl(b:Bool)|int(i:Int)|str(x:Str)|ty(n:String)|ref(a:Addr)
 |tup(ds:List D)|lst(ds:List D)|exc(c:Addr)(ns:List Str)(ds:List D)
inductive R(r:Type) where
 |ok(a:r)|ex(c:Addr)(ns:List Str)(ds:List D)|bad
abbrev jg:=aa D->R D
noncomputable def R.bind{d b:Type}:R d->(d->R b)->R b
 |.ok a,f=>f a
 |.ex c ns ds,_=>.ex c ns ds
 |.bad,_=>.bad
def FO{b a}{r:R b}{g}{y:a}(h:r.bind g=.ok y):∃x,r=.ok x/\g x=.ok y:=by
 cases r with
 |ok x=>exact⟨x,rfl,h⟩
 |_=>cases h
def KL(K:i9)(a:iR)(c:aa V):Prop:=∃(b:kn) (n:Nat),K.lookup a=some {cls:=.type "list",data:=.seq b.toArray n}/\b.length<=sizeLine/\Vals c b
def KL.sq(h:KL K a vs):lH K H a vs:=let⟨b,n,e,d,c⟩:=h;.inr ⟨_,b.toArray,n,e,rfl,rfl,rfl,by simpa using d,by simpa using c⟩
def KT(K:i9)(a:iR)(c:aa V):Prop:=∃(o:lj) (b:rn) (n:Nat),K.lookup a=some o/\o.cls=.type "tuple"/\o.data=.seq b n/\b.size<=sizeLine/\Vals c b.toList
def namesOf(K:i9):aa iS:=match K.lookup mainGlobals with
 |some ⟨_,_,.dict a _,_⟩=>a.toList.filterMap λe=>match e.key with
  |.str x _=>some x
  |_=>none
 |_=>[]
noncomputable def Wz(K:i9)(x:iS):i6:=match W.nsIn K mainGlobals x with
 |some (some (.ref f))=>(match K.lookup f with
  |some ⟨_,_,.func a,_⟩=>(match a.defaults,a.kwdefaults with
   |.none,.none=>true
   |_,_=>false)
  |_=>false)
 |_=>false
noncomputable def mY(K:i9):aa (iS×iR×iR):=(namesOf K).filterMap λx=>if Wz K x then(W.tabIn K x).map λq=>(x,q.1,q.2)else none
def lG(c:iR)(q:iS):HO:=.ext λh=>h.CodeRec (.ref c) q
def md(K:i9)(H:Hp):Prop:=∀t∈mY K,∃a,H t.2.2=some (.ma a)/\TriplesOk a.toList/\∀b d,codeAmong b a.toList=some d->∃c,d=.ref c/\H c=some (lG c<|t.1++".<locals>.<lambda>")
def NT(o:HO):Prop:=∀a,o≠.ma a
def nc:NT (.lst l):=λ_ h=>nomatch h
def Ut:NT (.tup l):=λ_ h=>nomatch h
def Jc{o u}:NT (.kd o u):=λ_ h=>nomatch h
def zK:NT (.xd l):=λ_ h=>nomatch h
def zJ:NT (.ext r):=λ_ h=>nomatch h
structure kU(K:i9)(H H':Hp):Prop where
 at':∀b o,NT o->H b=some o->H' b=some o
 fr:∀b,H' b=none->H b=none
 tt:md K H->md K H'
def kU.refl{K}(H):kU K H H:=⟨λ_ _ _ h=>h,λ_ h=>h,λh=>h⟩
def kU.trans(a:kU K H H1)(b:kU K H1 H2):kU K H H2:=⟨λc o n h=>b.at' c o n<|a.at' c o n h,λc h=>a.fr c<|b.fr c h,λh=>b.tt<|a.tt h⟩
def kU.free(e:kU K H H')(h:H' l=Option.none):H l=Option.none:=e.fr l h
def md.off{g}(t:md K H)(i:∀a,H p≠some (.ma a))(j:∀q,H p≠some (lG p q))(e:∀b,b≠p->g b=H b):md K g:=λx h=>by obtain⟨a,d,l,k⟩:=t x h;refine⟨a,by rw[e _ λw=>i a (by rw[<-w];exact d)];exact d,l,λc o n=>?_⟩;obtain⟨r,m,f⟩:=k c o n;exact⟨r,m,by rw[e _ λw=>j _ (by rw[<-w];exact f)];exact f⟩
def zA{H:Hp}(h:H p=some (.lst l)):(∀a,H p≠some (.ma a))/\∀q,H p≠some (lG p q):=
 ⟨λa w=>(by rw[h]at w;exact nomatch w),λq w=>(by rw[h]at w;unfold lG at w;exact nomatch w)⟩
def md.upd{o}(t:md K H)(g:∀a,H p≠some (.ma a))(h:∀q,H p≠some (lG p q)):md K (upd H p o):=λx f=>by obtain⟨a,c,j,i⟩:=t x f;refine⟨a,by rw[jw λw=>g a (by rw[<-w];exact c)];exact c,j,λb l e=>?_⟩;obtain⟨m,k,d⟩:=i b l e;exact⟨m,k,by rw[jw λw=>h _ (by rw[<-w];exact d)];exact d⟩
mutual
inductive Rep(K:W.Frag)(al:Addr->Prop)(H:Hp):V->D->Prop
 |non:Rep K al H .non .non
 |bl (b:Bool):Rep K al H (.bl b) (.bl b)
 |int (i:Int):Rep K al H (.int i) (.int i)
 |str (x:Str):Rep K al H (.str x) (.str x)
 |ty (n:String):Rep K al H (.ty n) (.ty n)
 |ref (a:Addr):Rep K al H (.ref a) (.ref a)
 |tup {a:Addr} {vs:List V} {ds:List D}:(al a/\H a=some (.tup vs))\/KT K a vs->ja K al H vs ds->Rep K al H (.ref a) (.tup ds)
 |lst {a:Addr} {vs:List V} {ds:List D}:(al a/\Rd H a (.lst vs))\/KL K a vs->ja K al H vs ds->Rep K al H (.ref a) (.lst ds)
 |exc {a c dx:Addr} {ns:List Str} {vs:List V} {ds:List D}:al a->H a=some (yT a c<|some dx)->al dx->H dx=some (.xd<|ns.zip vs)->ja K al H vs ds->Rep K al H (.ref a) (.exc c ns ds)
 |GQ {a c:Addr}:al a->H a=some (yT a c none)->Rep K al H (.ref a) (.exc c [] [])
inductive ja(K:W.Frag)(al:Addr->Prop)(H:Hp):List V->List D->Prop
 |nil:ja K al H [] []
 |cons {v:V} {d:D} {vs:List V} {ds:List D}:Rep K al H v d->ja K al H vs ds->ja K al H (v::vs) (d::ds)
end
abbrev _root_.ko:=iR->Prop
def Xt(c:ko)(H:Hp)(b:ko)(d:Hp):Prop:=∀a o,NT o->c a->H a=some o->b a/\d a=some o
def Xt.refl{a}:Xt a H a H:=λ_ _ _ h e=>⟨h,e⟩
def Xt.trans(x:Xt al H qE H1)(y:Xt qE H1 yF H2):Xt al H yF H2:=λa o n h e=>y a o n (x a o n h e).1 (x a o n h e).2
def Xt.of(s:kU K H H'):Xt al H al H':=λa o n h e=>⟨h,s.at' a o n e⟩
def Xt.sub{c b}(s:∀a,c a->b a):Xt c H b H:=λa o _ h e=>⟨s a h,e⟩
def Yf{u}(h:Xt al H kh H')(n:NT u)(z:al a/\Rd H a u):kh a/\Rd H' a u:=by
 obtain⟨b,z2|⟨o,z2⟩⟩:=z;.exact⟨(h a _ n b z2).1,.inl (h a _ n b z2).2⟩
 .exact⟨(h a _ Jc b z2).1,.inr ⟨o,(h a _ Jc b z2).2⟩⟩
def Rep.mv(h:Xt al H kh H'){v d}(r:Rep K al H v d):Rep K kh H' v d:=
 Rep.rec (motive_1:=λv d _=>Rep K kh H' v d) (motive_2:=λv d _=>ja K kh H' v d) .non .bl .int .str .ty .ref (λp _ q=>.tup (p.elim (λz=>.inl<|h _ _ Ut z.1 z.2) .inr) q) (λp _ q=>.lst (p.elim (λz=>.inl<|Yf h nc z) .inr) q)
  (λb a e c _ q=>.exc (h _ _ zJ b a).1 (h _ _ zJ b a).2 (h _ _ zK e c).1 (h _ _ zK e c).2 q) (λb a=>.GQ (h _ _ zJ b a).1 (h _ _ zJ b a).2) .nil (λ_ _ p q=>.cons p q) r
def ja.mv(h:Xt al H kh H'){v d}(r:ja K al H v d):ja K kh H' v d:=by
 induction d generalizing v with
 |nil=>cases r;exact .nil
 |cons d _ a=>
  cases r with
  |cons p q=>exact .cons (p.mv h) (a q)
section
abbrev _root_.jD:=aa D
variable{K:i9}{l F:ko}{H m:Hp}{v:V}{d:D}{c B:aa V}{j C:jD}
def Rep.up(r:Rep K l H v d)(s:kU K H m):Rep K l m v d:=r.mv (.of s)
def ja.up(r:ja K l H c j)(s:kU K H m):ja K l m c j:=r.mv (.of s)
def ja.length(r:ja K l H c j):c.length=j.length:=by
 induction j generalizing c with
 |nil=>cases r;rfl
 |cons d j e=>cases r with|cons a b=>rw[au,au,e b]
def ja.append(r:ja K l H c j)(q:ja K l H B C):ja K l H (c++B) (j++C):=by
 induction j generalizing c with
 |nil=>cases r;exact q
 |cons d j e=>cases r with|cons a b=>exact .cons a (e b)
def ja.get(r:ja K l H c j){i:Nat}{x}(e:c[i]?=some x):∃y,j[i]?=some y/\Rep K l H x y:=by
 induction j generalizing c i with
 |nil=>cases r;simp at e
 |cons d j f=>
  cases r with
  |cons a b=>
   cases i with
   |zero=>simp at e;subst e;exact⟨_,rfl,a⟩
   |succ i=>simpa using f b (by simpa using e)
def ja.getD(r:ja K l H c j){i:Nat}(e:j[i]?=some y):∃x,c[i]?=some x/\Rep K l H x y:=by
 have f:=r.length;have a:i<c.length:=by rw[f];exact(az.mp e).1
 obtain⟨z,b,q⟩:=r.get (ax a);rw[e]at b;cases b;exact⟨_,ax a,q⟩
def ja.drop(r:ja K l H c j)(n):ja K l H (c.drop n) (j.drop n):=by
 induction n generalizing c j with
 |zero=>exact r
 |succ n e=>
  cases r with
  |nil=>exact .nil
  |cons a b=>exact e b
def ja.take(r:ja K l H c j)(n):ja K l H (c.take n) (j.take n):=by
 induction n generalizing c j with
 |zero=>exact .nil
 |succ n e=>
  cases r with
  |nil=>exact .nil
  |cons a b=>exact .cons a (e b)
def Rep.o4(r:Rep K l H v<|.tup j):∃a c,v=.ref a/\mJ K H a c/\ja K l H c j:=by
 cases r with
 |tup p q=>exact⟨_,_,rfl,p.elim (λz=>.inl<|.inl z.2) .inr,q⟩
def Rep.oU(r:Rep K l H v<|.lst j):∃a c,v=.ref a/\lH K H a c/\ja K l H c j:=by
 cases r with
 |lst p q=>exact⟨_,_,rfl,p.elim (λz=>.inl z.2) KL.sq,q⟩
def Rep.zz(r:Rep K l H v<|.lst j):∃a c,v=.ref a/\(Rd H a (.lst c)\/KL K a c)/\ja K l H c j:=by
 cases r with
 |lst p q=>exact⟨_,_,rfl,p.imp (λz=>z.2) id,q⟩
def lV{o}(h:H p=none):kU K H (upd H p o):=⟨λb u _ q=>by rw[jw (nQ q h)];exact q,λb q=>by
    by_cases z:b=p;· rw[z];exact h
    · rw[jw z]at q;exact q,λt=>t.upd (λa w=>by rw[h]at w;cases w) λq w=>by rw[h]at w;cases w⟩
def ja.Em(r:ja K l H c j)(h:H p=none)(a:l p):Rep K l (upd H p<|.tup c) (.ref p) (.tup j):=.tup (.inl ⟨a,j7⟩) (r.up<|lV h)
def ja.rK(r:ja K l H c j)(h:H p=none)(a:l p):Rep K l (upd H p<|.lst c) (.ref p) (.lst j):=.lst (.inl ⟨a,.inl j7⟩) (r.up<|lV h)
end
inductive Sl where
 |no|sh(d:D)|ow(ds:List D)
abbrev kN(x:Int):Sl:=.sh (.int x)
abbrev kg(x:jD):Sl:=.sh (.lst x)
abbrev oI(x:iS):Sl:=.sh (.str x)
abbrev Ev:=aa Sl
abbrev jx:=Ev->R D
structure RS(K:i9)(P:ko)(H0:Hp)(al:ko)(H:Hp)(s:St)(r:Ev):Prop where
 same:kU K H0 H
 tt:md K H
 fresh:∀a,H a=none->al a
 sub:∀a,al a->P a
 pf:∀a,H0 a=none->P a
 len:r.length=s.length
 sh:∀(i:Nat) (d:D),r[i]?=some (.sh d)->∃v,s[i]?=some (some v)/\Rep K al H v d
 ow:∀(i:Nat) (ds:jD),r[i]?=some (.ow ds)->∃a vs,s[i]?=some (some<|.ref a)/\H a=some (.lst vs)/\ja K al H vs ds/\¬al a/\H0 a=none
 apart:∀(i j:Nat) (ds N8:jD) (a:iR),r[i]?=some (.ow ds)->r[j]?=some (.ow N8)->s[i]?=some (some<|.ref a)->s[j]?=some (some<|.ref a)->i=j
section
variable{K:i9}{P l:ko}{p H x:Hp}{m:St}{c:Ev}
def RS.grow(r:RS K P p l H m c)(s:kU K H x):RS K P p l x m c where
 same:=r.same.trans s
 tt:=s.tt r.tt
 fresh:=λa h=>r.fresh a (s.free h)
 sub:=r.sub
 pf:=r.pf
 len:=r.len
 sh:=λi d e=>let⟨v,a,b⟩:=r.sh i d e;⟨v,a,b.up s⟩
 ow:=λi o e=>let⟨a,f,n,k,j,g⟩:=r.ow i o e;⟨a,f,n,s.at' _ _ nc k,j.up s,g⟩
 apart:=r.apart
def RS.set(r:RS K P p l H m c){v}{d:D}(n:i<c.length)(q:Rep K l H v d):RS K P p l H (m.set i<|some v) (c.set i<|.sh d) where
 same:=r.same
 tt:=r.tt
 fresh:=r.fresh
 sub:=r.sub
 pf:=r.pf
 len:=by rw[aN,aN];exact r.len
 sh:=λj e h=>by
  by_cases z:i=j
  .subst z;rw[aB n]at h;cases h;exact⟨v,aB<|by rw[<-r.len];exact n,q⟩
  .rw[ao z]at h;obtain⟨w,a,b⟩:=r.sh j e h;exact⟨w,by rw[ao z];exact a,b⟩
 ow:=λj s h=>by
  by_cases z:i=j
  .subst z;rw[aB n]at h;cases h
  .rw[ao z]at h;obtain⟨a,A,g,f⟩:=r.ow j s h;exact⟨a,A,by rw[ao z];exact g,f⟩
 apart:=λj k s o a g f u t=>by
  by_cases z:i=j;.subst z;rw[aB n]at g;cases g
  .by_cases y:i=k;.subst y;rw[aB n]at f;cases f
   .rw[ao z]at g u;rw[ao y]at f t;exact r.apart j k s o a g f u t
end
def XR(K:i9)(e:ko)(H:Hp)(f:mf)(b:jy)(c:jD):Prop:=
 match f with
 |none=>b=[]/\c=[]
 |some d=>e d/\∃a,H d=some (.xd<|b.zip a)/\ja K e H a c
def XR.mv(h:Xt al H kh H')(r:XR K al H dx ns ds):XR K kh H' dx ns ds:=by
 cases dx with
 |none=>exact r
 |some d=>obtain⟨a,b,e,q⟩:=r;exact⟨(h _ _ zK a e).1,b,(h _ _ zK a e).2,q.mv h⟩
def Aft{d:Type}(K:i9)(f:ko)(E:XK)(H:Hp)(r:R d)(k:d->Hp->Prop):Prop:=
 match r with
 |.ok a=>∀b,kU K H b->k a b
 |.ex c ns ds=>∀e b,kU K H b->XR K f b e ns ds->E (.ref c) e b
 |.bad=>False
section
variable{e j:Type}{K:i9}{b:ko}{E:XK}{H i:Hp}{r:R e}{k h:e->Hp->Prop}
def Aft.up(a:Aft K b E H r k)(s:kU K H i):Aft K b E i r k:=by
 cases r with
 |ok x=>exact λf d=>a f (s.trans d)
 |ex c l m=>exact λg f d=>a g f (s.trans d)
 |bad=>exact a
def Aft.mono(a:Aft K b E H r k)(m:∀{x c},kU K H c->k x c->h x c):Aft K b E H r h:=by
 cases r with
 |ok x=>exact λc d=>m d (a c d)
 |_=>exact a
def Aft.split{g:e->R j}{k}(a:Aft K b E H (r.bind g) k):Aft K b E H r (λx c=>Aft K b E c (g x) k):=by
 cases r with
 |ok x=>exact λc d=>Aft.up a d
 |_=>exact a
end
structure DE(X:Cx)(E:XK)(e:jf)(f:jx):Prop where
 w_::
 o_:∃t:TE,PE X e t/\
 ∀{P H0 al H s r} {Q:VK},RS X.K P H0 al H s r->Aft X.K al E H (f r) (λd H'=>∀v,Rep X.K al H' v d->Q v H')->t s H Q
abbrev _root_.lI:=Ev->R i6
structure DT(X:Cx)(E:XK)(e:jf)(f:lI):Prop where
 w_::
 o_:∃t:TT,PT X e t/\
 ∀{P H0 al H s r} {Q:rm},RS X.K P H0 al H s r->Aft X.K al E H (f r) Q->t s H Q
structure DW(X:Cx)(E:XK)(e:jf)(f:lI):Prop where
 w_::
 o_:∃t:TT,PW X e t/\
 ∀{P H0 al H s r} {Q:rm},RS X.K P H0 al H s r->Aft X.K al E H (f r) Q->t s H Q
abbrev _root_.l0:=Ev->R (aa D)
structure DA(X:Cx)(E:XK)(es:kK)(f:l0):Prop where
 w_::
 o_:∃t:TA,PA X es t/\
 (∀{P H0 al H s r} {Q:aa V->Hp->Prop},RS X.K P H0 al H s r->Aft X.K al E H (f r) (λds H'=>∀vs,ja X.K al H' vs ds->Q vs H')->t s H Q)/\∀r ds,f r=.ok ds->ds.length=es.length
structure DN(X:Cx)(E:XK)(e:jf)(f:l0):Prop where
 w_::
 o_:∃t:TE,PE X e t/\
 ∀{P H0 al H s r} {Q:VK},RS X.K P H0 al H s r->Aft X.K al E H (f r) (λds H'=>∀p vs,H' p=none->ja X.K al H' vs ds->Q (.ref p) (upd H' p<|.lst vs))->t s H Q
abbrev _root_.qD:=D->D->R D
structure lh(X:Cx)(E:XK)(op:iT->iT->Sem iT)(g:qD):Prop where
 w_::
 o_:∃r:R2,kI X op r/\
 ∀{al H x y dx dy} {Q:VK},(∀a,H a=none->al a)->Rep X.K al H x dx->Rep X.K al H y dy->Aft X.K al E H (g dx dy) (λd H'=>∀v,Rep X.K al H' v d->Q v H')->r x y H Q
structure AM(X:Cx)(E:XK)(g:qD):Prop where
 w_::
 o_:∃r:R2,qz X r/\
 ∀{al H x y dx dy} {Q:VK},(∀a,H a=none->al a)->Rep X.K al H x dx->Rep X.K al H y dy->Aft X.K al E H (g dx dy) (λd H'=>∀v,Rep X.K al H' v d->Q v H')->r x y H Q
structure Fm(X:Cx)(E:XK)(op:iT->Sem iT)(g:D->R D):Prop where
 w_::
 o_:∃r:V->Hp->VK->Prop,yB X op r/\
 ∀{al H x dx} {Q:VK},(∀a,H a=none->al a)->Rep X.K al H x dx->Aft X.K al E H (g dx) (λd H'=>∀v,Rep X.K al H' v d->Q v H')->r x H Q
structure tq(X:Cx)(E:XK)(f:iT)(g:jg):Prop where
 w_::
 o_:∃r:aa V->Hp->VK->Prop,ny X f r/\
 ∀{al H xs ds} {Q:VK},(∀a,H a=none->al a)->ja X.K al H xs ds->Aft X.K al E H (g ds) (λd H'=>∀v,Rep X.K al H' v d->Q v H')->r xs H Q
noncomputable def dV(i:Nat):jx:=λa=>match a[i]? with
 |some (.sh d)=>.ok d
 |_=>.bad
noncomputable def dC(d:D):jx:=λ_=>.ok d
def d1(g:D->R D)(a:jx):jx:=λb=>(a b).bind g
def d2(g:qD)(a b:jx):jx:=λc=>(a c).bind λx=>(b c).bind λy=>g x y
abbrev iP(i:Int):jx:=dC (.int i)
abbrev i8(x:iS):jx:=dC (.str x)
def tB(d:D):R i6:=match d with
 |.bl b=>.ok b
 |_=>.bad
noncomputable def tT(d:D):R i6:=match d with
 |.non=>.ok false
 |.bl b=>.ok b
 |.int i=>.ok (i !=0)
 |.str y=>if y.length<=sizeLine then .ok ((y.length:Int)!=0)else .bad
 |.lst ds=>.ok (!ds.isEmpty)
 |.tup ds=>.ok (!ds.isEmpty)
 |_=>.bad
def b1(t:D->R i6)(a:jx):Ev->R i6:=λb=>(a b).bind t
def sL(a b:lI):Ev->R i6:=λd=>(a d).bind λc=>if c=true then b d else .ok false
def nX(a b:lI):Ev->R i6:=λd=>(a d).bind λc=>if c=true then .ok true else b d
def qI(a:lI):Ev->R i6:=λb=>(a b).bind λc=>.ok (!c)
def vj(a b:jx):jx:=λd=>((a d).bind tB).bind λc=>if c=true then b d else .ok (.bl false)
def BH(a:jx):jx:=λb=>((a b).bind tB).bind λc=>.ok (.bl<|!c)
def sN(c:lI)(a b:jx):jx:=λd=>(c d).bind λk=>if k=true then a d else b d
noncomputable def iQ:Ev->R (aa D):=λ_=>.ok []
def iK(a:jx)(r:l0):Ev->R (aa D):=λb=>(a b).bind λx=>(r b).bind λc=>.ok (x::c)
def dA(g:jg)(a:l0):jx:=λb=>(a b).bind g
def jj(a:jD):R D:=if a.length<=sizeLine then .ok (.tup a)else .bad
def ju(a:jD):R (aa D):=if a.length<=sizeLine then .ok a else .bad
def jt(g:l0):jx:=λa=>(g a).bind λb=>.ok (.lst b)
section
variable{X:Cx}{E:XK}{e a b c:jf}{f m I:jx}{l:Pos}
def tY(i){x}(hN:autoParam (X.N[i]?=some x) aZ0)(hv:autoParam (pT X.env.scope x) aZ4)(k:autoParam (lL x) aZ1)
 (g:autoParam ((x==("__classdict__":iS))=false) aZ1):DE X E (.Name x l) (dV i):=by
  refine⟨_,ux hN hv k g,λ{_ _ _ H _ j _} r h=>?_⟩;unfold dV at h;cases q:j[i]? with
  |none=>rw[q]at h;exact h.elim
  |some s=>
   cases s with
   |sh d=>rw[q]at h;obtain⟨v,o,n⟩:=r.sh i d q;exact⟨v,o,h H (.refl H) v n⟩
   |_=>rw[q]at h;exact h.elim
def wQ{i j}:DE X E (.Constant (.int i) j l) (iP i):=⟨_,Jx,λ_ h=>h _ (.refl _) _<|.int i⟩
def Nz{i j}:DE X E (.Constant (.bool i) j l) (dC<|.bl i):=⟨_,VX,λ_ h=>h _ (.refl _) _<|.bl i⟩
def NG{j}:DE X E (.Constant .none j l) (dC .non):=⟨_,Dz,λ_ h=>h _ (.refl _) _ .non⟩
def NM{i j}:DE X E (.Constant (.str i) j l) (i8 i):=⟨_,Wg,λ_ h=>h _ (.refl _) _<|.str i⟩
def NO{x}{n}(i:Gl X x)(g:X.mg x=none)(hv:bootBuiltins x=some (.type n))(d:autoParam (x≠"__name__") aZ1)(j:autoParam (lL x) aZ1):DE X E (.Name x l) (dC<|.ty n):=
 ⟨_,VY (v:=.ty n) i g hv rfl d j,λ_ h=>h _ (.refl _) _<|.ty n⟩
def NJ{j:Operator}{g}(y:lh X E (binaryOp j) g)(A:DE X E a m)(z:DE X E b I):DE X E (.BinOp a j b l) (d2 g m I):=by obtain⟨r,p,o⟩:=y;obtain⟨F,x,t⟩:=A;obtain⟨D,w,q⟩:=z;refine⟨_,JA p x w,λs h=>t s<|Aft.mono (Aft.split h) λi C v k=>q (s.grow i)<|Aft.mono (Aft.split C) λd B u n=>?_⟩;exact o ((s.grow i).grow d).fresh (k.up d) n B
def NP{g:D->R D}(p:Fm X E (unaryOp op) g)(q:DE X E a m):DE X E (.UnaryOp op a l) (d1 g m):=by obtain⟨r,k,j⟩:=p;obtain⟨u,o,n⟩:=q;exact⟨_,Wi k o,λs h=>n s<|Aft.mono (Aft.split h) λd t v i=>j (s.grow d).fresh i t⟩
def ND{d:CmpOp}{g}(y:lh X E (compareOp d) g)(B:DE X E a m)(A:DE X E b I)(z:autoParam (behindInMarks d b=false) aZ6):DE X E (.Compare a [d] [b] l) (d2 g m I):=by obtain⟨r,p,o⟩:=y;obtain⟨G,x,t⟩:=B;obtain⟨F,w,q⟩:=A;refine⟨_,Jv p x w z,λs h=>t s<|Aft.mono (Aft.split h) λj D v k=>q (s.grow j)<|Aft.mono (Aft.split D) λi C u n=>?_⟩;exact o ((s.grow j).grow i).fresh (k.up i) n C
def vQ{d k}(r:Rep K al H v d)(h:Aft K al E H (tB d) k):∃c,v=.bl c/\k c H:=by
 cases r with
 |bl b=>exact⟨b,rfl,h H<|.refl H⟩
 |_=>exact(h:False).elim
def Oo{j:CmpOp}{g}(F:lh X E (compareOp j) g)(J:DE X E a m)(H:DE X E b I)(G:autoParam (behindInMarks j b=false) aZ6):DT X E (.Compare a [j] [b] l) (b1 tB<|d2 g m I):=by
 obtain⟨r,z,t⟩:=F;obtain⟨R,D,B⟩:=J;obtain⟨P,C,A⟩:=H;refine⟨_,z5 z D C G,λ{_ _ N _ _ _ Q} s h=>B s<|Aft.mono (Aft.split<|Aft.split h) λ{x _} o M v p=>?_⟩;refine A (s.grow o) (Aft.mono (Aft.split (g:=λy=>g x y) (k:=λd O=>Aft X.K N E O (tB d) Q) ?_) λn L u q=>?_);.exact M
 .exact t ((s.grow o).grow n).fresh (p.up n) q (Aft.mono L λS K w i=>vQ i K)
def xD{d k}(r:Rep K al H v d)(h:Aft K al E H (tT d) k):∃c,wx K v H c/\k c H:=by
 cases r with
 |non=>exact⟨_,rfl,h H<|.refl H⟩
 |bl b=>exact⟨_,rfl,h H<|.refl H⟩
 |int b=>exact⟨_,rfl,h H<|.refl H⟩
 |str b=>
  unfold tT at h;by_cases z:b.length<=sizeLine
  .simp only[z,df]at h;exact⟨_,⟨z,rfl⟩,h H<|.refl H⟩
  .simp only[z,cj]at h;exact h.elim
 |tup p q=>refine⟨_,.inr<|.inl ⟨_,p.elim (λz=>.inl<|.inl z.2) .inr,?_⟩,h H<|.refl H⟩;cases q<;>rfl
 |lst p q=>refine⟨_,.inl ⟨_,p.elim (λz=>.inl z.2) KL.sq,?_⟩,h H<|.refl H⟩;cases q<;>rfl
 |_=>exact(h:False).elim
def Ov(n:DE X E e m)(k:autoParam (∀d,isTrue e X.env d=(do let v<-d;standAt e.pos;holding [v] (truthy v))) aZ2):DT X E e (b1 tT m):=by obtain⟨p,j,i⟩:=n;exact⟨_,J1 j k,λs h=>i s<|Aft.mono (Aft.split h) λq o v g=>xD g o⟩
variable{C J:lI}{rest:kK}
def DW.dt(h:DW X E e C):DT X E e C:=let⟨t,p,r⟩:=h;⟨t,p.pt,r⟩
def Oz(h:DT X E a C):DW X E (.BoolOp .And [a] l) C:=let⟨t,p,r⟩:=h;⟨t,J4 p,r⟩
def OB(h:DT X E a C):DW X E (.BoolOp .Or [a] l) C:=let⟨t,p,r⟩:=h;⟨t,WS p,r⟩
def Oy(q:DT X E a C)(p:DW X E (.BoolOp .And (b::rest) l) J):DW X E (.BoolOp .And (a::b::rest) l) (sL C J):=by
 obtain⟨t,o,k⟩:=q;obtain⟨r,n,j⟩:=p;refine⟨_,J3 o n,λs h=>k s<|Aft.mono (Aft.split h) λ{c g} i d=>?_⟩;cases c with
 |true=>exact vB (j (s.grow i) d)
 |false=>exact ug (d g<|.refl g)
def OA(q:DT X E a C)(p:DW X E (.BoolOp .Or (b::rest) l) J):DW X E (.BoolOp .Or (a::b::rest) l) (nX C J):=by
 obtain⟨t,o,k⟩:=q;obtain⟨r,n,j⟩:=p;refine⟨_,WR o n,λs h=>k s<|Aft.mono (Aft.split h) λ{c g} i d=>?_⟩;cases c with
 |true=>exact vB (d g<|.refl g)
 |false=>exact ug (j (s.grow i) d)
def Ou(j:DT X E a C):DT X E (.UnaryOp .Not a l) (qI C):=by obtain⟨n,i,g⟩:=j;exact⟨_,JZ i,λs h=>g s<|Aft.mono (Aft.split h) λ{_ d} o k=>k d<|.refl d⟩
def NI(h:DE X E a m):DE X E (.BoolOp op [a] l) m:=let⟨t,p,r⟩:=h;⟨t,Wc p,r⟩
def Ny(r:DE X E a m)(q:DE X E (.BoolOp .And (b::rest) l) I):DE X E (.BoolOp .And (a::b::rest) l) (vj m I):=by
 obtain⟨w,p,n⟩:=r;obtain⟨u,o,k⟩:=q;refine⟨_,VV p o,λs h=>n s<|Aft.mono (Aft.split<|Aft.split h) λ{_ g} i t v j=>?_⟩;obtain⟨c,e,d⟩:=vQ j t;refine⟨c,e,?_⟩;cases c with
 |true=>exact vB (k (s.grow i) d)
 |false=>exact ug (d g (.refl g) _<|.bl false)
def NH(k:DE X E a m):DE X E (.UnaryOp .Not a l) (BH m):=by obtain⟨p,j,i⟩:=k;refine⟨_,Jz j,λs h=>i s<|Aft.mono (Aft.split<|Aft.split h) λ{_ d} q o v g=>?_⟩;obtain⟨c,e,n⟩:=vQ g o;exact⟨c,e,n d (.refl d) _<|.bl _⟩
def NF(q:DT X E c C)(t:DE X E a m)(r:DE X E b I):DE X E (.IfExp c a b l) (sN C m I):=by
 obtain⟨u,n,i⟩:=q;obtain⟨w,p,k⟩:=t;obtain⟨v,o,j⟩:=r;refine⟨_,V9 n p o,λs h=>i s<|Aft.mono (Aft.split h) λ{c _} d g=>?_⟩;cases c with
 |true=>exact vB (k (s.grow d) g)
 |false=>exact ug (j (s.grow d) g)
variable{B:kK}{fs:l0}
def Nx:DA X E [] iQ:=⟨_,rP,λ_ h=>h _ (.refl _) _ .nil,λ_ _ h=>by cases h;rfl⟩
def Nw(G:DE X E e m)(F:DA X E B fs)(A:autoParam (X.se e B) aZ0):DA X E (e::B) (iK m fs):=by
 obtain⟨L,w,r⟩:=G;obtain⟨K,t,q,z⟩:=F;refine⟨_,rO w t A,λ{_ _ _ _ _ i _} s h=>r s<|Aft.mono (Aft.split h) λ{x _} n g v o=>q (s.grow n)<|Aft.mono (Aft.split g) λ{y j} k d u p=>?_,λi M h=>?_⟩;.exact d j (.refl j) _ (.cons (o.up k) p)
 .obtain⟨x,_,g⟩:=FO h;obtain⟨y,d,H⟩:=FO g;cases H;rw[au,au,z i y d]
def NN{j}(q:DA X E B fs):DE X E (.Tuple B j l) (dA jj fs):=by
 obtain⟨r,o,n,_⟩:=q;refine⟨_,DB o,λs h=>n s<|Aft.mono (Aft.split h) λ{x _} k d v i=>?_⟩;unfold jj at d;by_cases z:x.length<=sizeLine
 .rw[aq z]at d;exact⟨by rw[i.length];exact z,λp g=>d _ (lV g) _<|i.Em g<|(s.grow k).fresh p g⟩
 .rw[aA z]at d;exact d.elim
def N1(q:DA X E B fs):DN X E (.List B l) (λj=>(fs j).bind ju):=by
 obtain⟨r,n,k,_⟩:=q;refine⟨_,Jy n,λs h=>k s<|Aft.mono (Aft.split h) λ{x i} t d v g=>?_⟩;unfold ju at d;by_cases z:x.length<=sizeLine
 .rw[aq z]at d;exact⟨by rw[g.length];exact z,λp o=>d i (.refl i) p v o g⟩
 .rw[aA z]at d;exact d.elim
def DN.de{g}(h:DN X E e g):DE X E e (jt g):=by obtain⟨t,p,r⟩:=h;exact⟨t,p,λs h=>r s<|Aft.mono (Aft.split h) λi k p n d j=>k _ (lV d) _<|j.rK d<|(s.grow i).fresh p d⟩
def Gh{g}(y:AM X E g)(A:DE X E a m)(z:DE X E b I)(x:autoParam (ym b) aZ7):DE X E (.Subscript a b l) (d2 g m I):=by obtain⟨r,o,n⟩:=y;obtain⟨K,w,q⟩:=A;obtain⟨H,t,p⟩:=z;refine⟨_,Dy o w t x,λs h=>q s<|Aft.mono (Aft.split h) λi G v j=>p (s.grow i)<|Aft.mono (Aft.split G) λd F u k=>?_⟩;exact n ((s.grow i).grow d).fresh (j.up d) k F
variable{x:iS}{p:Pos}
def NB{j:String}{g}(F:tq X E (.builtin j) g)(z:Gl X x)(y:X.mg x=none)(hv:bootBuiltins x=some (.builtin j))(G:DA X E (e::B) fs)(w:autoParam (x≠"__name__") aZ1)(i:autoParam (lL x) aZ1)
 (A:autoParam (X.se e B) aZ0)(d:autoParam (X.bk l B) aZ0):DE X E (.Call (.Name x p) (e::B) [] l) (dA g fs):=by obtain⟨r,q,o⟩:=F;obtain⟨K,u,t,_⟩:=G;exact⟨_,V1 q z y hv u w i A d,λs h=>t s<|Aft.mono (Aft.split h) λk H v n=>o (s.grow k).fresh n H⟩
def NC{g}(A:tq X E (.type T) g)(y:Gl X x)(w:X.mg x=none)(hv:bootBuiltins x=some (.type T))(F:DA X E (e::B) fs)(u:autoParam (x≠"__name__") aZ1)(i:autoParam (lL x) aZ1)
 (z:autoParam (X.se e B) aZ0)(d:autoParam (X.bk l B) aZ0):DE X E (.Call (.Name x p) (e::B) [] l) (dA g fs):=by obtain⟨r,o,n⟩:=A;obtain⟨H,t,q,_⟩:=F;exact⟨_,Dv o y w hv t u i z d,λs h=>q s<|Aft.mono (Aft.split h) λj G v k=>n (s.grow j).fresh k G⟩
def rS(n:Nat)(K:i9)(F:jg):Sp:=λh H Q E=>h.length=n/\md K H/\∃g i,(∀a,H a=none->g a)/\ja K g H h i/\Aft K g E H (F i) (λd j=>∀v,Rep K g j v d->Q v j)
variable{k n:Nat}{L:jy}{F:jg}
def NA(G:q7 X.prog X.w X.K X.mg X.base (j8 X.prog X.w) k x L<|rS n X.K F)(y:kz k X.A)(A:Gl X x)(w:Passes (j8 X.prog X.w) X E)(z:(e::B).length=n)(K:DA X E (e::B) fs)(i:autoParam (lL x) aZ1)
 (H:autoParam (X.se e B) aZ0)(g:autoParam (X.bk l B) aZ0):DE X E (.Call (.Name x p) (e::B) [] l) (dA F fs):=by
  obtain⟨O,u,t,v⟩:=K;refine⟨_,Dx G y A w u i H g,λ{_ _ M _ _ o _} s h=>t s ?_⟩;unfold dA at h;cases q:fs o with
  |ok j=>rw[q]at h;intro Q d N r;rw[aU];exact⟨by rw[r.length,v o j q];exact z,(s.grow d).tt,M,j,(s.grow d).fresh,r,Aft.up h d⟩
  |ex c P j=>rw[q]at h;exact h
  |bad=>rw[q]at h;exact h.elim
end
inductive RT where
 |nx(r:Ev)|rt(d:D)|bk(r:Ev)|ct(r:Ev)|ex(c:Addr)(ns:List Str)(ds:List D)|bad
abbrev jI:=Ev->RT
noncomputable def toS{b:Type}(r:R b)(k:b->RT):RT:=match r with
 |.ok a=>k a
 |.ex c ns ds=>.ex c ns ds
 |.bad=>.bad
def oa(r:RT)(k:jI):RT:=match r with
 |.nx a=>k a
 |r=>r
def k6(K:i9)(P:ko)(g:Hp)(E:XK)(D:Ends)(h:ko)(H:Hp):RT->Prop
 |.nx f=>∀e a b,Xt h H e a->RS K P g e a b f->D.nx b a
 |.bk f=>∀e a b,Xt h H e a->RS K P g e a b f->D.bk b a
 |.ct f=>∀e a b,Xt h H e a->RS K P g e a b f->D.ct b a
 |.rt d=>∀v a,kU K g a->Rep K P a v d->D.rt v a
 |.ex c ns ds=>∀i a,kU K g a->XR K P a i ns ds->E (.ref c) i a
 |.bad=>False
section
variable{K:i9}{P b e:ko}{i H j:Hp}{E:XK}{D:Ends}{s:RT}{l:St}{m:Ev}
def k6.ext(h:k6 K P i E D b H s)(x:Xt b H e j):k6 K P i E D e j s:=by
 cases s with
 |rt d=>exact h
 |ex c k n=>exact h
 |bad=>exact h
 |_=>exact λa g f y r=>h a g f (x.trans y) r
def k6.sU{f}{r:R f}{k}(h:k6 K P i E D b H<|toS r k)(s:RS K P i b H l m):Aft K b E H r (λx a=>k6 K P i E D b a<|k x):=by
 cases r with
 |ok x=>exact λa d=>k6.ext h (.of d)
 |ex c n o=>exact λg a d q=>h g a (s.same.trans d) (q.mv<|.sub s.sub)
 |bad=>exact h
end
structure DS(X:Cx)(E:XK)(st:Stmt)(g:jI):Prop where
 w_::
 o_:∃t:TS,PS X st t/\
 ∀{P H0 al H s r} {D:Ends},RS X.K P H0 al H s r->k6 X.K P H0 E D al H (g r)->t D s H
structure oO(X:Cx)(E:XK)(st:aa Stmt)(g:jI):Prop where
 w_::
 o_:∃t:TS,ph X st t/\
 ∀{P H0 al H s r} {D:Ends},RS X.K P H0 al H s r->k6 X.K P H0 E D al H (g r)->t D s H
def n9:jI:=.nx
def jW(a b:jI):jI:=λc=>oa (a c) b
def ku(f:jx):jI:=λa=>toS (f a) .rt
def lF(i:Nat)(f:jx):jI:=λa=>toS (f a) λd=>if i<a.length then .nx (a.set i<|.sh d)else .bad
def n8(c:lI)(a b:jI):jI:=λd=>toS (c d) λk=>if k=true then a d else b d
section
variable{X:Cx}{E:XK}{y:Stmt}{rest C B:aa Stmt}{g u F j:jI}{e c:jf}{f:jx}{l:lI}{a:Pos}
def Oj:oO X E [] n9:=⟨_,JX,λ{_ _ d H b _ _} s h=>h d H b .refl s⟩
def Ol(h:DS X E y g):oO X E [y] g:=let⟨t,p,r⟩:=h;⟨t,JY p,r⟩
def Oh(t:DS X E y g)(r:oO X E rest u):oO X E (y::rest) (jW g u):=by
 obtain⟨A,p,n⟩:=t;obtain⟨z,o,m⟩:=r;refine⟨_,JW p o,λ{P I G H w i D} s h=>n s ?_⟩;unfold jW at h;cases q:g i with
 |nx d=>rw[q]at h;exact λv J b x k=>m k (k6.ext h x)
 |_=>rw[q]at h;exact h
def Od(i:DE X E e f):DS X E (.Return (some e) a) (ku f):=by obtain⟨t,p,r⟩:=i;exact⟨_,JU p,λs h=>r s<|Aft.mono (k6.sU h s) λ{_ m} b k v d=>k v m (s.same.trans b)<|d.mv<|.sub s.sub⟩
def Oe(i)(hN:X.N.Nodup)(q:X.N[i]?=some x)(n:Loc X.env.scope x)(w:DE X E e f)(o:autoParam (swapsWith e (some<|.Name x pos') a.line X.env=pure false) aZ0)(hf:autoParam (X.hf x) aZ5):
    DS X E (.Assign [.Name x pos'] e a) (lF i f):=by
 obtain⟨t,p,r⟩:=w;refine⟨_,DL hN q n p o hf,λ{_ _ A _ _ d _} s h=>r s<|Aft.mono (k6.sU h s) λ{_ D} k b v m=>?_⟩;by_cases z:i<d.length
 .simp only[z,df]at b;exact b A D _ .refl ((s.grow k).set z m)
 .simp only[z,cj]at b;exact b.elim
def Oa(r:DT X E c l)(v:oO X E C F)(t:oO X E B j):DS X E (.If c C B a) (n8 l F j):=by
 obtain⟨w,o,i⟩:=r;obtain⟨z,q,n⟩:=v;obtain⟨x,p,m⟩:=t;refine⟨_,JT o q p,λs h=>i s<|Aft.mono (k6.sU h s) λ{k _} b d=>?_⟩;cases k with
 |true=>exact vB (n (s.grow b) d)
 |false=>exact ug (m (s.grow b) d)
def turnT(r:RT)(k:jI):RT:=match r with
 |.nx b=>k b
 |.ct b=>k b
 |.bk b=>.nx b
 |r=>r
def pJ(c:lI)(b:jI):Nat->jI
 |0,_=>.bad
 |n+1,d=>toS (c d) λk=>if k=true then turnT (b d) (pJ c b n)else .nx d
def Ll{D k}(h:k6 K P H0 E D al H<|turnT r k)
 (hN:∀b i d m,Xt al H b i->RS K P H0 b i d m->k6 K P H0 E D b i (k m)->N d i):k6 K P H0 E {D with nx:=N,ct:=N,bk:=D.nx} al H r:=by
  cases r with
  |nx n=>exact λb i d x s=>hN b i d n x s (k6.ext h x)
  |ct n=>exact λb i d x s=>hN b i d n x s (k6.ext h x)
  |_=>exact h
def Of(n)(N:PassesOwn (model X.prog X.w) X.A X.env X.xe)(O:DT X E c l)(Q:oO X E B j):DS X E (.While c B [] a) (pJ l j n):=by
 obtain⟨V,L,J⟩:=O;obtain⟨W,M,K⟩:=Q;refine⟨_,WL N L M,λ{P q T _ _ H D} s h=>⟨λm i w=>∃b d,RS X.K P q b w i d/\k6 X.K P q E D b w (pJ l j m d),⟨n,T,H,s,h⟩,?_⟩⟩
 rintro m i w ⟨b,d,p,G⟩
 cases m with
 |zero=>exact G.elim
 |succ m=>
  refine J p (Aft.mono (k6.sU G p) λ{k U} x A=>?_);cases k with
  |true=>refine vB ⟨λo r=>∃b d,RS X.K P q b r o d/\k6 X.K P q E D b r (pJ l j m d),λo r z=>⟨m,bB m,z⟩,K (p.grow x)<|Ll (k:=pJ l j m) A λv r o t _ I S=>⟨v,t,I,S⟩⟩
  |false=>exact ug (A b U i .refl<|p.grow x)
end
def Wk(K:i9)(g:ko)(H:Hp)(J:It)(f:jD):Prop:=∀b c,Xt g H b c->(∀a,c a=none->b a)->
 (∀i d,f[i]?=some d->J.go i c/\∀x e,J.xN i c x e->e=c/\Rep K b c x d)/\∀i,f.length<=i->J.stop i c
structure DI(X:Cx)(E:XK)(tg iter:jf)(f:l0):Prop where
 w_::
 o_:∃wi:TI,PI X tg iter wi/\
 ∀{P H0 al H s r} {R:It->Hp->Prop},RS X.K P H0 al H s r->Aft X.K al E H (f r) (λds H'=>∀J,Wk X.K al H' J ds->R J H')->wi s H R
abbrev _root_.lC:=aa Nat
def Kp(l:lC)(b a:St):Prop:=a.length=b.length/\∀j,j∉l->a[j]?=b[j]?
abbrev _root_.qC:=D->Ev->i0 Ev
structure DG(X:Cx)(tg:jf)(l:lC)(a:qC):Prop where
 w_::
 o_:∃g:TG,PG X tg g/\
 ∀{P H0 al H s r v d} {Q:St->Hp->Prop},RS X.K P H0 al H s r->Rep X.K al H v d->(∃mx,a d r=some mx/\∀nU,Kp l s nU->RS X.K P H0 al H nU mx->Q nU H)->g v s H Q
abbrev _root_.Bi:=aa D->Ev->i0 Ev
structure xZ(X:Cx)(tg:kK)(l:lC)(a:Bi):Prop where
 w_::
 o_:∃g:tI,uR X tg g/\
 ∀{P H0 al H s r v d} {Q:St->Hp->Prop},RS X.K P H0 al H s r->ja X.K al H v d->(∃mx,a d r=some mx/\∀nU,Kp l s nU->RS X.K P H0 al H nU mx->Q nU H)->g v s H Q
def gV(i:Nat):D->Ev->i0 Ev:=λd a=>if i<a.length then some (a.set i<|.sh d)else none
def gN:aa D->Ev->i0 Ev:=λb a=>match b with
 |[]=>some a
 |_=>none
def gC(a:qC)(b:Bi):aa D->Ev->i0 Ev:=λe c=>match e with
 |d::r=>(a d c).bind (b r)
 |[]=>none
def gT(n:Nat)(a:Bi):D->Ev->i0 Ev:=λd b=>match d with
 |.tup ds=>if ds.length=n then a ds b else none
 |_=>none
def toO{b:Type}(r:i0 b)(k:b->RT):RT:=match r with
 |some a=>k a
 |none=>.bad
def mi(a:qC)(b:jI):aa D->jI
 |[],e=>.nx e
 |d::r,e=>toO (a d e) λc=>turnT (b c) (mi a b r)
section
variable{X:Cx}{E:XK}{U I:jf}{C:aa Stmt}{T:l0}{a:qC}{M:jI}{L:Pos}
def uB(T:l0)(a:qC)(M:jI):jI:=λb=>toS (T b) λc=>mi a M c b
def yM(i)(hN:X.N.Nodup)(k:X.N[i]?=some x)(f:Loc X.env.scope x)(hf:autoParam (X.hf x) aZ5):DG X (.Name x L) [i] (gV i):=by
 refine⟨_,xw hN k f hf,λ{_ _ _ _ _ c _ _ _} s d h=>?_⟩;obtain⟨b,e,q⟩:=h;unfold gV at e;by_cases z:i<c.length
 .rw[aq z]at e;cases e;exact q _ ⟨aN ..,λj g=>ao<|λw=>g<|by simp[w]⟩ (s.set z d)
 .rw[aA z]at e;cases e
def NU:xZ X [] [] gN:=by
 refine⟨_,JJ,λs c h=>?_⟩;obtain⟨b,e,q⟩:=h;cases c with
 |nil=>cases e;exact⟨rfl,q _ ⟨rfl,λ_ _=>rfl⟩ s⟩
 |cons _ _=>cases e
def Gp{u}(A:DG X e l1 a)(z:xZ X es l2 u)(y:autoParam ((assignEach (e::es) X.env).map (·.2)=assign e X.env::(assignEach es X.env).map (·.2)) aZ0):xZ X (e::es) (l1++l2) (gC a u):=by
 obtain⟨H,x,t⟩:=A;obtain⟨G,v,r⟩:=z;refine⟨_,JI x v y,λs n h=>?_⟩;obtain⟨d,e,q⟩:=h;cases n with
 |nil=>cases e
 |cons p o=>obtain⟨c,F,B⟩:=aL.mp e;exact⟨_,_,rfl,t s p ⟨c,F,λk g m=>r m o ⟨d,B,λb f l=>q b ⟨f.1.trans g.1,λj i=>(f.2 j λw=>i<|bq _ w).trans (g.2 j λw=>i<|b8 _ w)⟩ l⟩⟩⟩
def NR{k n u}(p:X.calm=true)(h:xZ X es l u)(o:autoParam ((assignEach es X.env).length=n) aZ0)(c:autoParam ((assignEach es X.env).findIdx? (·.1)=none) aZ0):DG X (.Tuple es k L) l (gT n u):=by
 obtain⟨w,m,j⟩:=h;refine⟨_,JH p m o c,λ{_ _ _ _ _ _ _ d _} s i h=>?_⟩;obtain⟨b,e,q⟩:=h;unfold gT at e;cases d with
 |tup v=>
  by_cases z:v.length=n
  .simp only[z,df]at e;obtain⟨a,g,t,r,f⟩:=i.o4;exact⟨a,g,t,r,by rw[f.length];exact z,j s f ⟨b,e,q⟩⟩
  .simp only[z,cj]at e;cases e
 |_=>cases e
def N9(hp:PassesOwn (model X.prog X.w) X.A X.env X.xe)(hc:X.calm=true)(t:DI X E U I T)(hg:DG X U l a)(hb:oO X E C M)(hs:autoParam (∀x,foldedSetIterable I X.env x=pure x) aZ2):
    DS X E (.For U I C [] L) (uB T a M):=by
 obtain⟨wi,pi,ri⟩:=t;obtain⟨g,pg,rg⟩:=hg;obtain⟨tb,pb,rb⟩:=hb;refine⟨_,DK hp hc pi pg pb hs,λ{P u al _ _ G D} s h=>ri s<|Aft.mono (k6.sU h s) λ{c _} Z h1 J S=>?_⟩;refine⟨λi m f o=>∃b kO,RS X.K P u b o f kO/\Wk X.K b o J c/\k6 X.K P u E D b o (mi a M (c.drop i) kO)/\m=c.length - i,⟨_,al,G,s.grow Z,S,h1,rfl⟩,?_⟩
 rintro i m f o ⟨b,kO,w,p,d,rfl⟩
 obtain⟨W,V⟩:=p b o .refl w.fresh;by_cases t:i<c.length
 .right;have ed:c[i]?=some c[i]:=ax t;obtain⟨go,N⟩:=W i _ ed;rw[bV t]at d;refine⟨go,λj r=>∃b kO,RS X.K P u b r j kO/\Wk X.K b r J c/\k6 X.K P u E D b r (mi a M (c.drop<|i+1) kO),λj r ⟨A,n,K,z2,H⟩=>⟨c.length - (i+1),by grind,A,n,K,z2,H,rfl⟩,λx H3 y=>?_⟩;obtain⟨rfl,rx⟩:=N x H3 y;unfold mi at d;cases q:a c[i] kO with
  |some n=>rw[q]at d;refine rg w rx ⟨n,q,λF _ Y=>rb Y<|Ll (k:=mi a M<|c.drop<|i+1) d λB r j v Q s' h'=>⟨B,v,s',λz H4 O=>p z H4<|Q.trans O,h'⟩⟩
  |none=>rw[q]at d;exact d.elim
 .left;have e:c.drop i=[]:=cm (by simp_all);rw[e]at d;exact⟨V i<|by simp_all,d b o f .refl w⟩
def k7(n:Nat)(b:jD):Ev:=b.map .sh++List.replicate (n - b.length) .no
noncomputable def ky:RT->R D
 |.rt d=>.ok d
 |.nx _=>.ok .non
 |.ex c ns ds=>.ex c ns ds
 |_=>.bad
def Ym{c}(tt:md K H)(fr:∀a,H a=none->c a)(r:ja K c H vs ds):RS K c H c H (L2.start N vs) (k7 N.length ds) where
 same:=.refl H
 tt:=tt
 fresh:=fr
 sub:=λ_ h=>h
 pf:=fr
 len:=by unfold L2.start k7;simp[r.length]
 sh:=λi d h=>by
  unfold k7 at h;by_cases b:i<ds.length
  .rw[aw<|by simpa using b,aC]at h;cases q:ds[i]? with
   |none=>rw[q]at h;cases h
   |some y=>rw[q]at h;cases h;obtain⟨v,f,e⟩:=r.getD q;refine⟨v,?_,e⟩;unfold L2.start;rw[aw<|by simpa [r.length]using b,aC,f];rfl
  .rw[aK<|by simpa using b,bM]at h;split at h<;>cases h
 ow:=λi d h=>by
  unfold k7 at h;by_cases b:i<ds.length
  .rw[aw<|by simpa using b,aC]at h;cases q:ds[i]? with
   |_=>rw[q]at h;cases h
  .rw[aK<|by simpa using b,bM]at h;split at h<;>cases h
 apart:=λi j d g a h _ _ _=>by
  unfold k7 at h;by_cases b:i<ds.length
  .rw[aw<|by simpa using b,aC]at h;cases q:ds[i]? with
   |_=>rw[q]at h;cases h
  .rw[aK<|by simpa using b,bM]at h;split at h<;>cases h
variable{P:jE}{w:jz}{K:i9}{O:km}{B:jb}
def O6{k g}(F:oi K x x st f fd)(S:tw N ps<|jQ st)
 (C:∀e A b s H E,kz k (kC (j8 P w) P w K O B N x (jQ st) f e A b s H E).A->oO (kC (j8 P w) P w K O B N x (jQ st) f e A b s H E) E (mh st) g):
   my P w K O B (k+1) f fd ps (rS ps.length K λl=>ky<|g<|k7 N.length l):=by
  refine F.Jh S (λo H Q E h=>h.1) (λe A b s H o Q E y h=>?_);obtain⟨V,u,Z,l,fr,j,h⟩:=h;obtain⟨t,p,r⟩:=C e A b s H E y;dsimp only at h;refine⟨t,p,r (Ym u fr j) ?_⟩;cases q:g (k7 N.length l)with
  |nx G=>rw[q]at h;exact λz m n _ i=>h m i.same .non .non
  |rt d=>rw[q]at h;exact λv m i j=>h m i v j
  |ex c J Y=>rw[q]at h;exact h
  |_=>rw[q]at h;exact h.elim
def q7.up{k}(G:pQ P w K O B j x ps sp)(h:j<=k):pQ P w K O B k x ps sp:=let⟨f,b,fo,r⟩:=G;⟨f,b,fo.mono h,r⟩
variable{N:jy}{qual:iS}{Y:Scope}{f:iR}{cd:iT}{A:jY}{b:mL}{s:i7}{H:Hp}
end
section
variable{X:Cx}{E:XK}{o e:jf}{y:kK}{fo:jx}{fs:l0}{b:iS}{m c:Pos}{T q:String}{g:D->jg}
structure DO(X:Cx)(E:XK)(e:i0 jf)(f:Ev->R (i0 Int)):Prop where
 w_::
 o_:∃t:TO,PO X e t/\
 ∀{P H0 al H s r} {Q:i0 Int->Hp->Prop},RS X.K P H0 al H s r->Aft X.K al E H (f r) Q->t s H Q
abbrev _root_.Bg:=D->i0 Int->i0 Int->R D
structure Bf(X:Cx)(E:XK)(g:Bg):Prop where
 w_::
 o_:∃r,rh X r/\
 ∀{al H x dx lo hi} {Q:VK},(∀a,H a=none->al a)->Rep X.K al H x dx->Aft X.K al E H (g dx lo hi) (λd H'=>∀v,Rep X.K al H' v d->Q v H')->r x lo hi H Q
def pI(d:D):R (i0 Int):=match d with
 |.int i=>.ok (some i)
 |_=>.bad
def yN:DO X E none (λ_=>.ok none):=⟨_,WA,λ_ h=>h _<|.refl _⟩
def N7(h:DE X E e fo):DO X E (some e) (λf=>(fo f).bind pI):=by
 obtain⟨t,p,r⟩:=h;refine⟨_,WB p,λs h=>r s<|Aft.mono (Aft.split h) λ{_ d} k a v j=>?_⟩;cases j with
 |int i=>exact⟨i,rfl,a d<|.refl d⟩
 |_=>exact(a:False).elim
def sO(g:Bg)(a:jx)(l u:Ev->R (i0 Int)):jx:=λd=>(a d).bind λx=>(l d).bind λi=>(u d).bind λj=>g x i j
def NL{g lo}(z:Bf X E g)(B:DE X E e fo)(A:DO X E lo fl)(x:DO X E hi fu):DE X E (.Subscript e (.Slice lo hi none p2) pos) (sO g fo fl fu):=by obtain⟨r,n,k⟩:=z;obtain⟨to,u,l⟩:=B;obtain⟨I,w,p⟩:=A;obtain⟨H,t,j⟩:=x;refine⟨_,Wd n u w t,λs h=>l s<|Aft.mono (Aft.split h) λd G v i=>?_⟩;refine p (s.grow d) (Aft.mono (Aft.split G) λa F=>j ((s.grow d).grow a)<|Aft.mono (Aft.split F) λf C=>?_);exact k (((s.grow d).grow a).grow f).fresh ((i.up a).up f) C
end
def JK(d:PI X tg iter w1)(c:PI X tg iter w2):PI X tg iter (λb H R=>w1 b H R\/w2 b H R):=λa s b H R I h=>h.elim (d a s b H R I) (c a s b H R I)
section
variable{X:Cx}{E:XK}{M e:jf}{f:jx}
def LD(r:Rep K al H (.ref a)<|.lst ds):Wk K al H (AK K a) ds:=by intro g m x fr;obtain⟨l,b,e,q,rs⟩:=(r.mv x).oU;cases e;refine⟨λi d h=>?_,λi h=>⟨b,q,by rw[rs.length];exact h⟩⟩;obtain⟨v,c,k⟩:=rs.getD h;refine⟨⟨b,v,q,c⟩,λy j z=>⟨z.1,?_⟩⟩;have:=z.2 b q;simp_all
def aaH(r:Rep K al H (.ref a)<|.tup ds):Wk K al H (AL K a) ds:=by intro g m x fr;obtain⟨l,b,e,q,rs⟩:=(r.mv x).o4;cases e;refine⟨λi d h=>?_,λi h=>⟨b,q,by rw[rs.length];exact h⟩⟩;obtain⟨v,c,k⟩:=rs.getD h;refine⟨⟨b,v,q,c⟩,λy j z=>⟨z.1,?_⟩⟩;have:=z.2 b q;simp_all
def qk(lo:Int)(n:Nat):aa D:=(List.range n).map λ(k:Nat)=>D.int (lo+(k:Int))
def aaF{lo n}:Wk K al H (ye lo n) (qk lo n):=by
 intro b g x fr;refine⟨λi d h=>?_,λi h=>?_⟩
 .unfold qk at h;rw[aC]at h;by_cases a:i<n
  .rw[List.getElem?_range a]at h;cases h;exact⟨a,λy c z=>⟨z.1,by rw[z.2];exact .int _⟩⟩
  .simp_all
 .unfold qk at h;show n<=i;simpa using h
noncomputable def qT(a:jD):R (aa D):=match a with
 |[.int j]=>if -(2^62)<=j/\j<2^62 then .ok (qk 0 j.toNat)else .bad
 |_=>.bad
def NV{fs}(n:Gl X "range")(m:X.mg "range"=none)(o:DA X E [a] fs)(l:autoParam (starEach [a] X.env=[(false,eval a X.env)]) aZ0):DI X E M (.Call (.Name "range" p) [a] [] pos) (λd=>(fs d).bind qT):=by
 obtain⟨t,q,r,_⟩:=o;refine⟨_,Wo n m q l,λs h=>r s<|Aft.mono (Aft.split h) λ{_ c} v b u g=>?_⟩;unfold qT at b;split at b
 .rename_i j;cases g with
  |cons k i=>
   cases i;cases k;split at b
   .rename_i z;exact⟨j,rfl,z.1,z.2,b c (.refl c) _ aaF⟩
   .exact b.elim
 .exact b.elim
variable{K:i9}{P B:ko}{I H:Hp}{C:St}{m:Ev}
def RS.own(r:RS K P I B H C m)(A:i<m.length)(t:H p=none)(q:ja K B H vs ds):
    RS K P I (λb=>B b/\b≠p) (upd H p<|.lst vs) (C.set i<|some<|.ref p) (m.set i<|.ow ds)/\Xt B H (λb=>B b/\b≠p) (upd H p<|.lst vs):=by
 have x:Xt B H (λb=>B b/\b≠p) (upd H p<|.lst vs):=λb o _ g e=>⟨⟨g,nQ e t⟩,by rw[jw<|nQ e t];exact e⟩;have s:=lV (K:=K) (o:=HO.lst vs) t;have R:i<C.length:=by rw[<-r.len];exact A
 refine⟨⟨r.same.trans s,s.tt r.tt,λb g=>?_,λb g=>r.sub b g.1,r.pf,by rw[aN,aN];exact r.len,λj d h=>?_,λj F h=>?_,λj k d1 d2 b T O S N=>?_⟩,x⟩
 .refine⟨r.fresh b<|s.free g,λz=>?_⟩;rw[z,j7]at g;cases g
 .by_cases z:i=j;.subst z;rw[aB A]at h;cases h
  .rw[ao z]at h;obtain⟨v,n,u⟩:=r.sh j d h;exact⟨v,by rw[ao z];exact n,u.mv x⟩
 .by_cases z:i=j
  .subst z;rw[aB A]at h;cases h;exact⟨p,vs,aB R,j7,q.mv x,λw=>w.2 rfl,r.same.free t⟩
  .rw[ao z]at h;obtain⟨a,L,n,u,Y,V,U⟩:=r.ow j F h;exact⟨a,L,by rw[ao z];exact n,s.at' _ _ nc u,Y.mv x,λw=>V w.1,U⟩
 .have c:∀(l:Nat) (d:jD),(m.set i<|.ow ds)[l]?=some (.ow d)->(C.set i<|some<|.ref p)[l]?=some (some<|.ref b)->(l=i/\b=p)\/(l≠i/\b≠p/\m[l]?=some (.ow d)/\C[l]?=some (some<|.ref b)):=by
   intro l d y z2;by_cases z:i=l;.simp_all
   .rw[ao z]at y z2;right;obtain⟨a,L,n,u,_⟩:=r.ow l d y;rw[n]at z2;cases z2;exact⟨λw=>z w.symm,nQ u t,y,n⟩
  rcases c j d1 T S with⟨Q,J⟩|⟨Q,J,a3,a4⟩
  .rcases c k d2 O N with⟨b1,_⟩|⟨_,G,_⟩;.rw[Q,b1]
   .exact absurd J G
  .rcases c k d2 O N with⟨_,G⟩|⟨_,_,b3,Z⟩;.exact absurd G J
   .exact r.apart j k d1 d2 b a3 b3 a4 Z
def RS.write(r:RS K P I B H C m)(h:m[i]?=some (.ow GB))(e:C[i]?=some (some<|.ref a))(q:ja K B H vs ds):
    RS K P I B (upd H a<|.lst vs) C (m.set i<|.ow ds)/\Xt B H B (upd H a<|.lst vs):=by
 obtain⟨a',Z,N,L,e3,J,u⟩:=r.ow i GB h;rw[e]at N;cases N;have G:i<m.length:=(az.mp h).1;have ne:∀b,B b->b≠a:=λb g z=>J (z▸g);have x:Xt B H B (upd H a (.lst vs)):=λb o _ g w=>⟨g,by rw[jw (ne b g)];exact w⟩;have up:md K H->md K (upd H a (.lst vs)):=λt=>t.upd (λps w=>by rw[L]at w;cases w) λq w=>by rw[L]at w;unfold lG at w;cases w
 refine⟨⟨⟨λb o n w=>?_,λb w=>?_,λt=>up<|r.same.tt t⟩,up r.tt,λb g=>?_,r.sub,r.pf,by rw[aN];exact r.len,λj d z=>?_,λj d z=>?_,λj k d1 d2 b R z2 Q O=>?_⟩,x⟩;.rw[jw<|nQ w u];exact r.same.at' b o n w
 .by_cases z:b=a;.rw[z];exact u
  .rw[jw z]at w;exact r.same.fr b w
 .by_cases z:b=a;.rw[z,j7]at g;cases g
  .rw[jw z]at g;exact r.fresh b g
 .by_cases y:i=j;.subst y;rw[aB G]at z;cases z
  .rw[ao y]at z;obtain⟨v,p,s⟩:=r.sh j d z;exact⟨v,p,s.mv x⟩
 .by_cases y:i=j
  .subst y;rw[aB G]at z;cases z;exact⟨a,vs,e,j7,q.mv x,J,u⟩
  .rw[ao y]at z;obtain⟨b,S,p,s,V,U,T⟩:=r.ow j d z;refine⟨b,S,p,?_,V.mv x,U,T⟩;rw[jw];exact s;intro c;subst c;exact y (r.apart i j GB d b h z e p)
 .have back:∀(l:Nat) (d:jD),(m.set i<|.ow ds)[l]?=some (.ow d)->∃Y,m[l]?=some (.ow Y):=λl d w=>by
   grind
  obtain⟨F,p⟩:=back j d1 R;obtain⟨A,s⟩:=back k d2 z2;exact r.apart j k F A b p s Q O
def pW(i:Nat)(m:Ev):Ev:=match m[i]? with
 |some (.ow a)=>m.set i (kg a)
 |_=>m
def RS.freeze(r:RS K P I B H C m)(i):∃g,RS K P I g H C (pW i m)/\Xt B H g H:=by
 unfold pW;split
 .rename_i p h;obtain⟨a,R,s,Q,O,S,N⟩:=r.ow i p h;have q:i<m.length:=(az.mp h).1;have x:Xt B H (λb=>B b\/b=a) H:=.sub λ_ z=>.inl z;refine⟨λb=>B b\/b=a,⟨r.same,r.tt,λb c=>.inl (r.fresh b c),λb c=>?_,r.pf,by rw[aN];exact r.len,λj d z=>?_,λj d z=>?_,λj k d1 d2 b A z2 u t=>?_⟩,x⟩
  .rcases c with c|rfl;.exact r.sub b c
   .exact r.pf _ N
  .by_cases y:i=j
   .subst y;rw[aB q]at z;cases z;exact⟨.ref a,s,.lst (.inl ⟨.inr rfl,.inl Q⟩)<|O.mv x⟩
   .rw[ao y]at z;obtain⟨v,n,o⟩:=r.sh j d z;exact⟨v,n,o.mv x⟩
  .by_cases y:i=j;.subst y;rw[aB q]at z;cases z
   .rw[ao y]at z;obtain⟨b,F,n,o,L,J,G⟩:=r.ow j d z;refine⟨b,F,n,o,L.mv x,λw=>?_,G⟩;rcases w with w|rfl;.exact J w
    .exact y (r.apart i j p d b h z s n)
  .have back:∀(l:Nat) (d:jD),(m.set i<|kg p)[l]?=some (.ow d)->m[l]?=some (.ow d):=λl d w=>by
    grind
   exact r.apart j k d1 d2 b (back j d1 A) (back k d2 z2) u t
 .exact⟨B,r,.refl⟩
variable{J:aa Stmt}{O:Stmt}{g:jI}{L:l0}{F:Pos}
def Oi(i)(h:oO X E J g):oO X E J (λm=>g (pW i m)):=by obtain⟨t,p,r⟩:=h;refine⟨t,p,λs h=>?_⟩;obtain⟨b,a,x⟩:=s.freeze i;exact r a (k6.ext h x)
def uC(i:Nat)(f:l0):jI:=λm=>toS (f m) λa=>if i<m.length then .nx (m.set i<|.ow a)else .bad
def Ob(i)(hN:X.N.Nodup)(o:X.N[i]?=some x)(k:Loc X.env.scope x)(u:DN X E e L)(l:autoParam (swapsWith e (some<|.Name x pos') F.line X.env=pure false) aZ0)(hf:autoParam (X.hf x) aZ5):
    DS X E (.Assign [.Name x pos'] e F) (uC i L):=by
 obtain⟨t,p,r⟩:=u;refine⟨_,DL hN o k p l hf,λ{_ _ _ _ _ m _} s h=>r s<|Aft.mono (k6.sU h s) λd a q v n j=>?_⟩;by_cases z:i<m.length
 .simp only[z,df]at a;obtain⟨c,b⟩:=(s.grow d).own z n j;exact a _ _ _ b c
 .simp only[z,cj]at a;exact a.elim
end
variable{P:jE}{w:jz}{K:i9}{mg:km}{base:jb}{N:jy}{qual:iS}{scope:Scope}{f:iR}{cd:iT}{A:jY}{outer:mL}{s:i7}{H:Hp}{E:XK}
def Oc(g:ExcBaseFacts B newId Rq wJ)(q:W.excIn K C wJ newId=true)
 (d:Gl (kC (j8 P w) P w K mg base N qual scope f cd A outer s H E) x)(c:mg x=some (.ref C))(a:autoParam (lL x) aZ1):
   DS (kC (j8 P w) P w K mg base N qual scope f cd A outer s H E) E (.Raise (some<|.Call (.Name x np) [] [] cpos) none pos) (λ_=>.ex C [] []):=
  ⟨_,WK g q d c a,λ{l m k e i j D} b h=>h none e b.same ⟨rfl,rfl⟩⟩
end P2
namespace L2
open PySem PySem.Spec PyProof.Rows
abbrev _root_.uY:=Result->i7->Prop
variable{f:jE}{w:jz}{A:jY}{R:uY}{s:i7}
abbrev _root_.u0:=Nat->i7->Prop
def Nk(I:u0)
 (q:∀n s,I n s->wpAny (model f w) A (pyNext it) (λr b=>match r with
 |none=>R (.ok .next) b
 |some v=>wpAny (model f w) A (letOwnedTupleGo target it v) (λ_ l=>wpAny (model f w) A (assign target env v) (λ_ k=>
 wpAny (model f w) A (forIn ifs true λc r=>if r=true then do let ok<-isTrue c env (eval c env);pure (ForInStep.yield ok)else pure (ForInStep.yield r)) (λok a=>
 if ok=true then wpAny (model f w) A (eval elt env) (λx j=>
 wpAny (model f w) A (call (.builtin "list.append") [acc,x]) (λ_ i=>∃m,m<n/\I m i) (notedBy (model f w) A env λe d=>R (.error e) d) j) (notedBy (model f w) A env λe d=>R (.error e) d) a
 else∃m,m<n/\I m a) (notedBy (model f w) A env λe d=>R (.error e) d) k) (notedBy (model f w) A env λe d=>R (.error e) d) l) (notedBy (model f w) A env λe d=>R (.error e) d) b) (notedBy (model f w) A env λe d=>R (.error e) d) s)
 (n)(h:I n s):codeAny (model f w) A (.compLoop (.ListComp elt [⟨target,iter,ifs,0⟩] scope pos) 0 it acc env) R s:=by
  refine codeAny_loop rfl I (λn s B=>?_) n h;refine wpAny_noted ?_;refine ae (fJ<|ae<|br (q n s B) (λr b p=>?_) λ_ _ g=>g);cases r with
  |none=>exact ah p
  |some v=>
   refine ae (br p (λ_ l z=>?_) λ_ _ g=>g);refine ae (br z (λ_ k y=>ae<|br y (λok a o=>?_) λ_ _ g=>g) λ_ _ g=>g);cases ok with
   |false=>exact ah ⟨rfl,o⟩
   |true=>exact ae (ae<|br o (λx j u=>ae<|br u (λ_ i t=>ah<|ah ⟨rfl,t⟩) λ_ _ g=>g) λ_ _ g=>g)
abbrev _root_.tL:=aa (iS×iR)
abbrev Cx.comp(X:Cx)(scope:Scope)(N':jy)(cl:tL)(fp:nW)(s3:i7)(H3:Hp)(C:iR):Cx:=
 {X with N:=N',s₀:=s3,H₀:=H3,env:=compEnvC scope cl C X.env,outer:=X.stack,ex:=fp,fn:=λ_=>false,pn:=[],xe:=λ_ _=>False}
inductive nH(X:Cx)(cl:List<|Str×Addr):List Str->List Nat->Prop
 |nil:nH X cl [] []
 |cons {x:Str} {i:Nat} {N:List Str} {ci:List Nat}:X.N[i]?=some x->(X.env.kindOf x=some .cell\/X.env.kindOf x=some .free)->cl.lookup x=X.env.cells.lookup x->nH X cl N ci->nH X cl (x::N) (i::ci)
def nH.length{a}(h:nH X a N ci):N.length=ci.length:=by
 induction h with
 |nil=>rfl
 |cons _ _ _ _ b=>simp_all
def nH.get{X}{a}{b}(h:nH X a N b){k:Nat}(e:N[k]?=some x):∃i,b[k]?=some i/\X.N[i]?=some x/\(X.env.kindOf x=some .cell\/X.env.kindOf x=some .free)/\a.lookup x=X.env.cells.lookup x:=by
 induction h generalizing k with
 |nil=>simp at e
 |cons j g d _ c=>grind
def mX(b:Nat)(c:lC)(a:St):St:=List.replicate b none++c.map λi=>(a[i]?).getD none
def FX(h:(mX tn ci r)[j]?=some (some v)):∃k i,j=tn+k/\ci[k]?=some i/\r[i]?=some (some v):=by
 unfold mX at h
 grind
def wK:(mX tn ci r).length=tn+ci.length:=by unfold mX;simp
def Ef(y:TI)(h:Nat)(n:lC)(g:TG)(B:TT)(z:TE):TE:=λk H Q=>y k H λJ p=>∀l,p l=none->∃W:Nat->Nat->Hp->Prop,(∃m,W 0 m<|upd p l<|.lst [])/\∀i m d,W i m d->(∀b o u,upd p l (.lst []) b=some (.kd o u)->d b=some (.kd o u))->
 (J.stop i d/\Q (.ref l) d)\/(J.go i d/\∀x t,J.xN i d x t->g x (mX h n k) t λa C=>(a.length=h+n.length/\∀j,h<=j->a[j]?=(mX h n k)[j]?)/\B a C λb r=>if b=true then z a r λv q=>∃c,q l=some (.lst c)/\c.length<sizeLine/\∃e,e<m/\W (i+1) e (upd q l<|.lst<|c++[v])else∃e,e<m/\W (i+1) e r)
def PF(X:Cx)(b:kK)(t:TT):Prop:=
 ∀(a:kv) (s:i7) (v:St) (H:Hp) (Q:rm),Inv X a v H s->t v H Q->
  wpAny (model X.prog X.w) X.A (forIn b true λc r=>if r=true then do let ok<-isTrue c X.env (eval c X.env);pure (ForInStep.yield ok)else pure (ForInStep.yield r)) (TP X a v Q) X.xe s
def JF:PF X [] (λ_ H Q=>Q true H):=λ_ _ _ H _ I h=>wpAny_tests_nil ⟨H,I,h⟩
def JG{t}(h:PT X c t):PF X [c] t:=λa s b H Q I d=>wpAny_tests_one (h a s b H Q I d)
variable{X:Cx}{O B L:jf}{K:kK}{scope:Scope}{M:Pos}{P:TI}{g:TG}{tc:TT}{te:TE}{E:tL}{tn:Nat}{Nt Nc:jy}{F:lC}
def F9{s}{H:Hp}{RR:iT->iR->Result->i7->Prop}(I:Inv X pins σ H s)(hc:X.calm=true)(hi:PI X O B P)
 (hg:∀D s3 H3 C,PG (X.comp scope (Nt++Nc) E D s3 H3 C) O g)(hf:∀D s3 H3 C,PF (X.comp scope (Nt++Nc) E D s3 H3 C) K tc)(he:∀D s3 H3 C,PE (X.comp scope (Nt++Nc) E D s3 H3 C) L te)
 (hkind:scope.kind=.function)(hcell:qh scope)(qM:nH X E Nc F)(zm:Nt.length=tn)
 (V:∀x c,E.lookup x=some c->X.env.cells.lookup x=some c)(hhas:∀x,((relabel scope X.env).names.lookup x=some .cell\/(relabel scope X.env).names.lookup x=some .free)->∃c,E.lookup x=some c)
 (rE:∀x∈Nc,(relabel scope X.env).names.lookup x=some .cell\/(relabel scope X.env).names.lookup x=some .free)
 (h:Ef P tn F g tc te σ H Q)
 (fin:∀l C H' s' m,s'.heap.Ns C m->Inv X pins σ H' s'->H' C=none->C≠X.env.locals->X.s₀.heap.objs.size<=C->(∀x c,X.env.cells.lookup x=some c->c≠C)->(∀p∈X.pn++pins,p.1≠C)->Q (.ref l) H'->RR (.ref l) C (.ok .next) s'):
   wpAny (model X.prog X.w) X.A (eval B X.env) (λx Zb=>wpAny (model X.prog X.w) X.A (pyIter x) (λit Zd=>wpAny (model X.prog X.w) X.A (newList []) (λacc Ze=>wpAny (model X.prog X.w) X.A (newFunctionEnv scope X.env.globals E [] X.env.qual none .none<|some X.env) (λF1 Zg=>codeAny (model X.prog X.w) X.A (.compStart (.ListComp L [⟨O,B,K,0⟩] scope M) 0 it acc {F1 with scope:=relabel scope X.env}) (RR acc F1.locals) Zg) X.xe Ze) X.xe Zd) X.xe Zb) X.xe s:=by
  refine je (hi pins s σ H _ I h) λv s1 h1=>je h1 λRL s2 h2=>?_;obtain⟨it,D,tk,J,H2,rfl,I2,T,KZ,f2,hW⟩:=h2;refine bc (wpAny_newFunctionEnv hcell (by intro y hy;simp at hy) (λCD S N=>?_) hkind);dsimp only at S N⊢;generalize hG:s2.heap.push {cls:=.type "list",dict:=none,data:=.seq ([]:aa iT).toArray}=G at S N⊢;have PK:G.objs.size=s2.heap.objs.size+1:=by rw[<-hG,cg]
  have hl:H2 s2.heap.objs.size=none:=I2.hok.fresh (af _);obtain⟨W,⟨m0,w0⟩,turn⟩:=hW _ hl;have t:Inv X pins σ (upd H2 s2.heap.objs.size<|.lst []) {s2 with heap:=G}:=by rw[<-hG];exact I2.laid (t':=s2.toks) (λb u e=>ai _ e) (af _) ⟨bI _,[],0,.nil,aJ _ rfl⟩
  generalize Hr:upd H2 s2.heap.objs.size (.lst [])=H3 at w0 t;have keep:∀b o,G.get? b=some o->CD.get? b=some o:=λb o e=>N.extBut b o (aV<|aM e) (ai _ e);have IL:∀b∈D,b<s2.heap.objs.size:=λb a=>by obtain⟨o,e,_⟩:=T.obj 0 _ KZ b a;exact aM e
  have G6:∀b∈D,b≠G.objs.size:=λb a=>aV (aE (IL b a)<|by rw[PK];exact cN _);have G7:∀b∈D,H3 b=none:=λb a=>by rw[<-Hr,jw<|aV<|IL b a];exact(f2 b a).1
  let X':=X.comp scope (Nt++Nc) E D {s2 with heap:=G} H3 G.objs.size
  have ok':X'.Ok:=by
   refine⟨t.ok.mod,(by show(relabel scope X.env).kind=_;exact hkind),t.ok.glob,t.ok.blt,af _,λx y c e1 e2=>t.ok.inj x y c (V x c e1)<|V y c e2,λx hx=>hhas x hx,(λx c z=>nomatch z),t.ok.hd,t.ok.frames,.inl rfl,λb a=>⟨G6 b a,λx c e=>(f2 b a).2.2.2.2.1 x c (V x c e)⟩,λb o e=>t.bs b o e,aW t.ok.tW t.sz,λb o e a=>?_,λb a z=>?_,t.stack,t.Ed⟩
   .rcases(f2 b a).2.2.2.1 with z|z;.exact t.ok.De b o e z
    .exact absurd (aE (aM e)<|aW t.ok.tW z) (cL _)
   .rcases aI.mp (t.Ae b z)with e|e;.exact(f2 b a).2.1 e
    .exact(f2 b a).2.2.1 e
  have J0:Inv X' [] (mX tn F σ) H3 {s2 with heap:=CD,toks:=s2.toks+0}:=by
   refine⟨ok',rfl,t.bare,Un.kept keep,⟨_,S,λi x v e1 e2 e3=>?_⟩,λx c e=>?_,t.hok.fresh<|af _,λx c e=>t.pV x c<|V x c e,λp hp=>absurd (show p∈([]:aa<|iR×lj)from hp)<|by simp,t.hok.kept keep,?_⟩
   .obtain⟨k,j,rfl,q1,q2⟩:=FX e2;have GD:Nc[k]?=some x:=by
     rw[aK<|by simp_all]at e1;rw[show tn+k - Nt.length=k by simp_all]at e1;exact e1
    obtain⟨j',z1,z2,z3,z4⟩:=qM.get GD;rw[q1]at z1;cases z1;obtain⟨m,hn,QX⟩:=t.loc;obtain⟨u,r,lk⟩:=QX j x v z2 q2 (z3.elim (λz=>.inr<|.inl z) λz=>.inr<|.inr z);refine⟨u,r,.inr ⟨rE x<|a9 GD,?_⟩⟩;rcases lk with⟨k1,_⟩|⟨_,c,k2,k3⟩;.rcases z3 with z|z<;>(rw[k1]at z;cases z)
    .refine⟨c,z4.trans k2,?_⟩;obtain⟨o,ho,hd⟩:=k3;exact⟨o,keep _ _ ho,hd⟩
   .obtain⟨v,o,ho,hd⟩:=t.cell x c (V x c e);exact⟨v,o,keep _ _ ho,hd⟩
   .rw[wK];show _=(Nt++Nc).length;rw[ag,qM.length,zm]
  have stat:∀{Y:kv} {H':Hp},(∀p∈Y,p.1∉D)->(∀b∈D,H' b=none)->∀b∈D,sy X' Y H' b:=λ{Y H'} hp hn b a=>⟨hn b a,G6 b a,λz=>ok'.BO b a z,.inl a,λx c e=>(ok'.OS b a).2 x c e,λp Q6 z=>hp p ((aY.mp Q6).elim (λw=>absurd (show p∈([]:aa<|iR×lj)from w)<|by simp) λw=>w)<|by rw[z];exact a⟩
  have mk:∀(s5:i7),(∀i H5,Inv X' [] (mX tn F σ) H5 s5->tk i s5.heap->(∀b∈D,H5 b=none)->∀n,W i n H5->
   codeAny (model X.prog X.w) X.A (.compLoop (.ListComp L [⟨O,B,K,0⟩] scope M) 0 (.ref it) (.ref s2.heap.objs.size) (compEnvC scope E G.objs.size X.env)) (RR (.ref s2.heap.objs.size) G.objs.size) s5):=by
   intro s5 i5 H5 J5 Y5 Pc n5 w5;refine Nk (λn s'=>∃i H',Inv X' [] (mX tn F σ) H' s'/\tk i s'.heap/\(∀b∈D,H' b=none)/\W i n H') ?_ n5 ⟨i5,H5,J5,Y5,Pc,w5⟩
   rintro n s6 ⟨i,H6,J6,K0,G8,w6⟩
   rcases turn i n H6 w6 (λb o u e=>J6.base.pX b o u (show H3 b=_ by rw[<-Hr];exact e))with⟨stop,q⟩|⟨go,step⟩
   .refine br (T.done X' rfl rfl rfl hc i [] s6 _ H6 (λ_ _=>False) J6 (stat (by simp) G8) K0 stop) (λr s7 ⟨hr,J7⟩=>?_) λ_ _ z=>z.elim;subst hr;obtain⟨m,hn,_⟩:=J7.loc;have IX:Inv X pins σ H6 s7:=t.FU (ch:=D) J7.os J7.base J7.hok J7.bare λb a=>⟨(f2 b a).2.2.2.1,(f2 b a).2.1,(f2 b a).2.2.2.2.1,(f2 b a).2.2.2.2.2⟩;refine fin _ _ H6 s7 m hn IX J7.free (dE t.lt) (aW t.sz<|af _) (λx c e z=>?_) (λp hp z=>?_) q
    .obtain⟨v,o,ho,_⟩:=t.cell x c e;exact absurd (aM ho) (by rw[z];exact cL _)
    .exact absurd (aM (t.pin p hp).1) (by rw[z];exact cL _)
   .refine br (T.item X' rfl rfl rfl hc i [] s6 _ H6 (λ_ _=>False) J6 (stat (by simp) G8) K0 go) (λr s7 ⟨u,hr,h7⟩=>?_) λ_ _ z=>z.elim;subst hr;refine br h7 (λ_ s8 Z=>?_) λ_ _ z=>z.elim;obtain⟨x,H8,J8,r8,y8,Ec,Pd⟩:=Z;have Mh:=J8.pinned (stat (by simp) Pd) (T.obj _ _ Ec)
    have back:∀{U:St} {H9:Hp} {s9:i7},Inv X' ([]++xy D s8.heap) U H9 s9->U.length=tn+F.length->(∀j,tn<=j->U[j]?=(mX tn F σ)[j]?)->∀m',m'<n->W (i+1) m' H9->
     ∃m,m<n/\∃i H',Inv X' [] (mX tn F σ) H' s9/\tk i s9.heap/\(∀b∈D,H' b=none)/\W i m H':=λ{U H9 s9} J9 QH QD m' hm w9=>by
     refine⟨m',hm,i+1,H9,J9.Ak.weak (by rw[wK,QH]) λj v e=>?_,T.keep _ _ _ Ec λb a o e=>(J9.pin (b,o)<|bq _<|bq _<|zE a e).1,λb a=>?_,w9⟩
     .obtain⟨k,_,rfl,_⟩:=FX e;rw[QD _<|by simp];exact e
     .obtain⟨o,e,d⟩:=T.obj _ _ Ec b a;exact(J9.pin (b,o)<|bq _<|bq _<|zE a e).2.1
    refine br (hg D _ _ _ _ s8 _ H8 x u _ Mh r8<|step x H8 y8) (λ_ s9 Z=>?_) λ_ _ z=>z.elim;obtain⟨U,H9,J9,⟨l9,k9⟩,q9⟩:=Z;refine br (hf D _ _ _ _ s9 U H9 _ J9 q9) (λb kr ⟨Md,EJ,z7⟩=>?_) λ_ _ z=>z.elim;cases b with
    |false=>rw[aA av]at z7⊢;obtain⟨m',hm,w10⟩:=z7;exact back EJ l9 k9 m' hm w10
    |true=>rw[aq rfl]at z7⊢;refine br (he D _ _ _ _ kr U Md _ EJ z7) (λy mH Z=>?_) λ_ _ z=>z.elim;obtain⟨v,Me,Mf,XT,acc,yQ,z11,m',hm,w11⟩:=Z;refine br (C9 (X:=X') _ mH U Me (.ref _) [v] (.ref _) [y] (λ_ EI=>W (i+1) m' EI) Mf rfl (.cons XT .nil) ⟨_,acc,v,rfl,rfl,yQ,z11,w11⟩) (λ_ s12 Z=>?_) λ_ _ z=>z.elim;obtain⟨_,EI,Mg,_,w12⟩:=Z;exact back Mg l9 k9 m' hm w12
  have Eb:tk 0 CD:=T.keep _ _ _ KZ λb _ o e=>keep b o (by rw[<-hG];exact ai _ e);exact codeAny_compStart_list (mk _ 0 H3 J0 Eb G7 m0 w0) (T.self _ 0 _ _ _ Eb<|mk _ 0 H3 J0 Eb G7 m0 w0)
def Dw(V:X.calm=true)(S:PI X O B P)(T:∀v k y C,PG (X.comp scope (Nt++Nc) E v k y C) O g)(hf:∀v k y C,PF (X.comp scope (Nt++Nc) E v k y C) K tc)(U:∀v k y C,PE (X.comp scope (Nt++Nc) E v k y C) L te)
 (i:closureFor scope X.env=pure E)(a:scope.kind=.function)(j:qh scope)(d:qP scope)(u:nH X E Nc F)(z:Nt.length=tn)
 (p:∀x c,E.lookup x=some c->X.env.cells.lookup x=some c)(t:∀x,((relabel scope X.env).names.lookup x=some .cell\/(relabel scope X.env).names.lookup x=some .free)->∃c,E.lookup x=some c)
 (n:∀x∈Nc,(relabel scope X.env).names.lookup x=some .cell\/(relabel scope X.env).names.lookup x=some .free)
 (J:∀x,foldedSetIterable B X.env x=pure x):PE X (.ListComp L [⟨O,B,K,0⟩] scope M) (Ef P tn F g tc te):=by intro D s σ H Q I h;refine wpAny_comprehension_free (use:=none) rfl J i a d (F9 (Nt:=Nt) (Nc:=Nc) I V S T hf U a j u z p t n h ?_);intro l C H' G m N I' h1 h2 h3 Z Y q;exact⟨m,N,λPy r=>⟨.ref l,H',I'.turned (t':=G.toks) (λb o W e=>r.extBut b o W e) h1 h2 (.inr h3) Z Y,rfl,q⟩⟩
def yk(X:Cx)(e:jf)(t:TE):Prop:=
 ∀(i:Nat) (x:iS) (pos':Pos) (_:X.N.Nodup) (_:X.N[i]?=some x) (_:Loc X.env.scope x) (_:X.hf x) (pins:kv) (s:i7) (r:St) (H:Hp) (Q:VK),Inv X pins r H s->t r H Q->
  wpAny (model X.prog X.w) X.A (evalThenUse e X.env<|assign (.Name x pos') X.env) (λ_ b=>∃v a,Inv X pins (r.set i<|some v) a b/\Q v a) X.xe s
def J2(hc:X.calm=true)(hi:PI X O B P)(hg:∀J p N C,PG (X.comp scope (Nt++Nc) E J p N C) O g)(hf:∀J p N C,PF (X.comp scope (Nt++Nc) E J p N C) K tc)(he:∀J p N C,PE (X.comp scope (Nt++Nc) E J p N C) L te)
    (k:closureFor scope X.env=pure E)(d:scope.kind=.function)(n:qh scope)(j:qP scope)(G:nH X E Nc F)(U:Nt.length=tn)
    (y:∀x c,E.lookup x=some c->X.env.cells.lookup x=some c)(D:∀x,((relabel scope X.env).names.lookup x=some .cell\/(relabel scope X.env).names.lookup x=some .free)->∃c,E.lookup x=some c)
    (u:∀x∈Nc,(relabel scope X.env).names.lookup x=some .cell\/(relabel scope X.env).names.lookup x=some .free)
    (hs:∀x,foldedSetIterable B X.env x=pure x):yk X (.ListComp L [⟨O,B,K,0⟩] scope M) (Ef P tn F g tc te):=by
 intro i x t hN S hx T V s σ H Q I h;unfold evalThenUse;refine ae (wpAny_comprehension_free (use:=some<|assign (.Name x t) X.env) rfl hs k d j<|F9 (Nt:=Nt) (Nc:=Nc) I hc hi hg hf he d n G U y D u h ?_);intro l C H' s' m hn I' h1 h2 h3 h4 h5 q;refine ae (fJ<|h8<|K2 I' hN S hx (v:=.ref l) rfl (λZ I2 W=>?_) T);obtain⟨a,Y,W⟩:=W;have ne:C≠a:=by grind
 obtain⟨o,es,ep,e,r⟩:=hn;refine⟨m,⟨o,es,ep,(Y.2 C ne).trans e,r⟩,λPy z=>ah ⟨.ref l,H',I2.turned (t':=Z.toks) (λb o hb e=>z.extBut b o hb e) h1 h2 (.inr h3) h4 h5,q⟩⟩
def JV{te}(hN:X.N.Nodup)(j:X.N[i]?=some x)(c:Loc X.env.scope x)(k:yk X e te)(d:swapsWith e (some<|.Name x pos') Y1.line X.env=pure true)(hf:X.hf x):
    PS X (.Assign [.Name x pos'] e Y1) (Ee te<|qL i):=by
 intro a s b H D I h;rw[exec_Assign_Name_used _ _ _ _ d];refine ae (fJ<|ae<|je (k i x pos' hN j c hf a s b H _ I h) λ_ n ⟨v,m,l,q⟩=>ah ⟨_,m,l,q⟩)
end L2
namespace P2
open PySem L2 PyProof.Rows
abbrev bits(x:Int):Nat:=Builtin.Int.intBits x
def xv(h:kI X f r)(e:kI X f r'):kI X f (λx y H Q=>r x y H Q\/r' x y H Q):=
 λa s b H x y v u Q I d c q=>q.elim (h a s b H x y v u Q I d c) (e a s b H x y v u Q I d c)
def iB(C:Int->Int->i6)(g:Int->Int->D)(x y:D):R D:=match x,y with
 |.int i,.int j=>if C i j=true then .ok (g i j)else .bad
 |_,_=>.bad
section
variable{X:Cx}{E:XK}
def Dr{g}(c:kI X op<|rI C g)(hC:∀i j,Cb i j=true->C i j)(d:∀i j K e H,Rep K e H (g i j)<|gd i j):lh X E op (iB Cb gd):=by
 refine⟨_,c,λ{_ H _ _ _ _ _} fr b a h=>?_⟩;unfold iB at h;split at h
 .rename_i i j;cases b;cases a;split at h
  .rename_i z;exact⟨i,j,rfl,rfl,hC i j z,h H (.refl H) _<|d i j _ _ _⟩
  .exact h.elim
 .exact h.elim
def zP{g}(c:kI X op<|sX g)(d:∀i j K e H,Rep K e H (g i j)<|gd i j):lh X E op (iB (λ_ _=>true) gd):=by
 refine⟨_,c,λ{_ H _ _ _ _ _} fr b a h=>?_⟩;unfold iB at h;split at h
 .rename_i i j;cases b;cases a;exact⟨i,j,rfl,rfl,h H (.refl H) _<|d i j _ _ _⟩
 .exact h.elim
def ni:D->D->R D:=iB (λ_ _=>true) λi j=>.int (i - j)
def Ve:lh X E (binaryOp .Sub) ni:=zP Vd λ_ _ _ _ _=>.int _
def Dh(i j:Int):i6:=decide (bits i<=1048576)&&decide (bits j<=1048576)
def vH(_ j:Int):i6:=decide (j≠0)&&decide (bits j<=9000)
def Jg(i j:Int):i6:=decide (0<=j)&&decide (j<=1000000)&&decide (i.natAbs<2^64)
def kx:D->D->R D:=iB vH λi j=>.int (i.fdiv j)
def UP:lh X E (binaryOp .FloorDiv) kx:=Dr UO (λi j h=>by unfold vH at h;simpa [EF]using h) λ_ _ _ _ _=>.int _
def jJ:D->D->R D:=iB (λ_ j=>decide<|j≠0) λi j=>.int (i.fmod j)
def U3:lh X E (binaryOp .Mod) jJ:=Dr U4 (λi j h=>by simpa using h) λ_ _ _ _ _=>.int _
def zX:D->D->R D:=iB Jg λi j=>.int (i^j.toNat)
def Vc:lh X E (binaryOp .Pow) zX:=Dr Vb (λi j h=>by unfold Jg at h;simp only[aS,bx]at h;exact⟨h.1.1,h.1.2,h.2⟩) λ_ _ _ _ _=>.int _
def mQ:D->D->R D:=iB (λ_ _=>true) λi j=>.bl (decide<|i<j)
def xf:D->D->R D:=iB (λ_ _=>true) λi j=>.bl (decide<|i<=j)
def sQ:D->D->R D:=iB (λ_ _=>true) λi j=>.bl (decide<|j<i)
def U2:lh X E (compareOp .Lt) mQ:=zP U1 λ_ _ _ _ _=>.bl _
def U0:lh X E (compareOp .LtE) xf:=zP UZ λ_ _ _ _ _=>.bl _
def UR:lh X E (compareOp .Gt) sQ:=zP UQ λ_ _ _ _ _=>.bl _
def vF:D->R D
 |.int i=>.ok (.int<|-i)
 |_=>.bad
def aay:Fm X E (unaryOp .USub) vF:=by
 refine⟨_,aax,λ{_ H _ _ _} fr a h=>?_⟩;unfold vF at h;split at h;.cases a;exact⟨_,rfl,h H (.refl H) _<|.int _⟩
 .exact h.elim
def yo(K:i9)(H:Hp)(a:iR)(b:aa V):Prop:=Rd H a (.lst b)\/KL K a b
def yo.is{s}(I:Inv X pins v H s)(h:yo X.K H a xs):∃b n,Vals xs b/\s.heap.get? a=some {cls:=.type "list",data:=.seq b.toArray n}:=by
 rcases h with h|⟨b,n,h1,h2,h3⟩
 .obtain⟨z,b,n,r,e⟩:=h.ok I.hok
  grind
 .exact⟨b,n,h3,I.mj a _ h1⟩
def XY(K:i9):R2:=λx y H Q=>∃l b c a,x=.ref l/\y=.ref b/\yo K H l c/\yo K H b a/\c.length+a.length<=sizeLine/\∀p,H p=none->Q (.ref p) (upd H p<|.lst<|c++a)
def Jm:kI X (binaryOp .Add) (XY X.K):=by
 intro f s t H x y v u Q I i g h;obtain⟨l,b,z,w,rfl,rfl,k,m,B,q⟩:=h;cases i;cases g;obtain⟨c,n,r,e⟩:=k.is I;obtain⟨a,A,d,p⟩:=m.is I;have C:=r.length;have j:=d.length;refine PySem.P.add_list e p ?_ (by rw[aP,aP];simp_all);have o:c.toArray++a.toArray=(c++a).toArray:=by simp
 rw[o];exact⟨.ref _,_,I.SK (t':=s.toks) (r.append d)<|by rw[ag];omega,rfl,q _ I.fresh⟩
noncomputable def jV:D->D->R D
 |.int i,.int j=>.ok (.int<|i+j)
 |.str i,.str j=>if i.length+j.length<=sizeLine then .ok (.str<|i++j)else .bad
 |.lst xs,.lst a=>if xs.length+a.length<=sizeLine then .ok (.lst<|xs++a)else .bad
 |_,_=>.bad
def UJ:lh X E (binaryOp .Add) jV:=by
 refine⟨_,xv UI<|xv UK Jm,λ{_ H _ _ _ _ _} fr d c h=>?_⟩;unfold jV at h;split at h;.cases d;cases c;exact .inl ⟨_,_,rfl,rfl,h H (.refl H) _<|.int _⟩
 .cases d;cases c;split at h;.rename_i z;exact .inr (.inl ⟨_,_,rfl,rfl,z,h H (.refl H) _<|.str _⟩)
  .exact h.elim
 .split at h
  .rename_i z;obtain⟨a,j,rfl,l,g⟩:=d.zz;obtain⟨b,i,rfl,k,f⟩:=c.zz;exact .inr (.inr ⟨a,b,j,i,rfl,rfl,l,k,by rw[g.length,f.length];exact z,λp e=>h _ (lV e) _ ((g.append f).rK e (fr p e))⟩)
  .exact h.elim
 .exact h.elim
noncomputable def Di(x:iS)(n:Int):i6:=!(decide (n< -(2^63:Int))||decide (n≥2^63))&&decide (x.length*n.toNat<=1000000)&&decide (x.length<=1000000)&&decide (n<=1000000)
def U8:kI X (binaryOp .Mult) (λx y H Q=>∃i n,x=.str i/\y=.int n/\MulOk i n/\Q (.str<|Txt.mul i n) H):=by intro a s f H x y v u Q I d c h;obtain⟨i,j,rfl,rfl,e,q⟩:=h;obtain⟨t,rfl⟩:=d;obtain⟨g,rfl⟩:=c;exact SB.mul e λb k=>⟨.str _,H,I.tok _,⟨_,rfl⟩,q⟩
def mulOk_of{n}(h:Di x n=true):MulOk x n:=by
 unfold Di at h;simp only[aS,bx,eK]at h;obtain⟨⟨⟨a,g⟩,f⟩,e⟩:=h;refine⟨a,λd _=>?_,λ_ _=>?_⟩
 .have c:(1:Int)<=n:=by simp_all
  have b:(1000000:Int)<=(2^63 - 1)/n:=by
   apply(Int.le_ediv_iff_mul_le<|by walk_at "l").mpr
   lia
  lia
 .have:sizeLine=16777216:=dc;unfold Builtin.Str.tooLong;simp only[eE]
  lia
noncomputable def wU:D->D->i0 i6
 |.non,.non=>some true
 |.int i,.int j=>some (decide<|i=j)
 |.str i,.str j=>some (decide<|i=j)
 |.bl i,.bl j=>some (decide<|i=j)
 |.non,.int _=>some false
 |.int _,.non=>some false
 |.non,.str _=>some false
 |.str _,.non=>some false
 |.non,.bl _=>some false
 |.bl _,.non=>some false
 |.int _,.str _=>some false
 |.str _,.int _=>some false
 |_,_=>none
def jm(x y:D):R D:=match wU x y with
 |some b=>.ok (.bl b)
 |none=>.bad
def uq(x y:D):R D:=match wU x y with
 |some b=>.ok (.bl<|!b)
 |none=>.bad
def GY{K}(c:Rep K al H x dx)(a:Rep K al H y dy)(h:wU dx dy=some b):D3 x y=true/\decide (x=y)=b:=by
 have f:∀{x i},Rep K al H x (.int i)->x=.int i:=λr=>by cases r;rfl
 have d:∀{x i},Rep K al H x (.str i)->x=.str i:=λr=>by cases r;rfl
 have g:∀{x i},Rep K al H x (.bl i)->x=.bl i:=λr=>by cases r;rfl
 have e:∀{x},Rep K al H x .non->x=.non:=λr=>by cases r;rfl
 cases dx<;>first|(cases h;done)|(cases dy<;>first|(cases h;done)|((first|cases f c|cases d c|cases g c|cases e c)<;>(first|cases f a|cases d a|cases g a|cases e a)<;>(cases h;exact⟨rfl,by simp⟩)))
def UN:lh X E (compareOp .Eq) jm:=by
 refine⟨_,UM,λ{_ H _ _ g f _} fr c a h=>?_⟩;unfold jm at h;cases q:wU g f with
 |none=>rw[q]at h;exact h.elim
 |some b=>rw[q]at h;obtain⟨e,d⟩:=GY c a q;exact⟨e,by rw[d];exact h H (.refl H) _ (.bl b)⟩
def Va:lh X E (compareOp .NotEq) uq:=by
 refine⟨_,U9,λ{_ H _ _ g f _} fr c a h=>?_⟩;unfold uq at h;cases q:wU g f with
 |none=>rw[q]at h;exact h.elim
 |some b=>rw[q]at h;obtain⟨e,d⟩:=GY c a q;exact⟨e,by rw[d];exact h H (.refl H) _ (.bl _)⟩
def CF:D->D->R D
 |.str i,.str j=>.ok (.bl<|Txt.contains j i)
 |_,_=>.bad
def UT:lh X E (compareOp .In) CF:=by
 refine⟨_,UU,λ{_ H _ _ _ _ _} fr b a h=>?_⟩;unfold CF at h;split at h;.cases b;cases a;exact⟨_,_,rfl,rfl,h H (.refl H) _<|.bl _⟩
 .exact h.elim
def ja.jO{K}(r:ja K al H vs ds){d}(h:L2.jO ds i=some d):∃v,L2.jO vs i=some v/\Rep K al H v d:=by
 unfold L2.jO at h⊢;rw[r.length];cases q:qO ds.length i with
 |none=>simp_all
 |some j=>rw[q]at h;exact r.getD h
noncomputable def jq:D->D->R D
 |.lst ds,.int i=>match L2.jO ds i with
  |some d=>.ok d
  |none=>.bad
 |.tup ds,.int i=>match L2.jO ds i with
  |some d=>.ok d
  |none=>.bad
 |.str z,.int i=>if z.length<=sizeLine then(match L2.jO z.cps.toList i with
  |some c=>.ok (.str ⟨#[c]⟩)
  |none=>.bad)else .bad
 |_,_=>.bad
abbrev iN(i:Nat)(k:Int):jx:=d2 jq (dV i) (iP k)
def CN:AM X E jq:=by
 refine⟨_,RO,λ{_ H _ _ _ _ _} fr f e h=>?_⟩;unfold jq at h;split at h
 .rename_i m i;cases e;cases q:L2.jO m i with
  |none=>rw[q]at h;exact h.elim
  |some d=>rw[q]at h;obtain⟨a,b,rfl,j,g⟩:=f.oU;obtain⟨v,l,k⟩:=ja.jO g q;exact .inl ⟨a,b,i,v,rfl,rfl,j,l,h H (.refl H) _ k⟩
 .rename_i m i;cases e;cases q:L2.jO m i with
  |none=>rw[q]at h;exact h.elim
  |some d=>rw[q]at h;obtain⟨a,b,rfl,j,g⟩:=f.o4;obtain⟨v,l,k⟩:=ja.jO g q;exact .inr (.inl ⟨a,b,i,v,rfl,rfl,j,l,h H (.refl H) _ k⟩)
 .rename_i z i;cases f;cases e;split at h
  .rename_i n;cases q:L2.jO z.cps.toList i with
   |none=>rw[q]at h;exact h.elim
   |some c=>rw[q]at h;exact .inr (.inr ⟨z,i,c,rfl,rfl,n,q,h H (.refl H) _<|.str _⟩)
  .exact h.elim
 .exact h.elim
def ab4(i){x:iS}{k j}{p c b}(hN:autoParam (X.N[i]?=some x) aZ0)(hv:autoParam (pT X.env.scope x) aZ4)(d:autoParam ((x==("__debug__":iS))=false) aZ1)(a:autoParam ((x==("__classdict__":iS))=false) aZ1):DE X E (.Subscript (.Name x p) (.Constant (.int k) j c) b) (iN i k):=Gh CN (tY i hN hv d a) wQ
def X6:V->i0 Int->i0 Int->Hp->VK->Prop:=λx lo a H Q=>∃z,x=.str z/\z.length<=sizeLine/\Q (.str<|Txt.slice z lo a) H
def YR:rh X X6:=by
 intro m s w H x v A y lo C B Q I n r p g h;obtain⟨z,rfl,a,q⟩:=h;obtain⟨t,rfl⟩:=n;refine⟨"str",_,PySem.F.slot_str_getitem.lookup,typeIs_str s z t,?_⟩;obtain⟨o,d,c,b⟩:=r;cases p with
 |none=>
  cases g with
  |none=>exact dq (l:=none) (u:=none) (st:=none) ⟨o,d,c,b⟩ rfl (fQ ⟨aW (gU z none none) a,λe k=>⟨.str _,H,I.tok _,⟨_,rfl⟩,q⟩⟩)
  |int j u=>exact dq (l:=none) (u:=some (j,u)) (st:=none) ⟨o,d,c,b⟩ rfl (fQ ⟨aW (gU z none<|some j) a,λe k=>⟨.str _,H,I.tok _,⟨_,rfl⟩,q⟩⟩)
 |int i f=>
  cases g with
  |none=>exact dq (l:=some (i,f)) (u:=none) (st:=none) ⟨o,d,c,b⟩ rfl (fQ ⟨aW (gU z (some i) none) a,λe k=>⟨.str _,H,I.tok _,⟨_,rfl⟩,q⟩⟩)
  |int j u=>exact dq (l:=some (i,f)) (u:=some (j,u)) (st:=none) ⟨o,d,c,b⟩ rfl (fQ ⟨aW (gU z (some i)<|some j) a,λe k=>⟨.str _,H,I.tok _,⟨_,rfl⟩,q⟩⟩)
def cutD(a:jD)(lo b:tM):aa D:=(a.drop<|HT.jH a.length 0 lo).take (HT.jH a.length a.length b - HT.jH a.length 0 lo)
def ja.cut{K}(r:ja K al H vs ds)(lo hi):ja K al H (sM vs lo hi) (cutD ds lo hi):=by unfold sM cutD;rw[r.length];exact(r.drop _).take _
def D7:D->i0 Int->i0 Int->R D
 |.lst ds,lo,a=>.ok (.lst<|cutD ds lo a)
 |.str z,lo,a=>if z.length<=sizeLine then .ok (.str<|Txt.slice z lo a)else .bad
 |_,_,_=>.bad
def YO:Bf X E D7:=by
 refine⟨_,YQ.or YR,λ{_ H _ _ lo f _} fr c h=>?_⟩;unfold D7 at h;split at h
 .obtain⟨a,d,rfl,i,g⟩:=c.oU;exact .inl ⟨a,d,rfl,i,λp b=>h _ (lV b) _<|(g.cut lo f).rK b (fr p b)⟩
 .cases c;split at h;.rename_i e;exact .inr ⟨_,rfl,e,h H (.refl H) _<|.str _⟩
  .exact h.elim
 .exact h.elim
noncomputable def l7:jg
 |[.str z]=>if z.length<=sizeLine then .ok (.int z.length)else .bad
 |[.lst ds]=>.ok (.int ds.length)
 |[.tup ds]=>.ok (.int ds.length)
 |_=>.bad
def ja.one{K d}(r:ja K al H vs [d]):∃v,vs=[v]/\Rep K al H v d:=by
 cases r with
 |cons a b=>cases b;exact⟨_,rfl,a⟩
def ja.two{K d}(r:ja K al H vs [d,e]):∃v u,vs=[v,u]/\Rep K al H v d/\Rep K al H u e:=by
 cases r with
 |cons a b=>obtain⟨u,rfl,q⟩:=ja.one b;exact⟨_,_,rfl,a,q⟩
def MS:tq X E (.builtin "len") l7:=by
 refine⟨_,MU.or MT,λ{_ H _ _ _} fr r h=>?_⟩;unfold l7 at h;split at h
 .obtain⟨v,rfl,q⟩:=ja.one r;cases q;split at h;.rename_i e;exact .inl ⟨_,rfl,e,h H (.refl H) _<|.int _⟩
  .exact h.elim
 .obtain⟨v,rfl,q⟩:=ja.one r;obtain⟨a,b,rfl,d,c⟩:=q.oU;exact .inr ⟨a,b,rfl,.inl d,by rw[c.length];exact h H (.refl H) _ (.int _)⟩
 .obtain⟨v,rfl,q⟩:=ja.one r;obtain⟨a,b,rfl,d,c⟩:=q.o4;exact .inr ⟨a,b,rfl,.inr d,by rw[c.length];exact h H (.refl H) _ (.int _)⟩
 .exact h.elim
noncomputable def ot:jg
 |[.int i]=>.ok (.int<|if i<0 then -i else i)
 |_=>.bad
def ML:tq X E (.builtin "abs") ot:=by
 refine⟨_,MK,λ{_ H _ _ _} fr r h=>?_⟩;unfold ot at h;split at h
 .obtain⟨v,rfl,q⟩:=ja.one r;cases q;exact⟨_,rfl,h H (.refl H) _<|.int _⟩
 .exact h.elim
end
def wE(K:i9)(E:XK)(f:jx):TE:=λe H Q=>∃P g a b,RS K P g a H e b/\Aft K a E H (f b) (λd c=>∀v,Rep K a c v d->Q v c)
def wT(K:i9)(E:XK)(f:lI):TT:=λc H Q=>∃P d b a,RS K P d b H c a/\Aft K b E H (f a) Q
def wG(K:i9)(l:lC)(a:qC):TG:=λv f H Q=>∃P h e g d,RS K P h e H f g/\Rep K e H v d/\∃c,a d g=some c/\∀b,Kp l f b->RS K P h e H b c->Q b H
def DE.w{X E e f}(h:DE X E e f):PE X e (wE X.K E f):=by obtain⟨t,p,r⟩:=h;intro b s c H Q I g;obtain⟨P,k,j,i,d,a⟩:=g;exact p b s c H Q I (r d a)
def DT.w{X E e f}(h:DT X E e f):PT X e (wT X.K E f):=by obtain⟨t,p,r⟩:=h;intro b s c H Q I g;obtain⟨P,k,j,i,d,a⟩:=g;exact p b s c H Q I (r d a)
def DG.w{X c l a}(h:DG X c l a):PG X c (wG X.K l a):=by obtain⟨t,p,r⟩:=h;intro b s e H v u Q I g j;obtain⟨P,n,m,k,d,f,i,a⟩:=j;exact p b s e H v u Q I g (r f i a)
def tr(X:Cx)(a:kK)(f:lI):Prop:=PF X a (wT X.K (λ_ _ _=>False) f)
def Gn:tr X [] (λ_=>.ok true):=λb s c H Q I h=>by obtain⟨P,g,f,d,e,a⟩:=h;exact JF b s c H Q I (a H<|.refl H)
def NQ(h:DT X (λ_ _ _=>False) c f):tr X [c] f:=JG h.w
noncomputable def rB(b:Nat)(c:lC)(a:Ev):Ev:=List.replicate b .no++c.map λi=>match a[i]? with
 |some (.sh d)=>.sh d
 |_=>.no
def rN{b:Type}:R b->i0 b
 |.ok a=>some a
 |_=>none
def vG{b:Type}:i0 b->R b
 |some a=>.ok a
 |none=>.bad
noncomputable def mP(a:qC)(c:lI)(e:jx)(f:Ev):aa D->i0 (aa D)
 |[]=>some []
 |d::r=>(a d f).bind λg=>(rN<|c g).bind λb=>if b=true then(rN<|e g).bind λv=>(mP a c e f r).bind λh=>some (v::h)else mP a c e f r
def kW(g:l0)(f:Nat)(h:lC)(a:qC)(c:lI)(e:jx):Ev->R (aa D):=λb=>(g b).bind λd=>if d.length<=sizeLine then vG (mP a c e (rB f h b) d)else .bad
def Jf{a}(h:rN r=some a):r=.ok a:=by
 cases r with
 |ok x=>cases h;rfl
 |_=>cases h
def Yl{K}(s:RS K P H0 al H1 u r)(x:Xt al H1 kh H2)(g:kU K H1 H2)(fr:∀a,H2 a=none->kh a)(sub:∀a,kh a->al a)(tn ci):
    RS K al H1 kh H2 (mX tn ci u) (rB tn ci r) where
 same:=g
 tt:=g.tt s.tt
 fresh:=fr
 sub:=sub
 pf:=s.fresh
 len:=by unfold mX rB;simp
 sh:=λj d h=>by
  unfold rB at h;by_cases c:j<tn;.rw[aw<|by simpa using c,bM,aq c]at h;cases h
  .rw[aK<|by simpa using c,c7,aC]at h;cases q:ci[j - tn]? with
   |none=>rw[q]at h;cases h
   |some i=>
    rw[q]at h;have f:(match r[i]? with|some (.sh d)=>Sl.sh d|_=>.no)=.sh d:=Option.some.inj h;cases z:r[i]? with
    |none=>rw[z]at f;cases f
    |some y=>
     rw[z]at f;cases y with
     |sh e=>cases f;obtain⟨v,m,l⟩:=s.sh i d z;refine⟨v,?_,l.mv x⟩;unfold mX;rw[aK<|by simpa using c,c7,aC,q];show some ((u[i]?).getD none)=_;rw[m];rfl
     |_=>cases f
 ow:=λj d h=>by
  unfold rB at h;by_cases c:j<tn;.rw[aw<|by simpa using c,bM,aq c]at h;cases h
  .rw[aK<|by simpa using c,c7,aC]at h;cases q:ci[j - tn]? with
   |none=>rw[q]at h;cases h
   |some i=>rw[q]at h;have f:(match r[i]? with|some (.sh d)=>Sl.sh d|_=>.no)=.ow d:=Option.some.inj h;split at f<;>cases f
 apart:=λj k d n b h _ _ _=>by
  exfalso;unfold rB at h;by_cases c:j<tn;.rw[aw<|by simpa using c,bM,aq c]at h;cases h
  .rw[aK<|by simpa using c,c7,aC]at h;cases q:ci[j - tn]? with
   |none=>rw[q]at h;cases h
   |some i=>rw[q]at h;have f:(match r[i]? with|some (.sh d)=>Sl.sh d|_=>.no)=.ow d:=Option.some.inj h;split at f<;>cases f
variable{X:Cx}{E:XK}{F B M:jf}{L:kK}{A:Scope}{U:Pos}{S:l0}{a:qC}{O:lI}{N:jx}{cl:tL}{tn:Nat}{Nt Nc:jy}{ci l:lC}
structure ts(X:Cx)(E:XK)(e:jf)(f:l0):Prop where
 w_::
 o_:∃t:TE,PE X e t/\yk X e t/\
 ∀{P H0 al H v r} {Q:VK},RS X.K P H0 al H v r->Aft X.K al E H (f r) (λds H'=>∀p vs,H' p=none->ja X.K al H' vs ds->Q (.ref p) (upd H' p<|.lst vs))->t v H Q
def ts.dn(h:ts X E e f):DN X E e f:=let⟨t,p,_,r⟩:=h;⟨t,p,r⟩
def Gz(Y:X.calm=true)(hi:DI X E F B S)(hg:∀I k r C,DG (X.comp A (Nt++Nc) cl I k r C) F l a)(hl:∀j∈l,j<tn)(hf:∀I k r C,tr (X.comp A (Nt++Nc) cl I k r C) L O)
 (he:∀I k r C,DE (X.comp A (Nt++Nc) cl I k r C) (λ_ _ _=>False) M N)
 (T:closureFor A X.env=pure cl)(Q:A.kind=.function)(V:qh A)(H:qP A)(qM:nH X cl Nc ci)(zm:Nt.length=tn)
 (hsub:∀x c,cl.lookup x=some c->X.env.cells.lookup x=some c)(hhas:∀x,((relabel A X.env).names.lookup x=some .cell\/(relabel A X.env).names.lookup x=some .free)->∃c,cl.lookup x=some c)
 (rE:∀x∈Nc,(relabel A X.env).names.lookup x=some .cell\/(relabel A X.env).names.lookup x=some .free)
 (hs:∀x,foldedSetIterable B X.env x=pure x):ts X E (.ListComp M [⟨F,B,L,0⟩] A U) (kW S tn ci a O N):=by
  obtain⟨wi,pi,ri⟩:=hi;refine⟨_,Dw (te:=wE X.K (λ_ _ _=>False) N) (tc:=wT X.K (λ_ _ _=>False) O) (g:=wG X.K l a) Y pi (λI k r C=>(hg I k r C).w) hf (λI k r C=>(he I k r C).w) T Q V H qM zm hsub hhas rE hs,J2 (te:=wE X.K (λ_ _ _=>False) N) (tc:=wT X.K (λ_ _ _=>False) O) (g:=wG X.K l a) Y pi (λI k r C=>(hg I k r C).w) hf (λI k r C=>(he I k r C).w) T Q V H qM zm hsub hhas rE hs,λ{_ _ al _ _ ρ _} s h=>ri s<|Aft.mono (Aft.split h) λ{K H1} s1 h1 J wk=>?_⟩;intro p hp;by_cases hz:K.length<=sizeLine
  .rw[aq hz]at h1;cases q:mP a O N (rB tn ci ρ) K with
   |none=>rw[q]at h1;exact h1.elim
   |some out=>
    rw[q]at h1;have s2:=s.grow s1
    let f:iR->Prop:=λb=>al b/\b≠p
    refine⟨λi m G=>∃e rest d,out=e++rest/\mP a O N (rB tn ci ρ) (K.drop i)=some rest/\G p=some (.lst d)/\ja X.K f G d e/\kU X.K H1 G/\(∀b,G b=none->f b)/\m=K.length - i/\i<=K.length/\e.length<=i,⟨_,[],out,[],rfl,q,j7,.nil,lV hp,λb W=>?_,rfl,bI _,af _⟩,?_⟩
    .have z:b≠p:=λw=>by rw[w,j7]at W;cases W
     rw[jw z]at W;exact⟨s2.fresh b W,z⟩
    .rintro i m G ⟨e,rest,d,e1,e2,e3,e4,Z,e6,rfl,e7,e8⟩ _
     have LI:Xt al H1 f G:=λb o n W w=>⟨⟨W,nQ w hp⟩,Z.at' _ _ n w⟩;obtain⟨w1,w2⟩:=wk f G LI e6;by_cases hi:i<K.length
     .right;have ed:K[i]?=some K[i]:=ax hi;obtain⟨go,yl⟩:=w1 i _ ed;refine⟨go,λx r y=>?_⟩;obtain⟨rfl,rx⟩:=yl x r y;rw[bV hi]at e2;unfold mP at e2;obtain⟨ED,a1,a2⟩:=aL.mp e2;obtain⟨b,a3,a4⟩:=aL.mp a2;refine⟨al,H1,f,rB tn ci ρ,K[i],Yl s2 LI Z e6 (λ_ z=>z.1) tn ci,rx,ED,a1,λσ2 kp k=>⟨⟨?_,λj hj=>kp.2 j λw=>absurd (hl j w)<|by lia⟩,al,H1,f,ED,k,?_⟩⟩;.rw[kp.1,wK]
      .rw[Jf a3];intro H5 P;cases b with
       |false=>rw[aA av]at a4⊢;exact⟨K.length - (i+1),by grind,e,rest,d,e1,a4,P.at' _ _ nc e3,e4.up P,Z.trans P,λb W=>e6 b<|P.free W,rfl,hi,by walk_at "l"⟩
       |true=>
        rw[aq rfl]at a4⊢;obtain⟨v,a5,a6⟩:=aL.mp a4;obtain⟨vs,a7,a8⟩:=aL.mp a6;cases a8;refine⟨al,H1,f,ED,k.grow P,?_⟩;rw[Jf a5];intro H6 s6 u ru;have BK:=s6.at' _ _ nc (P.at' _ _ nc e3);have x6:Xt f H6 f (upd H6 p (.lst (d++[u]))):=λc o _ Y w=>⟨Y,by rw[jw Y.2];exact w⟩;refine⟨d,BK,by rw[e4.length];lia,K.length - (i+1),by grind,e++[v],vs,d++[u],by rw[e1];simp,a7,j7,((((e4.up P).up s6).append (.cons ru .nil)).mv x6),?_,λc Y=>?_,rfl,hi,by rw[ag];simp;omega⟩
        .exact⟨λc o n w=>by
          rw[jw<|nQ w hp];exact s6.at' _ _ n (P.at' _ _ n<|Z.at' _ _ n w),λc w=>by
          by_cases z:c=p;· rw[z];exact hp
          · rw[jw z]at w;exact Z.fr c (P.fr c (s6.fr c w)),λt=>(s6.tt (P.tt (Z.tt t))).upd (zA BK).1 (zA BK).2⟩
        .have z:c≠p:=λw=>by rw[w,j7]at Y;cases Y
         rw[jw z]at Y;exact e6 c (P.free<|s6.free Y)
     .left;have ei:i=K.length:=by lia
      rw[cm<|by simp_all]at e2;cases e2;rw[aU]at e1;subst e1;refine⟨w2 i<|by simp_all,?_⟩
      let H':Hp:=λb=>if b=p then none else G b
      have hH:upd H' p (.lst d)=G:=by
       funext b;by_cases z:b=p;.subst z;rw[j7,e3]
       .rw[jw z];show(if b=p then none else G b)=_;rw[aA z]
      have sm:kU X.K H1 H':=⟨λb o n w=>by
       show(if b=p then none else G b)=_;rw[aA<|nQ w hp];exact Z.at' _ _ n w,λb w=>by
       by_cases z:b=p;· rw[z];exact hp
       · have w':(if b=p then none else G b)=none:=w;rw[aA z]at w';exact Z.fr b w',λt=>(Z.tt t).off (zA e3).1 (zA e3).2 λb z=>by show(if b=p then none else G b)=_;rw[aA z]⟩
      rw[<-hH];refine h1 H' sm p d (by show(if p=p then none else G p)=_;rw[aq rfl]) (e4.mv λb o _ W w=>⟨W.1,?_⟩);show(if b=p then none else G b)=_;rw[aA W.2];exact w
  .rw[aA hz]at h1;exact h1.elim
def N6(u:X.calm=true)(r:DI X E F B S)(s:∀i h m C,DG (X.comp A Nt [] i h m C) F l a)(q:∀j∈l,j<tn)(hf:∀i h m C,tr (X.comp A Nt [] i h m C) L O)
 (t:∀i h m C,DE (X.comp A Nt [] i h m C) (λ_ _ _=>False) M N)
 (b:∀y∈A.names,y.2≠.free)(g:A.kind=.function)(d:qh A)(f:qP A)(o:Nt.length=tn)
 (p:autoParam (∀x,foldedSetIterable B X.env x=pure x) aZ2):ts X E (.ListComp M [⟨F,B,L,0⟩] A U) (kW S tn [] a O N):=by
  have e:relabel A X.env=A:=by
   have:A.names.map (λ(n,k)=>if(k==NameKind.free&&X.env.scope.kind==.function&&X.env.kindOf n==some .cell)then(n,NameKind.cell)else(n,k))=A.names:=by
    refine map_eq_self λy v=>?_
    grind
   unfold relabel;rw[this]
  refine Gz (cl:=[]) (Nc:=[]) (ci:=[]) u r (by rw[aU];exact s) q (by rw[aU];exact hf) (by rw[aU];exact t) (closureFor_none b) g d f .nil o (λx c z=>nomatch z) (λx z=>?_) (λx z=>nomatch z) p;rw[e]at z;rcases z with z|z;.exact absurd rfl (d _<|bz z)
  .exact absurd rfl (b _<|bz z)
def N0(q:X.calm=true)(n:DI X E F B S)(o:∀g f h C,DG (X.comp A Nt [] g f h C) F l a)(m:∀j∈l,j<tn)(hf:∀g f h C,tr (X.comp A Nt [] g f h C) L O)
    (p:∀g f h C,DE (X.comp A Nt [] g f h C) (λ_ _ _=>False) M N)
    (d:∀y∈A.names,y.2≠.free)(c:A.kind=.function)(e:qh A)(b:qP A)(i:Nt.length=tn)
    (k:autoParam (∀x,foldedSetIterable B X.env x=pure x) aZ2):DN X E (.ListComp M [⟨F,B,L,0⟩] A U) (kW S tn [] a O N):=(N6 q n o m hf p d c e b i k).dn
def yf(x:iS):It:=⟨λi _=>i<x.cps.size,λi H v b=>b=H/\∃c,x.cps[i]?=some c/\v=.str ⟨#[c]⟩,λi _=>x.cps.size<=i⟩
def aar{w K F}(x t it):Turn P w K F (yf x) [it] it (λi h=>h.IsStrIter it "str_ascii_iterator" x t i) where
 mem:=by simp
 obj:=λi h g b n=>by
  have e:b=it:=by simpa using n
  subst e;obtain⟨o,e,c,d⟩:=g;exact⟨o,e,λv z=>by rw[d]at z;cases z⟩
 keep:=λi h q g k=>let⟨o,ho,r⟩:=g;⟨o,k it (by simp) o ho,r⟩
 item:=by intro X C u G f i m s Y H E I hf g y;subst C u G;obtain⟨W,V,f2,T,Q,J⟩:=hf it (by simp);have j:i<x.cps.size:=y;refine wpAny_pyNext_ascii_item g (c:=x.cps[i]) (by simp[j]) λq p Z=>?_;have I1:Inv X m Y H {s with heap:=q,toks:=s.toks+1}:=I.turned (λb o n e=>(Z.2 b n).trans e) W V T Q J;obtain⟨o,e,c,d⟩:=id p;exact⟨_,rfl,vu (s:={s with heap:=q,toks:=s.toks+1}) e c d (by decide) ⟨.str ⟨#[x.cps[i]]⟩,H,I1,⟨_,rfl⟩,⟨rfl,x.cps[i],by simp[j],rfl⟩,p,λb n=>(hf b n).1⟩⟩
 done:=by intro X C u G f i m s Y H E I hf g y;subst C u G;obtain⟨W,V,f2,T,Q,J⟩:=hf it (by simp);have j:x.cps.size<=i:=y;exact wpAny_pyNext_ascii_end (I.ok.hd f) g (by simp[j]) λq eb=>⟨rfl,I.turned (t':=s.toks) (λb o n e=>eb b o n e) W V T Q J⟩
 self:=λ_ _ _ _ _ g h=>wpAny_pyIter_striter_ascii g h
def aav{w K F}(x t it):Turn P w K F (yf x) [it] it (λi h=>h.IsStrIter it "str_iterator" x t i) where
 mem:=by simp
 obj:=λi h g b n=>by
  have e:b=it:=by simpa using n
  subst e;obtain⟨o,e,c,d⟩:=g;exact⟨o,e,λv z=>by rw[d]at z;cases z⟩
 keep:=λi h q g k=>let⟨o,ho,r⟩:=g;⟨o,k it (by simp) o ho,r⟩
 item:=by intro X C u G f i m s Y H E I hf g y;subst C u G;obtain⟨W,V,f2,T,Q,J⟩:=hf it (by simp);have j:i<x.cps.size:=y;refine wpAny_pyNext_wide_item g (c:=x.cps[i]) (by simp[j]) λq p Z=>?_;have I1:Inv X m Y H {s with heap:=q,toks:=s.toks+1}:=I.turned (λb o n e=>(Z.2 b n).trans e) W V T Q J;obtain⟨o,e,c,d⟩:=id p;exact⟨_,rfl,vu (s:={s with heap:=q,toks:=s.toks+1}) e c d (by decide) ⟨.str ⟨#[x.cps[i]]⟩,H,I1,⟨_,rfl⟩,⟨rfl,x.cps[i],by simp[j],rfl⟩,p,λb n=>(hf b n).1⟩⟩
 done:=by intro X C u G f i m s Y H E I hf g y;subst C u G;obtain⟨W,V,f2,T,Q,J⟩:=hf it (by simp);have j:x.cps.size<=i:=y;exact wpAny_pyNext_wide_end (I.ok.hd f) g (by simp[j]) λq eb=>⟨rfl,I.turned (t':=s.toks) (λb o n e=>eb b o n e) W V T Q J⟩
 self:=λ_ _ _ _ _ g h=>wpAny_pyIter_striter_wide g h
variable{e:jf}{f:jx}
def Rn(c:TE):TI:=λb H R=>c b H λx d=>∃z,x=.str z/\R (yf z) d
def Wq{l}(u:PE X l tl):PI X F l (Rn tl):=by
 intro d s n H R I h;refine je (u d s n H _ I h) λv c i=>?_;obtain⟨x,j,g,p,r⟩:=i;obtain⟨z,e,q⟩:=r;subst e;obtain⟨t,rfl⟩:=p;have m:∀b∈[c.heap.objs.size],sy X d j b:=λb w=>by
  have e:b=c.heap.objs.size:=by simpa using w
  subst e;exact g.vo (af _) (g.hok.fresh<|af _)
 cases k:z.cps.all (· <128)with
 |true=>refine wpAny_pyIter_ascii k ?_;exact⟨c.heap.objs.size,[c.heap.objs.size],_,_,j,rfl,g.kept (t':=c.toks) λb o e=>ai _ e,aar z t _,⟨_,aJ _ rfl,rfl,rfl⟩,m,q⟩
 |false=>refine wpAny_pyIter_wide k ?_;exact⟨c.heap.objs.size,[c.heap.objs.size],_,_,j,rfl,g.kept (t':=c.toks) λb o e=>ai _ e,aav z t _,⟨_,aJ _ rfl,rfl,rfl⟩,m,q⟩
def signs(z:iS):aa D:=z.cps.toList.map λc=>.str ⟨#[c]⟩
def aaG{K}:Wk K al H (yf z) (signs z):=by
 intro j n x fr;refine⟨λi d h=>?_,λi h=>?_⟩
 .unfold signs at h;rw[aC,bg]at h;cases q:z.cps[i]? with
  |none=>simp_all
  |some c=>rw[q]at h;cases h;refine⟨(bw.mp q).1,λy k w=>⟨w.1,?_⟩⟩;obtain⟨m,b,g⟩:=w.2;rw[q]at b;cases b;subst g;exact .str _
 .unfold signs at h;show z.cps.size<=i;simpa using h
def jT(d:D):R (aa D):=match d with
 |.lst ds=>.ok ds
 |.tup ds=>.ok ds
 |.str z=>.ok (signs z)
 |_=>.bad
def Gq(u:DE X E e f):DI X E F e (λj=>(f j).bind jT):=by
 obtain⟨t,p,r⟩:=u;refine⟨_,JK (DF p)<|JK (Wr p)<|Wq p,λ{_ _ _ _ _ j _} s h=>?_⟩
 (try dsimp only at h)
 cases q:f j with
 |bad=>rw[q]at h;exact h.elim
 |ex c x o=>rw[q]at h;exact .inl (r s<|by rw[q];exact h)
 |ok d=>
  rw[q]at h;cases d with
  |lst o=>left;refine r s ?_;rw[q];intro i g v b;obtain⟨a,k,n,m,w⟩:=b.oU;subst n;exact⟨a,rfl,⟨k,m⟩,h i g _<|LD b⟩
  |tup o=>right;left;refine r s ?_;rw[q];intro i g v b;obtain⟨a,k,n,m,w⟩:=b.o4;subst n;exact⟨a,rfl,⟨k,m⟩,h i g _<|aaH b⟩
  |str z=>right;right;refine r s ?_;rw[q];intro i g v b;cases b;exact⟨z,rfl,h i g _ aaG⟩
  |_=>exact(h:False).elim
def tyName:D->i0 String
 |.non=>some "NoneType"
 |.bl _=>some "bool"
 |.int _=>some "int"
 |.str _=>some "str"
 |.lst _=>some "list"
 |.tup _=>some "tuple"
 |_=>none
def vE:aa String:=["NoneType","bool","int","str","list","tuple"]
def Sr(K):∀T∈vE,∀n∈vE,W.kitOne K (.type T) (.type n)=some (T==n||(T=="bool"&&n=="int")):=by intro T hT n b;simp only[vE,aI,cH,fZ]at hT b;rcases hT with rfl|rfl|rfl|rfl|rfl|rfl<;>rcases b with rfl|rfl|rfl|rfl|rfl|rfl<;>first|rfl|kernel_rfl
noncomputable def isD:jg
 |[d,.ty n]=>match tyName d with
  |some T=>if vE.contains n then .ok (.bl<|T==n||(T=="bool"&&n=="int"))else .bad
  |none=>.bad
 |_=>.bad
def X1(X:Cx):aa V->Hp->VK->Prop:=λd H Q=>∃x n T,d=[x,.ty n]/\vE.contains T=true/\vE.contains n=true/\
 ((x=.non/\T="NoneType")\/(∃b,x=.bl b/\T="bool")\/(∃i,x=.int i/\T="int")\/(∃z,x=.str z/\T="str")\/(∃a c,x=.ref a/\lH X.K H a c/\T="list")\/(∃a c,x=.ref a/\mJ X.K H a c/\T="tuple"))/\Q (.bl<|T==n||(T=="bool"&&n=="int")) H
def MO:ny X (.builtin "isinstance") (X1 X):=by
 intro j s C H Y Z Q I r h;obtain⟨x,n,T,rfl,P,K,V,q⟩:=h;obtain⟨u,c,rfl,g,J⟩:=vals2 r;cases J;have e:=Sr X.K T (by simpa using P) n (by simpa using K);have d:∀tk,EP X j C Q (.bool<|T==n||(T=="bool"&&n=="int")) {s with toks:=tk}:=λtk=>⟨.bl _,H,I.tok tk,rfl,q⟩;rcases V with⟨rfl,rfl⟩|⟨b,rfl,rfl⟩|⟨i,rfl,rfl⟩|⟨z,rfl,rfl⟩|⟨a,G,rfl,v,rfl⟩|⟨a,G,rfl,v,rfl⟩;.cases g;exact fV W.kitx_none I.mj True.intro e (λz=>nomatch z) d
 .cases g;exact fV W.kitx_bool I.mj True.intro e (λz=>nomatch z) d
 .obtain⟨t,rfl⟩:=g;exact fV W.kitx_int I.mj True.intro e (λz=>nomatch z) d
 .obtain⟨t,rfl⟩:=g;exact fV W.kitx_str I.mj True.intro e (λz=>nomatch z) d
 .cases g;obtain⟨p,_,m,_⟩:=I.list v;obtain⟨o,k,y,w,_⟩:=m;exact fV W.kitx_list I.mj ⟨o,y,w⟩ e (λz=>nomatch z) d
 .cases g;obtain⟨p,_,m,_⟩:=I.tuple v;obtain⟨o,y,w,_⟩:=m;exact fV W.kitx_tuple I.mj ⟨o,y,w⟩ e (λz=>nomatch z) d
def MR:tq X E (.builtin "isinstance") isD:=by
 refine⟨_,MO,λ{_ H _ _ _} fr r h=>?_⟩;unfold isD at h;split at h
 .rename_i d n;obtain⟨v,u,rfl,q,i⟩:=ja.two r;cases i;cases e:tyName d with
  |none=>rw[e]at h;exact h.elim
  |some T=>
   rw[e]at h;dsimp only at h;split at h
   .rename_i g;have c:=h H (.refl H) _ (.bl _);cases q with
    |non=>cases e;exact⟨_,n,_,rfl,rfl,g,.inl ⟨rfl,rfl⟩,c⟩
    |bl b=>cases e;exact⟨_,n,_,rfl,rfl,g,.inr<|.inl ⟨b,rfl,rfl⟩,c⟩
    |int b=>cases e;exact⟨_,n,_,rfl,rfl,g,.inr<|.inr<|.inl ⟨b,rfl,rfl⟩,c⟩
    |str b=>cases e;exact⟨_,n,_,rfl,rfl,g,.inr<|.inr<|.inr<|.inl ⟨b,rfl,rfl⟩,c⟩
    |lst p _=>cases e;exact⟨_,n,_,rfl,rfl,g,.inr<|.inr<|.inr<|.inr<|.inl ⟨_,_,rfl,p.elim (λz=>.inl z.2) KL.sq,rfl⟩,c⟩
    |tup p _=>cases e;exact⟨_,n,_,rfl,rfl,g,.inr<|.inr<|.inr<|.inr<|.inr ⟨_,_,rfl,p.elim (λz=>.inl<|.inl z.2) .inr,rfl⟩,c⟩
    |_=>cases e
   .exact h.elim
 .exact h.elim
def By:bootBuiltins "isinstance"=some (.builtin "isinstance"):=by decide+kernel
def Bz:bootBuiltins "len"=some (.builtin "len"):=by decide+kernel
def Bv:bootBuiltins "abs"=some (.builtin "abs"):=by decide+kernel
def Bx:bootBuiltins "int"=some (.type "int"):=by decide+kernel
def Bw:bootBuiltins "bool"=some (.type "bool"):=by decide+kernel
def BA:bootBuiltins "str"=some (.type "str"):=by decide+kernel
def BB:bootBuiltins "tuple"=some (.type "tuple"):=by decide+kernel
def yK:bootBuiltins "list"=some (.type "list"):=by decide+kernel
end P2
namespace Fx
open PySem
variable{c:jE}{w:jz}{A:jY}{E:j0}{h:jb}{g:jZ GenState}{d:Drawn}{t:Nat}{f:OsState}
variable{l q:iS}{C N:iR}{bs e B:kn}{b:i6}{j:jy}{sub:kn}{z:i6}{i:i0 i6}{dd:mf}{y v r p m:yA}{a:String}
def Nf{o}{R:uY}(hC:h.get? C=some (excClassObj l q C N bs e b j sub z i dd y v r p m a))(k:e.contains (.type "object")=true)
 (u:h.get? x=some o)(D:o.cls=.ref C)(F:R (.ok<|.ret<|.ref C) ⟨h,g,d,t,f⟩):
   codeAny (model c w) A (.call (.builtin "getset_descriptor.__get__") ⟨[.builtin "object.__class__",.ref x,.ref C],[]⟩) R ⟨h,g,d,t,f⟩:=by
  have s:(⟨h,g,d,t,f⟩:i7).TypeIs (.builtin "object.__class__") "getset_descriptor":=dN;have ow:".".intercalate ("object.__class__".cutAt '.').dropLast="object":=by decide+kernel
  have n:(Value.ref C::e).contains (.type<|".".intercalate ("object.__class__".cutAt '.').dropLast)=true:=by rw[ow,f3,k,Bool.or_true]
  refine fL PySem.F.slot_gs_get.plain PySem.F.entry_gs_get (PySem.F.slot_gs_get.check _ _ _ _ _ _ _ _ s (PySem.F.args_gs_get _ _ _) ?_);repeat(any_goals(first|assumption|(with_reducible refine dO u ?_;rw[D])|(with_reducible refine wpAny_isSubtype_exc hC ?_;rw[n])|wp_step))
  refine⟨Code.quiet_builtin _<|by decide+kernel,cq PySem.F.entry_object_class ?_⟩;repeat(any_goals(first|assumption|(with_reducible refine dO u ?_;rw[D])|wp_step))
def Nd{o}{Q:Fin->i7->Prop}(hC:h.get? C=some (excClassObj l q C N bs e b j sub z i dd y v r p m a))(k:e.contains (.type "object")=true)
 (u:sD h C "__class__"<|some<|.builtin "object.__class__")(n:h.get? x=some o)(s:o.cls=.ref C)(F:Q (.done<|.ret<|.ref C) ⟨h,g,d,t,f⟩):
   wpAny (model c w) A (Builtin.«object.__getattribute__» ⟨[.ref x,.str "__class__" tk],[]⟩) Q E ⟨h,g,d,t,f⟩:=by
  have D:(⟨h,g,d,t,f⟩:i7).TypeIs (.builtin "object.__class__") "getset_descriptor":=dN;have I:=dN;have H:=PySem.F.slot_gs_get.lookup;have G:=PySem.F.slot_gs_set.lookup;repeat(any_goals(first|assumption|(with_reducible refine dO n ?_;rw[s])|with_reducible refine u _ _ _ _ _ _ _ _ ?_|wp_step))
  refine Nf hC k n s ?_;repeat(any_goals(first|assumption|wp_step))
def MZ{o}{Q:uZ}(hC:h.get? C=some (excClassObj l q C N bs e b j sub z i dd y v r p m a))
 (n:e.contains (.type "BaseException")=true)(u:h.get? x=some o)(G:o.cls=.ref C)(D:Q () ⟨h,g,d,t,f⟩):wpAny M A (checkBuiltinCall "BaseException.__getattribute__" ⟨[.ref x,nv],[]⟩) Q E ⟨h,g,d,t,f⟩:=by
  have F:builtinKind "BaseException.__getattribute__"=some .slot:=by decide+kernel
  have k:splitId "BaseException.__getattribute__"=some ("BaseException","__getattribute__"):=by decide+kernel
  have s:(Value.ref C::e).contains (.type "BaseException")=true:=by rw[f3,n,Bool.or_true]
  have H:=PySem.F.args_bexc_ga (.ref x) nv;simp only[checkBuiltinCall,F,k];refine ae ?_;unfold isInstance;repeat(first|(with_reducible refine dO u ?_;rw[G])|(with_reducible refine wpAny_isSubtype_exc hC ?_;rw[s])|wp_step)
  exact D
def Nb{o}{Q:j0}(hC:h.get? C=some (excClassObj l q C N bs e b j sub z i dd y v r p m a))(H:e.contains (.type "BaseException")=true)(n:e.contains (.type "object")=true)
 (G:sD h C "__getattribute__"<|some<|.builtin "BaseException.__getattribute__")(F:sD h C "__getattr__" none)(D:sD h C "__class__"<|some<|.builtin "object.__class__")(k:h.get? x=some o)(s:o.cls=.ref C)(J:Q (.ref C) ⟨h,g,d,t,f⟩):
   wpAny (model c w) A (getAttrBy (.ref x) (.str "__class__" tk) false) Q E ⟨h,g,d,t,f⟩:=by
  have u:=PySem.F.attr_ValueError;have K:=u.ga.bind (.ref x);have z2:(Value.builtin "BaseException.__getattribute__"==Value.builtin "object.__getattribute__")=false:=by decide+kernel
  have I:(onTheHeap (Value.ref C)&&Value.builtin "BaseException.__getattribute__"==Value.builtin "object.__getattribute__")=false:=by rw[z2];rfl
  repeat(any_goals(first|assumption|(with_reducible refine dO k ?_;rw[s])|with_reducible refine G _ _ _ _ _ _ _ _ ?_|with_reducible refine F _ _ _ _ _ _ _ _ ?_|wp_step))
  refine fL u.ga.plain PySem.F.entry_bexc_ga (MZ hC H k s<|Nd hC n D k s ?_);repeat(any_goals(first|assumption|wp_step))
def Na{o}{Q:sE}(hC:h.get? C=some (excClassObj l q C N bs e b j sub z i dd y v r p m a))(G:e.contains (.type "BaseException")=true)(k:e.contains (.type "object")=true)
 (u:sD h C "__getattribute__"<|some<|.builtin "BaseException.__getattribute__")(s:sD h C "__getattr__" none)(n:sD h C "__class__"<|some<|.builtin "object.__class__")(D:h.get? x=some o)(F:o.cls=.ref C)(H:Q (some<|.ref C) ⟨h,g,d,t+1,f⟩):
   wpAny (model c w) A (getAttr? (.ref x) "__class__") Q E ⟨h,g,d,t,f⟩:=by
  unfold getAttr? getAttrBy?;repeat(any_goals(first|assumption|with_reducible apply Nb hC G k u s n D F|wp_step))
end Fx
namespace L2
open PySem PySem.Spec PyProof.Rows
structure yC(K:i9)(C:iR):Prop where
 ob:∀h:jb,K.In h->∃nm q N bs bm Qq sn sub ab col dd k0 k1 k2 k3 k5 newId,h.get? C=some (excClassObj nm q C N bs bm Qq sn sub ab col dd k0 k1 k2 k3 k5 newId)/\bm.contains (.type "BaseException")=true/\bm.contains (.type "object")=true
 ga:W.findIn K (.ref C) "__getattribute__"=some (some<|.builtin "BaseException.__getattribute__")
 gn:W.findIn K (.ref C) "__getattr__"=some none
 cl:W.findIn K (.ref C) "__class__"=some (some<|.builtin "object.__class__")
structure Fp(K:i9)(C:iR):Prop where
 cls:W.excIn K C [.type "ValueError",.type "Exception",.type "BaseException",.type "object"] "ValueError.__new__"=true
 kp:W.keepIn K (.ref C)=true
 ga:W.findIn K (.ref C) "__getattribute__"=some (some<|.builtin "BaseException.__getattribute__")
 gn:W.findIn K (.ref C) "__getattr__"=some none
 cl:W.findIn K (.ref C) "__class__"=some (some<|.builtin "object.__class__")
def Ss{K:i9}{x C:iR}(c:yC K C):W.KitX K (.ref x) (.ref C) (λh=>∃o,h.get? x=some o/\o.cls=.ref C) where
 ty:=λM h k p=>by obtain⟨o,j,i⟩:=p;exact i▸(W.Looks.ld j).andThen .now
 it:=λM h k p=>by obtain⟨u,q,N,bs,H,a,m,sub,I,b,dd,G,F,D,B,y,v,hC,_⟩:=c.ob h k;intro A' Y Z V O L;unfold isType loadHead;exact ae (wpAny_loadPart (O _ _ hC)<|ah L)
 ne:=λh J dd P n U k f=>by obtain⟨u,q,N,bs,H,a,m,sub,I,b,l,G,F,D,B,y,v,hC,_⟩:=c.ob h k;refine Bool.eq_false_iff.mpr λz=>?_;have e:C=J:=Value.ref.inj (dP.mp z);subst e;have z:=bG Obj.cls (Option.some.inj<|hC.symm.trans f);have z2:Value.type "type"=Value.type "tuple":=z;exact absurd (Value.type.inj z2) (by decide)
 ca:=λ{r w A E Q s} k p R=>by obtain⟨o,j,i⟩:=p;obtain⟨u,q,N,bs,H,a,m,sub,I,b,l,G,F,D,B,y,v,hC,T,S⟩:=c.ob _ k;obtain⟨h,g,d,t,X⟩:=s;exact Fx.Na hC T S (Ek k c.ga) (Ek k c.gn) (Ek k c.cl) j i R
variable{X:Cx}
def MP:ny X (.builtin "isinstance") (λg H Q=>∃a c d f u b,g=[.ref a,f]/\H a=some (yT a c d)/\yC X.K c/\(∀z,RelV f z->z=u)/\W.kitOne X.K (.ref c) u=some b/\Q (.bl b) H):=by intro i s v H g x Q I r h;obtain⟨a,c,d,f,u,b,rfl,o,j,un,e,q⟩:=h;obtain⟨y,k,rfl,m,l⟩:=vals2 r;cases un k l;cases m;obtain⟨⟨n,w,t,p,B,A⟩,_,_⟩:=I.hok a _ o;exact fV (Ss j) I.mj ⟨n,t,p⟩ e (λz=>nomatch z) λtk=>⟨.bl b,H,I.tok tk,rfl,q⟩
end L2
namespace P2
open PySem L2 PySem.Spec
open PyProof.Rows hiding St
section
variable{X:Cx}{E:XK}{x:iS}{e:Pos}
def MY(h:ny X f r)(i:ny X f r'):ny X f (λb H Q=>r b H Q\/r' b H Q):=
 λa s c H b d Q I g q=>q.elim (h a s c H b d Q I g) (i a s c H b d Q I g)
def F4:D->i0 iT
 |.ref C=>some (.ref C)
 |.ty T=>some (.type T)
 |_=>none
noncomputable def pB(q:iR->iT->i0 i6)(a:jD):R D:=match a with
 |[.exc c _ _,d]=>(match(F4 d).bind (q c)with
  |some b=>.ok (.bl b)
  |none=>.bad)
 |a=>isD a
def yc(K:i9)(q:iR->iT->i0 i6):Prop:=∀c u b,q c u=some b->yC K c/\W.kitOne K (.ref c) u=some b
def MQ(s:yc X.K q):tq X E (.builtin "isinstance") (pB q):=by
 obtain⟨D,A,t⟩:=MR (X:=X) (E:=E);refine⟨_,MY MP A,λ{M H B L Q} fr r h=>?_⟩;unfold pB at h;split at h
 .rename_i c J K d;obtain⟨v,u,rfl,p,f⟩:=ja.two r;left;cases z:(F4 d).bind (q c)with
  |none=>rw[z]at h;exact h.elim
  |some b=>
   rw[z]at h;have o:=h H (.refl H) _ (.bl _);obtain⟨w,g,z2⟩:=aL.mp z;obtain⟨l,n⟩:=s _ _ _ z2;have i:∃a j,v=.ref a/\H a=some (yT a c j):=by
    cases p with
    |exc m f I G F=>exact⟨_,_,rfl,f⟩
    |GQ m f=>exact⟨_,_,rfl,f⟩
   obtain⟨a,j,rfl,i⟩:=i;refine⟨a,c,j,u,w,b,rfl,i,l,λy k=>?_,n,o⟩;cases f with
   |ref C=>cases g;exact k
   |ty T=>cases g;exact k
   |_=>cases g
 .exact .inr (t fr r h)
mutual
def nS:D->i0 PyData
 |.non=>some .none
 |.bl b=>some (.bool b)
 |.int i=>some (.int i)
 |.str z=>some (.str z)
 |.tup ds=>(l8 ds).map .tuple
 |.lst ds=>(l8 ds).map .list
 |_=>none
def l8:aa D->i0 (aa PyData)
 |[]=>some []
 |d::a=>(nS d).bind λp=>(l8 a).map (p:: ·)
end
def xC{s}(I:Inv X pins Y H s){v d u p}(r:Rep X.K al H v d):RelV v u->nS d=some p->∃f,Reads s.heap u p f:=by
 revert u p;refine Rep.rec (motive_1:=λv d _=>∀{u p},RelV v u->nS d=some p->∃f,Reads s.heap u p f) (motive_2:=λg j _=>∀{k h},Vals g k->l8 j=some h->∃f,ReadsAll s.heap k h f) ?_ ?_ ?_ ?_ ?_ ?_ ?_ ?_ ?_ ?_ ?_ ?_ r;.intro u p r e;cases r;cases e;exact⟨_,.none⟩
 .intro b u p r e;cases r;cases e;exact⟨_,.bool _⟩
 .intro b u p r e;obtain⟨t,rfl⟩:=r;cases e;exact⟨_,.int _ _⟩
 .intro b u p r e;obtain⟨t,rfl⟩:=r;cases e;exact⟨_,.str _ _⟩
 .intro b u p r e;cases e
 .intro b u p r e;cases e
 .intro a g j z _ A u p r e;cases r;have D:(l8 _).map PyData.tuple=some _:=e;obtain⟨h,i,rfl⟩:=ay.mp D;have l:mJ X.K H _ g:=z.elim (λz=>.inl<|.inl z.2) .inr;obtain⟨q,m,⟨o,C,B,n,E⟩,_⟩:=I.tuple l;obtain⟨f,w⟩:=A m i;exact⟨f,reads_tuple_at C B E<|by simpa using w⟩
 .intro a g j z _ A u p r e;cases r;have D:(l8 _).map PyData.list=some _:=e;obtain⟨h,i,rfl⟩:=ay.mp D;have l:lH X.K H _ g:=z.elim (λz=>.inl z.2) KL.sq;obtain⟨q,m,⟨o,n,C,B,E,L⟩,_⟩:=I.list l;obtain⟨f,w⟩:=A m i;exact⟨_,reads_list_at C B L<|by simpa using w⟩
 .intro a c Q P g j _ _ _ _ _ _ u p r e;cases e
 .intro a c _ _ u p r e;cases e
 .intro k h r e;cases r;cases e;exact⟨_,.nil⟩
 .intro v d g j _ _ y x k h r e;cases r with
  |cons K J=>obtain⟨O,i,N⟩:=aL.mp e;obtain⟨h,M,rfl⟩:=ay.mp N;obtain⟨f,G⟩:=y K i;obtain⟨bs,F⟩:=x J M;exact⟨_,.cons G F⟩
noncomputable def rC(a b:D):i0 i6:=(nS a).bind λp=>(nS b).bind λq=>if(SeqAt.shaped p&&SeqAt.shaped q)=true then some (PyData.eqv p q)else none
def oz(a b:D):R D:=match rC a b with
 |some r=>.ok (.bl r)
 |none=>.bad
def qi(a b:D):R D:=match rC a b with
 |some r=>.ok (.bl<|!r)
 |none=>.bad
def GP{c:kv}{h:L2.St}{H:Hp}{s:i7}(I:Inv X c h H s){g:ko}{x y:V}{a b:D}{u v:iT}{r:i6}(n:Rep X.K g H x a)(m:Rep X.K g H y b)(l:RelV x u)(k:RelV y v)(e:rC a b=some r):
    ∃p q f bs,Reads s.heap u p f/\Reads s.heap v q bs/\SeqAt.shaped p=true/\SeqAt.shaped q=true/\PyData.eqv p q=r:=by
 obtain⟨p,w,t⟩:=aL.mp e;obtain⟨q,o,d⟩:=aL.mp t;split at d
 .rename_i z;rw[aS]at z;obtain⟨f,j⟩:=xC I n l w;obtain⟨bs,i⟩:=xC I m k o;exact⟨p,q,f,bs,j,i,z.1,z.2,Option.some.inj d⟩
 .cases d
def Dq(o:X.A.units+64<cLine):lh X E (compareOp .Eq) oz:=by
 refine⟨λx y H Q=>∃c a b r,Rep X.K c H x a/\Rep X.K c H y b/\rC a b=some r/\Q (.bl r) H,λf s B H x y v u Q I e d h=>?_,λ{c H _ _ i g _} fr e d h=>?_⟩
 .obtain⟨c,a,b,r,A,z,w,t⟩:=h;obtain⟨p,q,C,bs,n,m,l,k,j⟩:=GP I A z e d w;exact eq_dataH n m l k o (by rw[j];exact⟨.bl r,H,I,rfl,t⟩)
 .unfold oz at h;cases q:rC i g with
  |none=>rw[q]at h;exact h.elim
  |some r=>rw[q]at h;exact⟨c,i,g,r,e,d,q,h H (.refl H) _<|.bl r⟩
def Jo(o:X.A.units+64<cLine):lh X E (compareOp .NotEq) qi:=by
 refine⟨λx y H Q=>∃c a b r,Rep X.K c H x a/\Rep X.K c H y b/\rC a b=some r/\Q (.bl<|!r) H,λf s B H x y v u Q I e d h=>?_,λ{c H _ _ i g _} fr e d h=>?_⟩
 .obtain⟨c,a,b,r,A,z,w,t⟩:=h;obtain⟨p,q,C,bs,n,m,l,k,j⟩:=GP I A z e d w;exact ne_dataH n m l k o (by rw[j];exact⟨.bl (!r),H,I,rfl,t⟩)
 .unfold qi at h;cases q:rC i g with
  |none=>rw[q]at h;exact h.elim
  |some r=>rw[q]at h;exact⟨c,i,g,r,e,d,q,h H (.refl H) _<|.bl<|!r⟩
end
open PySem.Builtin PySem.Builtin.Str
open PyProof.Rows hiding St
variable{X:Cx}{E:XK}
def zL(i j:Int):i6:=(decide (-18446744073709551616<i)&&decide (i<18446744073709551616))||(decide (-18446744073709551616<j)&&decide (j<18446744073709551616))
end P2
namespace P2
open PySem L2 PySem.Spec
open PyProof.Rows hiding St
def zQ{g:qv}{P:jE}{w:jz}{K:i9}{h:km}{d:jb}{N:jy}{c:iS}{b:Scope}{f:iR}{i:iT}{A:jY}{a:mL}{s:i7}{H:Hp}{E:XK}:
    PassesOwn (model (kC g P w K h d N c b f i A a s H E).prog (kC g P w K h d N c b f i A a s H E).w) (kC g P w K h d N c b f i A a s H E).A (kC g P w K h d N c b f i A a s H E).env (kC g P w K h d N c b f i A a s H E).xe:=
 PassesOwn.leaving (Q₁:=λe j=>g a H s E e j)
section
variable{X:Cx}{E:XK}{e a b c C:jf}{f B A m:jx}{l:Pos}
def Ab(i j:Nat)(fs:l0):jI:=λd=>toS (fs d) λg=>match g with
 |[d1,d2]=>if i<d.length/\j<d.length then .nx ((d.set i<|.sh d1).set j (.sh d2))else .bad
 |_=>.bad
def GC{fs pt n o d}(i j)(L:X.calm=true)(hN:X.N.Nodup)(K:X.N[i]?=some x)(J:X.N[j]?=some y)(q:i≠j)
 (G:X.env.scope.names.lookup x=some .local)(F:X.env.scope.names.lookup y=some .local)(M:DA X E [a,b] fs)
 (H:autoParam (swappedStores [.Tuple [.Name x px,.Name y py] n pt] (.Tuple [a,b] o d) X.env=pure (some [x,y])) aZ0)
 (I:autoParam (swapsWithSole [.Tuple [.Name x px,.Name y py] n pt] (.Tuple [a,b] o d) l.line X.env=pure false) aZ0):
   DS X E (.Assign [.Tuple [.Name x px,.Name y py] n pt] (.Tuple [a,b] o d) l) (Ab i j fs):=by
  obtain⟨t,p,r,_⟩:=M;refine⟨_,WJ L hN K J q G F p H I,λ{_ _ N _ _ _ _} s h=>r s<|Aft.mono (k6.sU h s) λ{_ O} u g P v=>?_⟩;split at g
  .rename_i d1 d2;cases v with
   |cons D k=>
    cases k with
    |cons k w=>
     cases w;split at g
     .rename_i z;exact⟨_,_,rfl,g N O _ .refl (((s.grow u).set z.1 D).set (by rw[aN];exact z.2) k)⟩
     .exact g.elim
  .exact g.elim
def wN(g h:qD)(B A m:jx):jx:=λd=>(B d).bind λx=>(A d).bind λy=>(g x y).bind λz=>match z with
 |.bl true=>(m d).bind λw=>h y w
 |.bl false=>.ok (.bl false)
 |_=>.bad
def Om{g}(M:lh X E (compareOp op) g)(n:lh X E (compareOp xq) g')(Q:DE X E a B)(P:DE X E b A)(O:DE X E c m)
 (N:lastMarks [op,xq] [b,c]=false:=by with_unfolding_all rfl):DT X E (.Compare a [op,xq] [b,c] l) (b1 tB<|wN g g' B A m):=by
  obtain⟨r1,L,d1⟩:=M;obtain⟨r2,K,d2⟩:=n;obtain⟨ta,J,F⟩:=Q;obtain⟨Z,I,D⟩:=P;obtain⟨Y,H,y⟩:=O;refine⟨_,WN L K J I H N,λs h=>F s<|Aft.mono (Aft.split<|Aft.split h) λq U v x=>D (s.grow q)<|Aft.mono (Aft.split U) λp T u t=>?_⟩;have i:=(s.grow q).grow p;refine d1 i.fresh (x.up p) t (Aft.mono (Aft.split T) λ{z w} j d V r=>?_);split at d
  .cases r;refine⟨true,rfl,?_⟩;rw[aq rfl];exact y (i.grow j) (Aft.mono (Aft.split d) λo S wv k=>d2 ((i.grow j).grow o).fresh (t.up<|j.trans o) k (Aft.mono S λs5 R W G=>vQ G R))
  .cases r;refine⟨false,rfl,?_⟩;rw[aA<|by decide];exact vQ (.bl false) (d w<|.refl w)
  .exact d.elim
noncomputable def Ac:D->D->i0 i6
 |.non,.non=>some true
 |.bl a,.bl b=>some (a==b)
 |.bl _,.non=>some false
 |.int _,.non=>some false
 |.str _,.non=>some false
 |.tup _,.non=>some false
 |.lst _,.non=>some false
 |_,_=>none
def zu(x y:D):R D:=match Ac x y with
 |some b=>.ok (.bl<|!b)
 |none=>.bad
def Yy{K:i9}{g:ko}{H:Hp}{x y:V}{p o:D}{b:i6}(k:Rep K g H x p)(h:Rep K g H y o)(q:Ac p o=some b):(y=.non/\decide (x=.non)=b)\/∃i j,x=.bl i/\y=.bl j/\(i==j)=b:=by
 have n:∀{y},Rep K g H y .non->y=.non:=λr=>by cases r;rfl
 have s:∀{x i},Rep K g H x (.bl i)->x=.bl i:=λr=>by cases r;rfl
 have ne:∀{d},d≠.non->Rep K g H x d->x≠.non:=λt r e=>by subst e;cases r;exact t rfl
 unfold Ac at q;split at q<;>first|(cases q;done)|skip
 .cases q;exact .inl ⟨n h,aR<|n k⟩
 .cases q;exact .inr ⟨_,_,s k,s h,rfl⟩
 all_goals(cases q;exact .inl ⟨n h,aG<|ne (by nofun) k⟩)
def UX:lh X E (compareOp .IsNot) zu:=by
 refine⟨_,xv Jp UY,λ{_ H _ _ s r _} fr o n h=>?_⟩;unfold zu at h;cases q:Ac s r with
 |none=>rw[q]at h;exact h.elim
 |some b=>
  rw[q]at h;have k:=h H (.refl H) _ (.bl _);rcases Yy o n q with⟨g,d⟩|⟨i,j,g,d,p⟩;.exact .inl ⟨g,by rw[d];exact k⟩
  .exact .inr ⟨i,j,g,d,by unfold bne;rw[p];exact k⟩
noncomputable def qV:D->i0 Int->i0 Int->R D
 |.tup ds,lo,g=>if¬(HT.jH ds.length 0 lo=0/\HT.jH ds.length ds.length g=ds.length)then .ok (.tup<|cutD ds lo g)else .bad
 |d,lo,g=>D7 d lo g
def YP:Bf X E qV:=by
 obtain⟨r,k,q⟩:=YO (X:=X) (E:=E);refine⟨_,YS.or k,λ{_ _ _ _ lo n _} fr g h=>?_⟩;unfold qV at h;split at h
 .obtain⟨a,j,rfl,o,i⟩:=g.o4;split at h
  .rename_i z;exact .inl ⟨a,j,rfl,o,by rw[i.length];exact z,λp d=>h _ (lV d) _ ((i.cut lo n).Em d (fr p d))⟩
  .exact h.elim
 .exact .inr (q fr g h)
def C1:jg
 |[.lst ds]=>.ok (.lst ds)
 |[.tup ds]=>.ok (.lst ds)
 |_=>.bad
def MV:tq X E (.type "list") C1:=by
 refine⟨_,FV,λfr r h=>?_⟩;unfold C1 at h;split at h
 .obtain⟨v,rfl,q⟩:=ja.one r;obtain⟨a,g,rfl,j,i⟩:=q.oU;exact⟨a,g,rfl,.inl j,λp d=>h _ (lV d) _<|i.rK d<|fr p d⟩
 .obtain⟨v,rfl,q⟩:=ja.one r;obtain⟨a,g,rfl,j,i⟩:=q.o4;exact⟨a,g,rfl,.inr j,λp d=>h _ (lV d) _<|i.rK d<|fr p d⟩
 .exact h.elim
structure AJ(X:Cx)(E:XK)(op:Operator)(g:qD):Prop where
 w_::
 o_:∃t:yq,yj X op t/\
 ∀{al H x y dx dy} {Q:VK},(∀a,H a=none->al a)->Rep X.K al H x dx->Rep X.K al H y dy->Aft X.K al E H (g dx dy) (λd H'=>∀v,Rep X.K al H' v d->Q v H')->t x y H Q
def Bn:D->D->R D
 |.int i,.int j=>.ok (.int<|i+j)
 |_,_=>.bad
def Bo:D->D->R D
 |.int i,.int j=>.ok (.int<|i - j)
 |_,_=>.bad
def Ry:AJ X E .Add Bn:=by
 refine⟨_,Rx,λ{_ H _ _ _ _ _} fr g d h=>?_⟩;unfold Bn at h;split at h;.cases g;cases d;exact⟨_,_,rfl,rfl,h H (.refl H) _<|.int _⟩
 .exact h.elim
def RB:AJ X E .Sub Bo:=by
 refine⟨_,Rz,λ{_ H _ _ _ _ _} fr g d h=>?_⟩;unfold Bo at h;split at h;.cases g;cases d;exact⟨_,_,rfl,rfl,h H (.refl H) _<|.int _⟩
 .exact h.elim
end
variable{X:Cx}{E:XK}
noncomputable def vx(x:D)(b:jD):i0 i6:=(nS x).bind λp=>(l8 b).bind λa=>if(PyData.canLayAll0 a&&PyData.canLay0 p&&decide (p.depth<=63))=true then some (a.any λy=>PyData.eqv y p)else none
def pZ(x y:D):R D:=match y with
 |.lst a=>(match vx x a with
  |some b=>.ok (.bl b)
  |none=>.bad)
 |.tup a=>(match vx x a with
  |some b=>.ok (.bl b)
  |none=>.bad)
 |_=>CF x y
def Qn{s}(I:Inv X pins r H s)(q:X.A.units+64<cLine){d u}(m:Rep X.K al H x d)(f:Rep X.K al H y (.lst ys)\/Rep X.K al H y (.tup ys))(l:RelV x u)(j:RelV y v)(e:vx d ys=some b):
    ∃p a c bs,(Reads s.heap v (.list a) c\/Reads s.heap v (.tuple a) c)/\Reads s.heap u p bs/\PyData.canLayAll0 a=true/\PyData.canLay0 p=true/\X.A.units+1+min (PyData.depthAll a) p.depth<cLine/\(a.any λy=>PyData.eqv y p)=b:=by
 obtain⟨p,o,n⟩:=aL.mp e;obtain⟨a,k,g⟩:=aL.mp n;split at g
 .rename_i z;simp only[aS,bx]at z;obtain⟨bs,i⟩:=xC I m l o;have:=Nat.min_le_right (PyData.depthAll a) p.depth;rcases f with f|f
  .obtain⟨c,h⟩:=xC (p:=.list a) I f j (show(l8 ys).map PyData.list=some _ by rw[k];rfl);exact⟨p,a,c,bs,.inl h,i,z.1.1,z.1.2,by lia,Option.some.inj g⟩
  .obtain⟨c,h⟩:=xC (p:=.tuple a) I f j (show(l8 ys).map PyData.tuple=some _ by rw[k];rfl);exact⟨p,a,c,bs,.inr h,i,z.1.1,z.1.2,by lia,Option.some.inj g⟩
 .cases g
def US(A:X.A.units+64<cLine):lh X E (compareOp .In) pZ:=by
 obtain⟨w,z,F⟩:=UT (X:=X) (E:=E);refine⟨λx y H Q=>(∃c d a b,Rep X.K c H x d/\(Rep X.K c H y (.lst a)\/Rep X.K c H y (.tup a))/\vx d a=some b/\Q (.bl b) H)\/w x y H Q,λi s t H x y v u Q I f e h=>?_,λ{c H x y j _ Q} fr f e h=>?_⟩
 .rcases h with⟨c,d,a,b,D,C,B,r⟩|h
  .obtain⟨p,G,J,bs,g,o,n,m,l,k⟩:=Qn I A D C f e B;rcases g with g|g;.exact SeqAt.in_list_reads g o n m l (by rw[k];exact⟨.bl b,H,I,rfl,r⟩)
   .exact SeqAt.in_tuple_reads g o n m l (by rw[k];exact⟨.bl b,H,I,rfl,r⟩)
  .exact z i s t H x y v u Q I f e h
 .unfold pZ at h;split at h
  .rename_i a;cases q:vx j a with
   |none=>rw[q]at h;exact h.elim
   |some b=>rw[q]at h;exact .inl ⟨c,j,a,b,f,.inl e,q,h H (.refl H) _<|.bl b⟩
  .rename_i a;cases q:vx j a with
   |none=>rw[q]at h;exact h.elim
   |some b=>rw[q]at h;exact .inl ⟨c,j,a,b,f,.inr e,q,h H (.refl H) _<|.bl b⟩
  .exact .inr (F fr f e h)
variable{a b:jf}{L J:jx}{F:Pos}
def BE(x y:D):R (aa D):=match x,y with
 |.lst xs,.lst c=>if xs.length+c.length<=sizeLine then .ok (xs++c)else .bad
 |_,_=>.bad
end P2
namespace TM
open PySem PySem.NumText PySem.StrLaws Builtin Builtin.Str
def vh(x:iS):aa Nat:=x.cps.toList
def FY(x y):vh (x++y)=vh x++vh y:=by show(x.cps++y.cps).toList=x.cps.toList++y.cps.toList;simp
def CZ(x:iS):x.length=(vh x).length:=by simp[Str.length,vh]
end TM
namespace P2
open PySem L2
def bits_le{i:Int}{k}(h:i.natAbs<2^k):bits i<=k:=intBits_le_iff.mpr h
section
variable{v H:Type}{a:v}{c:iR}{K:jy}{S:jD}{k:v->RT}{h:v->R H}{e:Ev}{g u:jI}{f F E:jx}{p C:lI}{fs:l0}{i j:Int}{x y:iS}{b U:i6}{l J:jD}{d:D}{n m:Nat}{A I:qD}{B:D->R D}{z:jg}{M:D->jg}
variable{t:String}{N:Bg}{P O:Ev->R (i0 Int)}{T:lC}{q:qC}{lo L:tM}{Q:iS->jx}
def Kb:(R.ok a).bind h=h a:=rfl
def XH:toS (R.ok a) k=k a:=rfl
def XB:oa (.nx e) g=g e:=rfl
def XC:oa (.rt d) g=.rt d:=rfl
def Kg:turnT (.nx e) g=g e:=rfl
def Xb:ky (.rt d)=.ok d:=rfl
def Xz:jW g u e=oa (g e) u:=rfl
def Xw:n9 e=.nx e:=rfl
def Xy:ku f e=toS (f e) .rt:=rfl
def XA:lF n f e=toS (f e) λd=>if n<e.length then .nx (e.set n<|.sh d)else .bad:=rfl
def Xv:n8 p g u e=toS (p e) λk=>if k=true then g e else u e:=rfl
def W8:dC d e=.ok d:=rfl
def W5:d1 B f e=(f e).bind B:=rfl
def W6:d2 A F E e=(F e).bind λx=>(E e).bind λy=>A x y:=rfl
def WZ:b1 P2.tB f e=(f e).bind P2.tB:=rfl
def W0:b1 tT f e=(f e).bind tT:=rfl
def W4:nX p C e=(p e).bind λc=>if c=true then .ok true else C e:=rfl
def W2:qI p e=(p e).bind λc=>.ok (!c):=rfl
def W7:dA z fs e=(fs e).bind z:=rfl
def WU:iQ e=.ok []:=rfl
def WT:iK f fs e=(f e).bind λx=>(fs e).bind λo=>.ok (x::o):=rfl
def WY:jt fs e=(fs e).bind λl=>.ok (.lst l):=rfl
def Xu:uB fs q g e=toS (fs e) λl=>mi q g l e:=rfl
def Xe:mi q g (d::l) e=toO (q d e) λo=>turnT (g o) (mi q g l):=rfl
def XG:toO (some a) k=k a:=rfl
def Xf:gV n d e=if n<e.length then some (e.set n<|.sh d)else none:=rfl
def XE:P2.tB (.bl b)=.ok b:=rfl
def XF:tT (.bl b)=.ok b:=rfl
def WW:jV (.int i) (.int j)=.ok (.int<|i+j):=rfl
def WX:jV (.str x) (.str y)=if x.length+y.length<=sizeLine then .ok (.str<|x++y)else .bad:=rfl
def XD:ni (.int i) (.int j)=.ok (.int<|i - j):=rfl
def DQ:kx (.int i) (.int j)=if vH i j=true then .ok (.int<|i.fdiv j)else .bad:=rfl
def Xp:jJ (.int i) (.int j)=if decide (j≠0)=true then .ok (.int<|i.fmod j)else .bad:=rfl
def Xl:P2.mQ (.int i) (.int j)=.ok (.bl<|decide<|i<j):=rfl
def Xg:sQ (.int i) (.int j)=.ok (.bl<|decide<|j<i):=rfl
def Xs:vF (.int i)=.ok (.int<|-i):=rfl
def W9:jm (.int i) (.int j)=.ok (.bl<|decide<|i=j):=rfl
def Xr:uq (.int i) (.int j)=.ok (.bl<|!decide (i=j)):=rfl
def Xh:jq (.lst l) (.int i)=match L2.jO l i with|some d=>.ok d|none=>.bad:=rfl
def Xj:jq (.tup l) (.int i)=match L2.jO l i with|some d=>.ok d|none=>.bad:=rfl
def Xi:jq (.str x) (.int i)=if x.length<=sizeLine then(match L2.jO x.cps.toList i with|some c=>.ok (.str ⟨#[c]⟩)|none=>.bad)else .bad:=rfl
def Xk:l7 [.lst l]=.ok (.int l.length):=rfl
def WV:ot [.int i]=.ok (.int<|if i<0 then -i else i):=rfl
def Xn:jj l=if l.length<=sizeLine then .ok (.tup l)else .bad:=rfl
def Xc:ju l=if l.length<=sizeLine then .ok l else .bad:=rfl
def XI:dV 0 (.sh d::r)=.ok d:=rfl
def XJ:dV 1 (s0::.sh d::r)=.ok d:=rfl
def XM:dV 2 (s0::s1::.sh d::r)=.ok d:=rfl
def XN:dV 3 (s0::s1::s2::.sh d::r)=.ok d:=rfl
def XO:dV 4 (s0::s1::s2::s3::.sh d::r)=.ok d:=rfl
def XQ:dV 5 (s0::s1::s2::s3::s4::.sh d::r)=.ok d:=rfl
def XS:dV 6 (s0::s1::s2::s3::s4::s5::.sh d::r)=.ok d:=rfl
def oG(o:0<j):jJ (.int i) (.int j)=.ok (.int<|i%j):=by rw[Xp,aq<|by simp;lia,Int.fmod_eq_emod_of_nonneg _<|by walk_at "l"]
def vP(o:0<j)(s:j<18446744073709551616):kx (.int i) (.int j)=.ok (.int<|i/j):=by have r:bits j<=64:=bits_le (by omega);rw[DQ,aq<|by unfold vH;simp only[aS,bx];lia,f5 _<|by walk_at "l"]
def xA{x y:iS}(r:x.length<=1000)(o:y.length<=1000):jV (.str x) (.str y)=.ok (.str<|x++y):=by rw[WX,aq<|aW (Nat.add_le_add r o)<|by decide]
def Xd{x:jD}(o:x.length<=1000):ju x=.ok x:=by rw[Xc,aq<|aW o<|by decide]
def Xo{x:jD}(o:x.length<=1000):jj x=.ok (.tup x):=by rw[Xn,aq<|aW o<|by decide]
end
open PySem.Spec
open PyProof.Rows hiding St
section
variable{X:Cx}{E:XK}
def sV(i j:Int):i6:=Dh i j||zL i j
noncomputable def jF:D->D->R D
 |.int i,.int j=>if sV i j=true then .ok (.int<|i*j)else .bad
 |.str x,.int n=>if Di x n=true then .ok (.str<|Txt.mul x n)else .bad
 |_,_=>.bad
def U7:lh X E (binaryOp .Mult) jF:=by
 refine⟨_,xv (xv U5 U6) U8,λ{_ H _ _ _ _ _} fr b a h=>?_⟩;unfold jF at h;split at h
 .cases b;cases a;split at h
  .rename_i z;unfold sV at z;rw[cx]at z;rcases z with z|z
   .unfold Dh at z;simp only[aS,bx]at z;exact .inl (.inr ⟨_,_,rfl,rfl,z,h H (.refl H) _<|.int _⟩)
   .refine .inl (.inl ⟨_,_,rfl,rfl,?_,h H (.refl H) _<|.int _⟩);unfold zL at z;simp only[cx,aS,bx]at z;exact z
  .exact h.elim
 .cases b;cases a;split at h;.rename_i z;exact .inr ⟨_,_,rfl,rfl,mulOk_of z,h H (.refl H) _<|.str _⟩
  .exact h.elim
 .exact h.elim
def VP:(10:Nat)^400<2^1500:=by decide+kernel
def Bu{i:Int}(h:i.natAbs<10^400):bits i<=1500:=bits_le (eM h VP)
def Xq{i j:Int}(b:i.natAbs<10^400)(a:j.natAbs<10^400):jF (.int i) (.int j)=.ok (.int<|i*j):=by have d:=Bu b;have c:=Bu a;show(if sV i j=true then R.ok (D.int<|i*j)else .bad)=_;rw[aq<|by unfold sV Dh;simp only[cx,aS,bx];left;lia]
def DR{i j:Int}(b: -18446744073709551616<j)(a:j<18446744073709551616):jF (.int i) (.int j)=.ok (.int<|i*j):=by show(if sV i j=true then R.ok (D.int<|i*j)else .bad)=_;rw[aq<|by unfold sV zL;simp only[cx,aS,bx];right;right;exact⟨b,a⟩]
def Kd{i j:Int}(b: -18446744073709551616<i)(a:i<18446744073709551616):jF (.int i) (.int j)=.ok (.int<|i*j):=by show(if sV i j=true then R.ok (D.int<|i*j)else .bad)=_;rw[aq<|by unfold sV zL;simp only[cx,aS,bx];right;left;exact⟨b,a⟩]
def z8{i j:Int}(b:j≠0)(a:j.natAbs<10^400):kx (.int i) (.int j)=.ok (.int<|i.fdiv j):=by have c:=Bu a;rw[DQ,aq<|by unfold vH;simp only[aS,bx];lia]
def Kh{n}:pJ c b (n+1) r=toS (c r) λk=>if k=true then turnT (b r) (pJ c b n)else .nx r:=rfl
variable{a b:jf}{rest:kK}{e:Pos}{l f:TE}{p m:jx}
def JB(A:PE X a l)(z:PE X (.BoolOp .Or (b::rest) e) f):PE X (.BoolOp .Or (a::b::rest) e) (λi H Q=>l i H λx j=>∃k,wx X.K x j k/\if k=true then Q x j else f i j Q):=by
 intro d s i H Q I h;refine BoolOp_or (je (A d s i H _ I h) λv u g=>?_);obtain⟨x,j,D,o,w⟩:=g;obtain⟨k,y,q⟩:=w;refine je (El d u i j x v (λc n=>c=k/\n=j) D o ⟨k,y,rfl,rfl⟩) λc t g=>?_;obtain⟨n,r,C,B⟩:=g;subst C B;cases c with
 |true=>exact⟨x,n,r,o,by simpa using q⟩
 |false=>exact z d t i n Q r (by simpa using q)
def Gf(a b:jx):jx:=λd=>(a d).bind λx=>(tT x).bind λc=>if c=true then .ok x else b d
def NK(u:DE X E a p)(t:DE X E (.BoolOp .Or (b::rest) e) m):DE X E (.BoolOp .Or (a::b::rest) e) (Gf p m):=by
 obtain⟨l,o,j⟩:=u;obtain⟨f,n,i⟩:=t;refine⟨_,JB o n,λs h=>j s<|Aft.mono (Aft.split h) λ{_ d} g w v c=>?_⟩;obtain⟨k,r,q⟩:=xD c (Aft.split w);refine⟨k,r,?_⟩;cases k with
 |true=>rw[aq rfl]at q⊢;exact q d (.refl d) v c
 |false=>rw[aA<|by simp]at q⊢;exact i (s.grow g) q
end
open PySem.Calls
def BM(b:km)(h:jb):Prop:=∃a ob,b "__builtins__"=some (.ref a)/\a≠builtinsNs/\h.get? a=some ob/\ob.cls=.type "module"/\ob.dict=some builtinsNs/\ob.data=.plain
def Sx{w}{K:i9}{k}{c:i7}{C:kn}
 (KX:K.In c.heap)(Q:c.heap.Ns mainGlobals mg)(hb:c.heap.Ns builtinsNs mb)(hbb:∀x:iS,x≠"__name__"->mb x=bootBuiltins x)(R:c.heap.NoLimit)(hg:c.gens=#[])
 (G:c.heap.get? a=some {cls:=.type "list",data:=.seq C.toArray})(hi:IntsAre C ns)(hl:ns.length<=sizeLine)(hr:kz k callerA)(hT:∀t∈mY K,W.CodeHd c.heap t.2.1 t.2.2/\c.heap.get? t.2.2=some (W.tabObj #[]))(hN:W.noTabs K=true)
 (hB:BM mg c.heap)
 (F:∀l:jb,K.In l->l.Ns mainGlobals mg->BM mg l->mS P w K mg l CX k fa fd [x] sp)(D:∀s u,BindsTo s fd ⟨[u],[]⟩ [(x,u)])
 (hsp:∀H:Hp,md K H->lH K H a (ns.map V.int)->sp [.ref a] H (λv _=>v=.bl true) λ_ _ _=>False)
 (PJ:∀H e j,CX [] H c (λ_ _ _=>False) e j->False):
   codeAny (model P w) callerA (.call (.ref fa) ⟨[.ref a],[]⟩) (λr j=>r=.ok (.ret<|.bool true)/\OldK c.heap j.heap/\j.os=c.os/\AllBare j.gens) c:=by
  have rv:=Lu hi;have N:=hi.length;have na:∀t∈mY K,t.2.2≠a:=λt f e=>by have:=(hT t f).2;rw[e,G]at this;cases this
  have nK:∀t∈mY K,K.lookup t.2.2=none:=λt f=>by
   cases q:K.lookup t.2.2 with
   |none=>rfl
   |some o=>have U:=KX _ _ q;rw[(hT t f).2]at U;cases U;have h2:=b9.mp hN (t.2.2,W.tabObj #[]) (W.mem_of_lookupK q);exact absurd (show false=true from h2) av
  have B:∀H:Hp,(∀b,H b=none\/(∃o M,H b=some (.kd o<|.lst M)/\b=a/\K.lookup a=none)\/∃t∈mY K,b=t.2.2/\H b=some (.ma #[]))->(∀t∈mY K,H t.2.2=some (.ma #[]))->lH K H a (ns.map V.int)->kG P w H c.heap->
   codeAny (model P w) callerA (.call (.ref fa) ⟨[.ref a],[]⟩) (λr j=>r=.ok (.ret<|.bool true)/\OldK c.heap j.heap/\j.os=c.os/\AllBare j.gens) c:=by
   intro H hO PX hS O;have i:∀{b:iR} {o:lj},c.heap.get? b=some o->H b=none->(qN c.heap H).get? b=some o:=λe n=>Qz e n;have Uk:∀{b:iR} {o:lj} {I:jZ DictEntry} {J:Nat},c.heap.get? b=some o->o.data=.dict I J->H b=none:=λ{b o I J} e d=>by
    rcases hO b with z|⟨ob,M,z,g,_⟩|⟨t,f,g,z⟩;.exact z
    .subst g;rw[G]at e;cases e;have d':Data.seq C.toArray _=Data.dict I J:=d;cases d'
    .subst g;rw[(hT t f).2]at e;cases e;have d':Data.fields #[]=Data.dict I J:=d;cases d'
   have p:∀{b:iR} {m:km},c.heap.Ns b m->(qN c.heap H).Ns b m:=λ{b m} ⟨o,I,J,e,d,r⟩=>⟨o,I,J,i e (Uk e d),d,r⟩;have T:K.In (qN c.heap H):=λb o e=>i (KX b o e) (by
    rcases hO b with z|⟨ob,M,z,g,S⟩|⟨t,f,g,z⟩;· exact z
    · subst g;rw[S]at e;cases e
    · subst g;rw[nK t f]at e;cases e)
   have PB:BM mg (qN c.heap H):=by
    obtain⟨bm,ob,b1,b2,Z,b4,b5,b6⟩:=hB;refine⟨bm,ob,b1,b2,i Z ?_,b4,b5,b6⟩;rcases hO bm with z|⟨o2,M,z,g,_⟩|⟨t,f,g,z⟩;.exact z
    .subst g;rw[G]at Z;cases Z;cases b6
    .subst g;rw[(hT t f).2]at Z;cases Z;cases b6
   have hM:Mod K mg (qN c.heap H):=⟨T,p Q,⟨mb,p hb,hbb⟩,let⟨mc,h1,h2⟩:=R;⟨mc,p h1,h2⟩⟩;have e0:tu P w K mg (qN c.heap H) callerA [] c H:=⟨rfl,hM,λb o e=>Ux e,iF<|QA _ _,trivial,λb hb=>absurd (show b∈([]:aa iR)from hb)<|by simp,O,.of_eq hg⟩;have tb:md K H:=λt f=>⟨#[],PX t f,trivial,λpos cv e=>by cases e⟩;refine eI ((F _ T (p Q) PB).run callerA [] c H ⟨[.ref a],[]⟩ [.ref a] [.ref a] _ _ hr e0 (D c<|.ref a) (.cons rfl .nil) (hsp H tb hS)) λr j h=>?_;cases r with
   |error e=>exact(PJ H e j h).elim
   |ok fl=>
    cases fl with
    |ret u=>
     obtain⟨v,H',os,Y,un,A,r',q⟩:=h;have q':v=.bl true:=q;subst q';obtain rfl:u=Value.bool true:=r';have kept:∀b o,c.heap.get? b=some o->j.heap.get? b=some o\/∃t∈mY K,b=t.2.2/\∃ps,j.heap.get? b=some (W.tabObj ps):=λb o e=>by
      rcases hO b with z|⟨ob,M,z,_⟩|⟨t,f,g,z⟩;.exact .inl (un.keep b o e z (by intro y;exact absurd (show b∈([]:aa iR)from y) (by simp)) (by simp))
      .have z2:=un.pX b ob _ z;obtain⟨U,_⟩:=O b _ z;obtain⟨L,_⟩:=A b _ z2;rw[e]at U;cases U;exact .inl L
      .obtain⟨more,z2⟩:=un.rV b #[] z;have L:j.heap.get? b=some {cls:=.none,data:=.fields<|#[]++more}:=A b _ z2;exact .inr ⟨t,f,g,_,L⟩
     refine⟨rfl,⟨λb o e=>?_,λb o e=>?_⟩,os,Y⟩
     .rcases kept b o e with z|⟨t,f,g,ps,z⟩;.exact .inl z
      .subst g;have L:=(hT t f).2;rw[e]at L;cases L;exact .inr (.inl ⟨((hT t f).1.tab (hT t f).2).isCodeTable,rfl,#[],ps,rfl,by rw[Array.empty_append];exact z⟩)
     .rcases kept b o e with z|⟨_,_,_,ps,z⟩;.exact⟨o,z⟩
      .exact⟨_,z⟩
    |_=>exact False.elim h
  have nz:¬∃t∈mY K,a=t.2.2:=λ⟨t,f,e⟩=>na t f e.symm;have ma:∀(H:Hp) (b:iR),(∃t∈mY K,b=t.2.2)->kH P w H c.heap b (.ma #[]):=λH b ⟨t,f,e⟩=>by subst e;exact(hT t f).2
  cases S:K.lookup a with
  |some o=>
   have e:=KX a o S;rw[G]at e;cases e;refine B (λb=>if(∃t∈mY K,b=t.2.2)then some (.ma #[])else none) (λb=>?_) (λt f=>aq ⟨t,f,rfl⟩) (.inr ⟨_,C.toArray,_,S,rfl,rfl,rfl,by rw[aP,N];exact hl,by simpa using rv⟩) (λb u e=>?_)
   .by_cases z:∃t∈mY K,b=t.2.2
    .obtain⟨t,f,e⟩:=z;exact .inr (.inr ⟨t,f,e,aq ⟨t,f,e⟩⟩)
    .exact .inl (aA z)
   .by_cases z:∃t∈mY K,b=t.2.2
    .have g:=(aq z).symm.trans e;cases g;exact ma _ b z
    .have g:=(aA z).symm.trans e;cases g
  |none=>
   refine B (λb=>if(∃t∈mY K,b=t.2.2)then some (.ma #[])else if b=a then some (.kd {cls:=.type "list",data:=.seq C.toArray}<|.lst<|ns.map V.int)else none) (λb=>?_) (λt f=>aq ⟨t,f,rfl⟩) (.inl<|.inr ⟨{cls:=.type "list",data:=.seq C.toArray},(aA nz).trans (aq rfl)⟩) (λb u e=>?_)
   .by_cases z:∃t∈mY K,b=t.2.2
    .obtain⟨t,f,e⟩:=z;exact .inr (.inr ⟨t,f,e,aq ⟨t,f,e⟩⟩)
    .by_cases y:b=a;.exact .inr (.inl ⟨_,_,(aA z).trans (aq y),y,S⟩)
     .exact .inl ((aA z).trans (aA y))
   .by_cases z:∃t∈mY K,b=t.2.2
    .have g:=(aq z).symm.trans e;cases g;exact ma _ b z
    .by_cases y:b=a
     .have g:=((aA z).trans (aq y)).symm.trans e;cases g;subst y;exact⟨G,by rw[aj];exact hl,C,_,rv,G⟩
     .have g:=((aA z).trans (aA y)).symm.trans e;cases g
def aag{K:i9}(T:Top p loose acm mg mb h)(X:K.In h)(b:(mY K).all (λt=>((recsOf p).find? λe=>e.name==t.1).isSome)=true):
    ∀t∈mY K,W.CodeHd h t.2.1 t.2.2/\h.get? t.2.2=some (W.tabObj #[]):=λt a=>by
 have f:=b9.mp b t a;obtain⟨d,c⟩:=d9.mp f;unfold mY at a;obtain⟨x,_,e⟩:=aZ.mp a;split at e
 .obtain⟨q,i,g⟩:=ay.mp e;subst g;exact W.tab_of T X c i
 .cases e
end P2
namespace WP
open PySem L2 P2
structure Ad where
 WeatherError:iR:=0
 NoFraction:iR:=0
 NoText:iR:=0
 ab3:iR:=0
 ab2:iR:=0
 ab1:iR:=0
 Tokens:iR:=0
 Book:iR:=0
 Sight:iR:=0
 ab0:iR:=0
 ab7:iR:=0
 ab5:iR:=0
 ab6:iR:=0
 oC:iR->iT->i0 i6:=λ_ _=>none
def wC(a:Ad):jI:=(jW (lF 2 (d2 jJ (dV 0) (dV 1)))
    (jW (lF 0 (dV 1))
    (lF 1 (dV 2))))
def yY(a:Ad):jI:=(jW (pJ (b1 tB (d2 uq (dV 1) (iP 0))) (wC a) vg)
    (ku (dV 0)))
def BX(a:Ad):jI:=(ku<|vj (dA (pB a.oC)<|iK (dV 0)<|iK (dC<|.ty "int") iQ)<|BH<|dA (pB a.oC)<|iK (dV 0)<|iK (dC<|.ty "bool") iQ)
def yZ(a:Ad)(c b:jg):jI:=(jW (n8 (nX (qI (b1 tT (dA c (iK (dV 0) iQ)))) (nX (qI (b1 tT (dA c (iK (dV 1) iQ)))) (b1 tB (d2 jm (dV 1) (iP 0))))) (λ_=>.ex a.NoFraction [] []) n9)
    (jW (lF 2 (dA b (iK (dA ot (iK (dV 0) iQ)) (iK (dA ot (iK (dV 1) iQ)) iQ))))
    (jW (n8 (b1 tB (d2 mQ (dV 1) (iP 0))) (lF 2 (d1 vF (dV 2))) n9)
    (ku (dA jj (iK (d2 kx (dV 0) (dV 2)) (iK (d2 kx (dV 1) (dV 2)) iQ)))))))
def y9(a:Ad)(b:jg):jI:=(ku<|dA b<|iK (d2 jV (d2 jF (iN 0 0)<|iN 1 1)<|d2 jF (iN 1 0)<|iN 0 1)<|iK (d2 jF (iN 0 1)<|iN 1 1) iQ)
def y7(a:Ad)(b:jg):jI:=(ku<|dA b<|iK (d2 ni (d2 jF (iN 0 0)<|iN 1 1)<|d2 jF (iN 1 0)<|iN 0 1)<|iK (d2 jF (iN 0 1)<|iN 1 1) iQ)
def za(a:Ad)(b:jg):jI:=(ku<|dA b<|iK (d2 jF (iN 0 0)<|iN 1 0)<|iK (d2 jF (iN 0 1)<|iN 1 1) iQ)
def zc(a:Ad):jI:=(ku<|d2 mQ (d2 jF (iN 0 0)<|iN 1 1)<|d2 jF (iN 1 0)<|iN 0 1)
def Hg(a:Ad):jI:=(jW (n8 (b1 tB (d2 pZ (iN 0 0) (dA jj (iK (i8 "+") (iK (i8 "-") (iK (i8 "<") (iK (i8 "=") (iK (i8 "and") (iK (i8 "or") iQ))))))))) (ku (jt (λb=>((iK (iN 0 1) (iK (iN 0 2) iQ)) b).bind ju))) n9)
    (jW (n8 (b1 tB (d2 jm (iN 0 0) (i8 "times"))) (ku (jt (λb=>((iK (iN 0 2) iQ) b).bind ju))) n9)
    (jW (n8 (b1 tB (d2 pZ (iN 0 0) (dA jj (iK (i8 "abs") (iK (i8 "not") iQ))))) (ku (jt (λb=>((iK (iN 0 1) iQ) b).bind ju))) n9)
    (ku (jt (λb=>(iQ b).bind ju))))))
def Ca(a:Ad)(b:jg):jI:=(ku<|dA b<|iK (dA ot<|iK (iN 0 0) iQ)<|iK (iN 0 1) iQ)
def Cd(a:Ad):jI:=(jW (n8 (b1 tB (d2 mQ (dV 1) (dA l7 (iK (dV 0) iQ)))) (ku (d2 jq (dV 0) (dV 1))) n9)
    (ku (iP 0)))
def Bp(a:Ad):jI:=(Ab 2 3<|iK (dV 3)<|iK (d2 jJ (dV 2)<|dV 3) iQ)
def Ci(a:Ad):jI:=(jW (Ab 2 3 (iK (dA ot (iK (dV 0) iQ)) (iK (dV 1) iQ)))
    (jW (pJ (b1 tB (d2 sQ (dV 3) (iP 0))) (Bp a) vg)
    (ku (dA jj (iK (d2 kx (dV 0) (dV 2)) (iK (d2 kx (dV 1) (dV 2)) iQ))))))
def wD(a:Ad):jI:=(lF 5<|d2 jV (dV 5)<|d2 jq (i8 "qxz")<|d2 jJ (d2 kx (dV 0)<|d2 jV (iP 3)<|dV 6)<|iP 3)
def zj(a:Ad):jI:=(jW (lF 2 (i8 "abcdefghijklmnopqrstuvwxyz"))
    (jW (lF 3 (d2 jq (jt (λb=>((iK (iP 1) (iK (iP 3) (iK (iP 5) (iK (iP 7) (iK (iP 9) (iK (iP 11) (iK (iP 15) (iK (iP 17) (iK (iP 19) (iK (iP 21) (iK (iP 23) (iK (iP 25) iQ)))))))))))) b).bind ju)) (d2 jJ (d2 kx (dV 0) (iP 26)) (iP 12))))
    (jW (lF 4 (d2 jV (d2 jq (dV 2) (d2 jJ (d2 jV (dV 0) (d2 jF (dV 1) (dV 3))) (iP 26))) (d2 jq (i8 "qxz") (d2 jJ (d2 kx (dV 1) (iP 26)) (iP 3)))))
    (jW (lF 5 (i8 ""))
    (jW (uB (λb=>((iK (d2 jJ (d2 kx (dV 0) (iP 312)) (iP 7)) iQ) b).bind qT) (gV 6) (wD a))
    (jW (n8 (b1 tB (d2 jm (d2 jJ (d2 kx (dV 0) (iP 2184)) (iP 2)) (iP 1))) (ku (d2 jV (dV 5) (dV 4))) n9)
    (ku (d2 jV (dV 4) (dV 5)))))))))
end WP
namespace P2
open PySem PySem.W PyProof.Rows
def lA{b:Type}(n:Nat)(c:Nat->Nat->i6):KasT b->(b->Prop)->Prop
 |.ret a,Q=>Q a
 |.ask i j k,Q=>i<n/\j<n/\lA n c (k<|c i j) Q
theorem lA.bind{n}{c}{f:r->KasT v}{Q:v->Prop}:∀{t:KasT r},lA n c t (λa=>lA n c (f a) Q)->lA n c (t.bind f) Q
 |.ret _,h=>h
 |.ask i j k,h=>⟨h.1,h.2.1,lA.bind (t:=k<|c i j) h.2.2⟩
theorem lA.wp{n}{c}{Q:r->Prop}{G}{s}
 (b:∀i j,i<n->j<n->∀C:i6->i7->Prop,C (c i j) s->cmp i j C s)(d:∀a,Q a->G a s):∀{t},lA n c t Q->t.kasWp cmp G s
  |.ret a,h=>d a h
  |.ask i j k,h=>b i j h.1 h.2.1 _ (lA.wp b d (t:=k<|c i j) h.2.2)
section
variable{n:Nat}{c:Nat->Nat->i6}{v:Nat->Int}
abbrev _root_.nJ:=jZ Nat
def KK(v:Nat->Int)(p:nJ)(i:Nat):Int:=v ((p[i]?).getD 0)
def kP(n:Nat)(p:nJ):Prop:=p.Perm (List.toArray<|List.range n)
def kP.size(h:kP n p):p.size=n:=by rw[h.size_eq];simp
def kP.lt(h:kP n p)(b:0<n)(k):p.getD k 0<n:=by
 rw[fT];cases e:p[k]? with
 |none=>simpa using b
 |some x=>
  have a:x∈p.toList:=by grind
  have:=(dS.mp h).mem_iff.mp a;simpa using this
def zd(v)(p)(i):v (p.getD i 0)=KK v p i:=by unfold KK;rw[fT]
def KK_congr(h:p[i]?=q[j]?):KK v p i=KK v q j:=by unfold KK;rw[h]
def yg(a:j<=p.size)(k):KK v (kas_rev p i j) k=if i<=k/\k<j then KK v p (i+j - 1 - k)else KK v p k:=by
 have:=getElem?_mirror_all (i:=i) a k;unfold kas_rev;split;.rename_i h;rw[aq h]at this;exact KK_congr this
 .rename_i h;rw[aA h]at this;exact KK_congr this
def kP.rev(h:kP n p)(i j):kP n (kas_rev p i j):=(mirror_perm ..).trans h
def kP.MI(h:kP n p)(i j):kP n (bubble p i j):=(bubble_perm ..).trans h
variable(A:∀i j,i<n->j<n->c i j=decide (v i<v j))
include A
theorem wA{p:nJ}(h:kP n p)(a:0<n)(i j){k}{Q:r->Prop}(q:lA n c (k<|decide<|KK v p i<KK v p j) Q):lA n c (.ask (p.getD i 0) (p.getD j 0) k) Q:=by refine⟨h.lt a i,h.lt a j,?_⟩;rw[A _ _ (h.lt a i)<|h.lt a j,zd v p i,zd v p j];exact q
def oM(v:Nat->Int)(p:nJ)(m:Nat):Prop:=∀i j,i<=j->j<m->KK v p i<=KK v p j
def oP(v:Nat->Int)(p:nJ)(m:Nat):Prop:=∀i j,i<=j->j<m->KK v p j<=KK v p i
omit A in
theorem oM.snoc(h:oM v p m)(d:1<=m)(e:KK v p (m - 1)<=KK v p m):oM v p (m+1):=λi j a b=>by
 by_cases z:j=m
 .subst z;by_cases y:i=j;.subst y;simp
  .have:=h i (j - 1) (by lia) (by walk_at "l");walk_at "l"
 .exact h i j a (by lia)
omit A in
theorem oP.snoc(h:oP v p m)(d:1<=m)(e:KK v p m<=KK v p (m - 1)):oP v p (m+1):=λi j a b=>by
 by_cases z:j=m
 .subst z;by_cases y:i=j;.subst y;simp
  .have:=h i (j - 1) (by lia) (by walk_at "l");walk_at "l"
 .exact h i j a (by lia)
theorem Dj{p:nJ}(h:kP n p)(d:0<n):∀(f m:Nat),1<=m->oM v p m->(∀b,m<=b->b<=m+f->oM v p b->(b<m+f->KK v p b<KK v p (b - 1))->Q b)->lA n c (kas_asc p f m) Q
 |0,m,_,a,q=>q m (af _) (af _) a λw=>absurd w (by simp)
 |f+1,m,e,a,q=>by
  refine wA A h d m (m - 1) ?_;by_cases z:KK v p m<KK v p (m - 1)
  .rw[aR z,aq rfl];exact q m (af _) (by simp) a λ_=>z
  .rw[aG z,aA<|by decide];exact Dj h d f (m+1) (by simp) (a.snoc e<|by simp_all) λb o l k g=>q b (by walk_at "l") (by lia) k λw=>g (by lia)
omit A in
theorem oP.rev(h:oP v p m)(d:b<=p.size)(f:b<=m)(e:∀k,a<=k->k<b->KK v p k=KK v p (b - 1))(k):KK v (kas_rev p a b) k=KK v p k:=by
 rw[yg d]
 grind
theorem zO(s:0<n):∀(f:Nat) (p:nJ) (m q:Nat),kP n p->1<=m->m+f<=n->q<m->oP v p m->(∀k,m - (q+1)<=k->k<m->KK v p k=KK v p (m - 1))->
 (∀g d l,kP n g->m<=d->d<=m+f->l<d->oP v g d->(∀k,d - (l+1)<=k->k<d->KK v g k=KK v g (d - 1))->Q (g,d,l))->lA n c (kas_desc f p m q) Q
 |0,p,m,q,h,_,_,D,a,e,r=>r p m q h (af _) (af _) D a e
 |f+1,p,m,q,h,G,I,D,a,e,r=>by
  have L:=h.size;refine wA A h s m (m - 1) ?_;by_cases z:KK v p m<KK v p (m - 1)
  .rw[aR z,aq rfl];by_cases y:q>0
   .rw[aq y];have C:=oP.rev (a:=m - (q+1)) (b:=m) a (by lia) (af _) e;have K:oP v (kas_rev p (m - (q+1)) m) (m+1):=oP.snoc (λi j F J=>by rw[C,C];exact a i j F J) G (by rw[C,C];walk_at "l");exact zO s f _ (m+1) 0 (h.rev _ _) (by simp) (by lia) (by simp) K (λk o B=>by rw[show k=m+1 - 1 by lia]) λg d l o B H x u t=>r g d l o (by walk_at "l") (by lia) x u t
   .rw[aA y];exact zO s f p (m+1) 0 h (by simp) (by lia) (by simp) (a.snoc G<|by walk_at "l") (λk o B=>by rw[show k=m+1 - 1 by lia]) λg d l o B H x u t=>r g d l o (by walk_at "l") (by lia) x u t
  .rw[aG z,aA<|by decide];refine wA A h s (m - 1) m ?_;by_cases y:KK v p (m - 1)<KK v p m
   .rw[aR y,aq rfl];exact r p m q h (af _) (by simp) D a e
   .rw[aG y,aA<|by decide];have eq:KK v p m=KK v p (m - 1):=by lia
    refine zO s f p (m+1) (q+1) h (by simp) (by lia) (by walk_at "l") (a.snoc G<|by walk_at "l") (λk o B=>?_) λg d l o B H x u t=>r g d l o (by walk_at "l") (by lia) x u t;rw[Nat.add_sub_cancel];by_cases w:k=m;.rw[w]
    .rw[e k (by simp_all)<|by lia,eq]
theorem Jk{p:nJ}(h:kP n p)(g:0<n){m:Nat}(f:1<=m)(o:m<=n)(a:oP v p m)(q:∀b d,kP n d->1<=b->b<=n->oM v d b->Q (b,d)):lA n c (kas_tail3 m n p) Q:=by have l:=h.size;refine lA.bind (Dj A (h.rev 0 m) g _ _ f (λi j e r=>?_) λb u t k s=>q b _ (h.rev 0 m) (by walk_at "l") (by simp_all) k);rw[yg<|by simp_all,yg<|by simp_all,aq<|by lia,aq<|by simp_all];exact a _ _ (by grind) (by omega)
theorem Jj{p:nJ}(h:kP n p)(o:0<n){m:Nat}(w:1<=m)(B:m<n)(a:oP v p m)(e:KK v p m<KK v p (m - 1))(q:∀d f,kP n f->1<=d->d<=n->oM v f d->Q (d,f)):lA n c (kas_descPart m n p) Q:=by
 refine lA.bind (zO A o _ _ _ _ h (by simp) (by omega) (by simp) (a.snoc w<|by walk_at "l") (λk g y=>by rw[show k=m+1 - 1 by lia]) λf d t g y D C r x=>?_);dsimp only;have z:=g.size;split
 .have s:=oP.rev (a:=d - (t+1)) (b:=d) r (by lia) (af _) x;exact Jk A (g.rev _ _) o (by lia) (by lia) (λi j l u=>by rw[s,s];exact r i j l u) q
 .exact Jk A g o (by lia) (by lia) r q
theorem UB{p:nJ}(h:kP n p)(f:1<=n)(q:∀b o,kP n o->1<=b->b<=n->oM v o b->Q (b,o)):lA n c (kas_count n p) Q:=by
 have x:=h.size;refine lA.bind (Dj A h f _ _ (af 1) (λi j a r=>by rw[show i=j by simp_all];simp) λm l B g w=>?_);by_cases z:m=n
 .subst z;simp only[gz,df];exact q m p h l (af _) g
 .have t:¬(m==n)=true:=by simpa using z
  rw[aA t];have e:=w (by lia);split
  .refine wA A h f 0 (m - 1) ?_;by_cases y:KK v p 0<KK v p (m - 1)
   .rw[aR y,aq rfl];exact q m p h l (by simp_all) g
   .rw[aG y,aA<|by decide];have s:∀k,k<m->KK v p k=KK v p (m - 1):=λk u=>by
     have:=g 0 k (by simp) u;have:=g k (m - 1) (by lia) (by walk_at "l")
     lia
    have d:∀k,KK v (kas_rev p 0 m) k=KK v p k:=λk=>by
     rw[yg<|by simp_all]
     grind
    exact Jj A (h.rev 0 m) f l (by lia) (λi j a r=>by rw[d,d,s i<|by walk_at "l",s j r];simp) (by rw[d,d];exact e) q
  .exact Jj A h f l (by lia) (λi j a r=>by rw[show i=j by lia];simp) e q
theorem Dm{p:nJ}(h:kP n p)(g:0<n){k:Nat}(a:oM v p k)(q:∀l,l<=k->(∀i,i<l->KK v p i<=KK v p k)->(∀i,l<=i->i<k->KK v p k<KK v p i)->Q l):
 ∀(f l r:Nat),l<=r->r<=k->r - l<=f->(∀i,i<l->KK v p i<=KK v p k)->(∀i,r<=i->i<k->KK v p k<KK v p i)->lA n c (kas_place p k f l r) Q
 |0,l,r,t,s,o,e,d=>q l (by walk_at "l") e λi m b=>d i (by lia) b
 |f+1,l,r,t,s,o,e,d=>by
  show lA n c (if l≥r then .ret l else _) Q;split;.exact q l (by walk_at "l") e λi m b=>d i (by walk_at "l") b
  .refine wA A h g k ((l+r)/2) ?_;by_cases z:KK v p k<KK v p ((l+r)/2)
   .rw[aR z,aq rfl];exact Dm h g a q f l ((l+r)/2) (by lia) (by lia) (by grind) e λi m b=>by have:=a ((l+r)/2) i (by omega) b;walk_at "l"
   .rw[aG z,aA<|by decide];exact Dm h g a q f ((l+r)/2+1) r (by lia) (by omega) (by grind) (λi w=>by have:=a i ((l+r)/2) (by walk_at "l") (by lia);lia) d
theorem Ji(s:0<n)(q:∀p,kP n p->oM v p n->Q p):∀(f:Nat) (p:nJ) (k:Nat),kP n p->k+f=n->oM v p k->lA n c (kas_bin f p k) Q
 |0,p,k,h,e,a=>q p h (by rw[<-e];exact a)
 |f+1,p,k,h,e,a=>by
  have B:=h.size;refine lA.bind (Dm A h s a (λl D z y=>?_) k 0 k (by simp) (af _) (by simp) (λi w=>absurd w<|by simp) λi u d=>absurd u<|by grind);refine Ji s q f _ (k+1) (h.MI _ _) (by lia) λi j g C=>?_;have t:∀x,KK v (bubble p k<|k - l) x=if x=l then KK v p k else if l<x/\x<=k then KK v p (x - 1)else KK v p x:=λx=>by
   have:=getElem?_bubble (xs:=p) (src:=k) (by lia) (k - l) (by simp) x;rw[show k - (k - l)=l by lia]at this;split;.rename_i w;rw[aq w]at this;exact KK_congr this
   .rename_i w;rw[aA w]at this;split;.rename_i d;rw[aq d]at this;exact KK_congr this
    .rename_i d;rw[aA d]at this;exact KK_congr this
  rw[t,t];by_cases r:i=l
  .rw[aq r];by_cases b:j=l;.rw[aq b];simp
   .rw[aA b,aq<|by lia];have:=y (j - 1) (by lia) (by grind);walk_at "l"
  .rw[aA r];by_cases o:l<i/\i<=k
   .rw[aq o,aA<|by lia,aq<|by grind];exact a _ _ (by lia) (by lia)
   .rw[aA o];by_cases b:j=l;.rw[aq b];exact z i (by lia)
    .rw[aA b];by_cases m:l<j/\j<=k;.rw[aq m];exact a _ _ (by grind) (by grind)
     .rw[aA m];exact a _ _ g (by lia)
theorem UE(b:1<=n)(q:∀p,kP n p->oM v p n->Q p):lA n c (kas_sort n) Q:=by
 refine lA.bind (UB A (Array.Perm.refl _) b λa f e h g d=>?_);split
 .rename_i z;rw[show max a 1=a by simp_all];exact Ji A b q _ _ _ e (by simp_all) d
 .exact q f e (by rw[show n=a by lia];exact d)
end
def rankOf(n:Nat)(c:Nat->Nat->i6)(i:Nat):Int:=(((List.range n).filter λj=>c j i).length:Nat)
def GV{l:aa r}(h:∀x∈l,p x=true->q x=true):(l.filter p).length<=(l.filter q).length:=by
 induction l with
 |nil=>simp
 |cons a l b=>grind
def OU{l:aa r}(h:∀x∈l,p x=true->q x=true)(b:y∈l)(f:p y=false)(e:q y=true):(l.filter p).length<(l.filter q).length:=by
 induction l with
 |nil=>simp at b
 |cons a l d=>
  have le:=GV λx c=>h x (.tail _ c)
  grind
def X9{n:Nat}{c:Nat->Nat->i6}(b:∀i,i<n->c i i=false)(g:∀i j k,i<n->j<n->k<n->c i j=true->c j k=true->c i k=true)
 (m:∀i j k,i<n->j<n->k<n->c i j=true->c k j=true\/c i k=true)(i j)(a:i<n)(f:j<n):c i j=decide (rankOf n c i<rankOf n c j):=by
  cases h:c i j with
  |true=>
   symm
   rw[bx];have:=OU (l:=List.range n) (p:=λk=>c k i) (q:=λk=>c k j) (λk d e=>g k i j (by simpa using d) a f e h) (y:=i) (by simpa using a) (b i a) h;unfold rankOf;simp_all
  |false=>
   symm
   rw[eE];have:=GV (l:=List.range n) (p:=λk=>c k j) (q:=λk=>c k i) (λk d e=>by
    rcases m k j i (by simpa using d) f a e with h2|h2;· lia
    · exact h2)
   unfold rankOf;simp_all
end P2
namespace P2
open PySem L2 PySem.Spec PySem.Calls
open PyProof.Rows hiding St
def FQ:bootBuiltins "sorted"=some (.builtin "sorted"):=by decide+kernel
end P2
namespace P2
open PySem L2 PySem.Spec PySem.Calls PySem.W
open PyProof.Rows hiding St K
variable{prog:jE}{w:jz}{A:jY}{E:j0}{s:i7}
abbrev Yq(r:SortKind)(us:kn):SortSt:=SortSt.mk' r (us.toArray.zip us.toArray) #[] 7 none
abbrev _root_.yy:=jZ iT->Prop
def yp(prog:jE)(w:jz)(G:yy)(a:kn)(t:i7):Prop:=
 ∀B:jY,wpAny (model prog w) B (keyKind' a.toArray) (λc d=>d=t/\wpAny (model prog w) B ((sortRuns').run (Yq c a)) (λr b=>b=t/\failedOf r.2=none/\((arrOf r.2).map (·.2)).size=a.length/\G ((arrOf r.2).map (·.2))) (λ_ _=>False) t) (λ_ _=>False) t
def KW{d}{a:kn}{G:yy}{Q:PySem.Fin->i7->Prop}(n:s.heap.get? d=some (seqObj "list" a.toArray e))(C:a.length<=sizeLine)(D:a.length<2->G a.toArray)
 (K:2<=a.length->∀t:i7,(∀b o,b≠d->s.heap.get? b=some o->t.heap.get? b=some o)->yp prog w G a t)
 (k:∀out:jZ iT,out.size=a.length->G out->Q (.done<|.ret .none) {s with heap:=sortedHeap s.heap d a out}):wpAny (model prog w) A (Builtin.«list.sort» ⟨[.ref d],[]⟩) Q E s:=by
  have i:d<s.heap.objs.size:=aM n;rw[list_sort_plain];apply ae;apply listItems_at n rfl;apply ae;apply listUpdate_at n rfl (hsz:=by simpa using C) (hsz2:=bI _);have f:=get?_update_seq n (λ_=>(#[]:jZ iT));apply ae;apply seqEpoch_at f rfl;apply ae;refine wpAny_newTuple ?_ (by simpa using C);apply ae;refine wpAny_newList ?_ (bI _);refine bH ?_;generalize B:((s.heap.update d<|Obj.mapSeq λ_=>(#[]:jZ iT)).push (seqObj "tuple" a.toArray 0)).push (seqObj "list" #[] 0)=h6;have L:∀out:jZ iT,h6.update d (Obj.mapSeq λ_=>out)=sortedHeap s.heap d a out:=λout=>by rw[<-B];rfl
  have v:d≠(s.heap.update d<|Obj.mapSeq λ_=>(#[]:jZ iT)).objs.size:=by rw[gD];exact aV i
  have u:∀o:lj,d≠((s.heap.update d<|Obj.mapSeq λ_=>(#[]:jZ iT)).push o).objs.size:=λo=>by rw[size_push',gD];exact aV (bQ i)
  have c:∃l,h6.get? d=some (seqObj "list" #[] l)/\((s.heap.update d<|Obj.mapSeq λ_=>(#[]:jZ iT)).get? d=some (seqObj "list" #[] l)):=by refine⟨_,?_,f⟩;rw[<-B,Heap.get?_push_ne _ _ _<|u _,Heap.get?_push_ne _ _ _ v];exact f
  obtain⟨l,c,j⟩:=c;have F:=f.symm.trans j;have p:∀b o,b≠d->s.heap.get? b=some o->h6.get? b=some o:=λb o J q=>by rw[<-B];refine ai _ (ai _ ?_);rw[dZ _ _ _ _ J];exact q
  show wpAny (model prog w) A _ Q E {s with heap:=h6};dsimp only;have g:∀out:jZ iT,out.size=a.length->G out->wpAny (model prog w) A (Builtin.List.listUpdate (.ref d) λ_=>out) (λ_ t=>t={s with heap:=sortedHeap s.heap d a out}) E {s with heap:=h6}:=λout I m=>by refine listUpdate_at (s:={s with heap:=h6}) c rfl ?_ (hsz:=bI _) (hsz2:=by rw[I];walk_at "l");show({s with heap:=h6.update d<|Obj.mapSeq λ_=>out}:i7)=_;rw[L out]
  by_cases h:a.toArray.size<2
  .rw[aq h,aq h];apply ae;apply ah;rw[StateT.run_pure];apply ae;apply ah;dsimp only;apply ae;apply seqEpoch_at (s:={s with heap:=h6}) c rfl;have M:(arrOf<|SortSt.mk' general' (a.toArray.zip a.toArray) #[] 7 none).map (·.2)=a.toArray:=by
    show(a.toArray.zip a.toArray).map (·.2)=_;apply gE.mp;rw[Array.toList_map];simp only[Array.toList_zip];rw[<-List.unzip_snd,List.unzip_zip rfl]
   rw[M];refine ae (br (g a.toArray (by simp)<|D<|by simpa using h) (λ_ t y=>?_) λ_ _ x=>x);subst y;have:l=(if(#[]:jZ iT).size==a.toArray.size then e else e+1):=by injection F with w1;injection w1 with _ _ w2;injection w2 with _ w3;exact w3.symm
   rw[<-this];simp only[bne_self_eq_false,cI,cj];exact ah (k _ (by simp)<|D<|by simpa using h)
  .rw[aA h,aA h];refine ae (br (K (by simpa using h) {s with heap:=h6} p A) (λN t z=>?_) λ_ _ x=>x.elim);obtain⟨rfl,z⟩:=z;refine ae (br z (λr t H=>?_) λ_ _ x=>x.elim);obtain⟨rfl,hf,hsz,m⟩:=H;obtain⟨⟨⟩,O⟩:=r;dsimp only at hf hsz m⊢;apply ae;apply seqEpoch_at (s:={s with heap:=h6}) c rfl;refine ae (br (g _ hsz m) (λ_ t y=>?_) λ_ _ x=>x);subst y;rw[hf];have:l=(if(#[]:jZ iT).size==a.toArray.size then e else e+1):=by injection F with w1;injection w1 with _ _ w2;injection w2 with _ w3;exact w3.symm
   rw[<-this];simp only[bne_self_eq_false,cI,cj];exact ah (k _ hsz m)
def Y2{a:kn}{G:yy}{Q:j0}(i:s.heap.IsList l a.toArray)(d:a.length<=sizeLine)(p:a.length<2->G a.toArray)
 (n:2<=a.length->∀t:i7,(∀b o,s.heap.get? b=some o->t.heap.get? b=some o)->yp prog w G a t)
 (k:∀out:jZ iT,out.size=a.length->G out->Q (.ref<|s.heap.objs.size+1) {s with heap:=sortedAll s.heap a out}):wpAny (model prog w) A (call (.builtin "sorted") [.ref l]) Q E s:=by
  refine call_function_entry kind_sorted plain_sorted entry_sorted (args_sorted1 _) ?_;unfold Builtin.«sorted»;refine ae (m:=checkCount "sorted" 1 1 _) (ah ?_);apply ae;refine collect_list i ?_ d;apply ae;refine wpAny_newList ?_ d;have c:((s.heap.push<|seqObj "list" #[] 0).update s.heap.objs.size (Obj.mapSeq (· ++a.toArray))).objs.size=s.heap.objs.size+1:=by rw[gD,size_push']
  generalize f:(s.heap.push<|seqObj "list" #[] 0).update s.heap.objs.size (Obj.mapSeq (· ++a.toArray))=g at c;have here:(g.push<|seqObj "list" a.toArray 0).get? (s.heap.objs.size+1)=some (seqObj "list" a.toArray 0):=by rw[<-c];exact aJ _ rfl
  have kp:∀b o,s.heap.get? b=some o->b≠s.heap.objs.size+1/\(g.push<|seqObj "list" a.toArray 0).get? b=some o:=λb o q=>by have lt:=aM q;refine⟨aV<|bQ lt,ai _ ?_⟩;rw[<-f,dZ _ _ _ _<|aV lt];exact ai _ q
  show wpAny _ _ _ _ _ {s with heap:=g.push<|seqObj "list" a.toArray 0};rw[c];refine ae (bH<|bE slot_list_sort ⟨_,here,rfl⟩ entry_list_sort (KW (s:={s with heap:=g.push<|seqObj "list" a.toArray 0}) here d p (λj t h=>n j t λb o q=>h b o (kp b o q).1 (kp b o q).2) λout r u=>⟨_,rfl,?_⟩)<|args_list_sort _);refine ah ⟨_,rfl,?_⟩;have e:sortedHeap (g.push<|seqObj "list" a.toArray 0) (s.heap.objs.size+1) a out=sortedAll s.heap a out:=by rw[<-f];rfl
  simp_all
noncomputable def nZ:aa D->aa D->i6
 |.int i::xs,.int j::a=>if i=j then nZ xs a else decide (i<j)
 |.str i::xs,.str j::a=>if i=j then nZ xs a else decide (i.cps.toList<j.cps.toList)
 |[],_::_=>true
 |_,_=>false
noncomputable def ltQ:D->D->i6
 |.int i,.int j=>decide (i<j)
 |.str i,.str j=>decide (i.cps.toList<j.cps.toList)
 |.tup a,.tup b=>nZ a b
 |_,_=>false
noncomputable def oZ:aa D->i0 (aa Nat)
 |[]=>some []
 |.int _::r=>(oZ r).map (0:: ·)
 |.str _::r=>(oZ r).map (1:: ·)
 |_=>none
noncomputable def kf:D->i0 (aa Nat)
 |.int _=>some [0]
 |.str _=>some [1]
 |.tup (a::r)=>(oZ<|a::r).map (2:: ·)
 |_=>none
def nG:aa D->i6
 |[]=>true
 |d::r=>(kf d).isSome&&r.all λe=>kf e==kf d
def zq(h:nG ds=true):∃s,∀d∈ds,kf d=some s:=by
 cases ds with
 |nil=>exact⟨[],λd a=>by simp at a⟩
 |cons d r=>unfold nG at h;simp only[aS,b9,dP]at h;obtain⟨s,b⟩:=d9.mp h.1;simp_all
def Za{x y:iS}(h:x.cps.toList=y.cps.toList):x=y:=by cases x;cases y;simp_all
def D8{x y:iS}(b:¬x.cps.toList<y.cps.toList)(a:¬y.cps.toList<x.cps.toList):x=y:=
 Za (List.le_antisymm (List.not_lt.mp a)<|List.not_lt.mp b)
def uD{i:Int}{s}(h:oZ (.int i::r)=some s):∃t,s=0::t/\oZ r=some t:=by obtain⟨t,b,a⟩:=ay.mp (show(oZ r).map (0:: ·)=some s from h);simp_all
def uE{s}(h:oZ (.str i::r)=some s):∃t,s=1::t/\oZ r=some t:=by obtain⟨t,b,a⟩:=ay.mp (show(oZ r).map (1:: ·)=some s from h);simp_all
inductive oR:List D->List D->Prop
 |nil:oR [] []
 |int (i j:Int) {xs ys:List D}:oR xs ys->oR (.int i::xs) (.int j::ys)
 |str (i j:Str) {xs ys:List D}:oR xs ys->oR (.str i::xs) (.str j::ys)
theorem En:∀{a b} {s},oZ a=some s->oZ b=some s->oR a b
 |[],b,s,c,f=>by
  cases c;cases b with
  |nil=>exact .nil
  |cons d r=>
   cases d with
   |int i=>obtain⟨t,e,_⟩:=uD f;cases e
   |str i=>obtain⟨t,e,_⟩:=uE f;cases e
   |_=>cases f
 |.int i::xs,b,s,c,f=>by
  obtain⟨t,rfl,k⟩:=uD c;cases b with
  |nil=>cases f
  |cons d r=>
   cases d with
   |int j=>obtain⟨g,e,h⟩:=uD f;cases e;exact .int i j (En k h)
   |str j=>obtain⟨g,e,_⟩:=uE f;cases e
   |_=>cases f
 |.str i::xs,b,s,c,f=>by
  obtain⟨t,rfl,k⟩:=uE c;cases b with
  |nil=>cases f
  |cons d r=>
   cases d with
   |str j=>obtain⟨g,e,h⟩:=uE f;cases e;exact .str i j (En k h)
   |int j=>obtain⟨g,e,_⟩:=uD f;cases e
   |_=>cases f
 |.non::_,_,_,c,_=>by cases c
 |.bl _::_,_,_,c,_=>by cases c
 |.ty _::_,_,_,c,_=>by cases c
 |.ref _::_,_,_,c,_=>by cases c
 |.tup _::_,_,_,c,_=>by cases c
 |.lst _::_,_,_,c,_=>by cases c
 |.exc _ _ _::_,_,_,c,_=>by cases c
def xh(i j:Int)(xs ys):nZ (.int i::xs) (.int j::ys)=if i=j then nZ xs ys else decide (i<j):=rfl
def xi(i j xs ys):nZ (.str i::xs) (.str j::ys)=if i=j then nZ xs ys else decide (i.cps.toList<j.cps.toList):=rfl
def Iy(h:oR a b):nZ a a=false:=by
 induction h with
 |nil=>rfl
 |int i j h c=>rw[xh,aq rfl];exact c
 |str i j h c=>rw[xi,aq rfl];exact c
def SG(h:oR a b)(d:nZ a b=false)(c:nZ b a=false):a=b:=by
 induction h with
 |nil=>rfl
 |int i j h f=>
  rw[xh]at d c
  lia
 |str i j h f=>
  rw[xi]at d c;by_cases e:i=j;.lia
  .rw[aA e]at d;rw[aA<|bK e]at c;simp only[eE]at d c;exact absurd (D8 d c) e
def SF(p:oR a b)(q:oR b c)(e:nZ a b=true)(f:nZ b c=true):nZ a c=true:=by
 have l:∀{r d:Type} [DecidableEq r] [LT d] [DecidableRel (α:=d) (· < ·)] (g:r->d),(∀{i j k:d},i<j->j<k->i<k)->(∀i:d,¬i<i)->∀{i j k:r} {P Q R:i6},(P=true->Q=true->R=true)->(if i=j then P else decide (g i<g j))=true->(if j=k then Q else decide (g j<g k))=true->(if i=k then R else decide (g i<g k))=true:=by grind
 induction p generalizing c with
 |nil=>cases e
 |int i j p h=>
  cases q with
  |int _ k q=>
   rw[xh]at e f⊢
   grind
 |str i j p h=>
  cases q with
  |str _ k q=>
   rw[xi]at e f⊢
   grind
inductive yt:D->D->Prop
 |int (i j:Int):yt (.int i) (.int j)
 |str (i j:Str):yt (.str i) (.str j)
 |tup {a b:List D} {d e:D}:oR (d::a) (e::b)->yt (.tup<|d::a) (.tup<|e::b)
def qm{s}(h:kf x=some s):(∃i,x=.int i/\s=[0])\/(∃i,x=.str i/\s=[1])\/∃d r t,x=.tup (d::r)/\s=2::t/\oZ (d::r)=some t:=by
 unfold kf at h;split at h;.simp_all
 .simp_all
 .rename_i a r;obtain⟨t,c,b⟩:=ay.mp h
  grind
 .cases h
def rW{s}(h:kf x=some s)(a:kf y=some s):yt x y:=by
 rcases qm h with⟨i,rfl,rfl⟩|⟨i,rfl,rfl⟩|⟨d,r,t,rfl,rfl,k⟩
 .rcases qm a with⟨j,rfl,_⟩|⟨j,rfl,e⟩|⟨g,f,c,rfl,e,b⟩;.exact .int i j
  .cases e
  .cases e
 .rcases qm a with⟨j,rfl,e⟩|⟨j,rfl,e⟩|⟨g,f,c,rfl,e,b⟩;.cases e
  .exact .str i j
  .cases e
 .rcases qm a with⟨j,rfl,e⟩|⟨j,rfl,e⟩|⟨g,f,c,rfl,e,b⟩;.cases e
  .cases e
  .cases e;exact .tup (En k b)
def IM{s}(h:kf x=some s):ltQ x x=false:=by
 cases rW h h with
 |int i j=>exact aG (by simp)
 |str i j=>exact aG (List.lt_irrefl _)
 |tup q=>exact Iy q
def C7{s}(f:kf x=some s)(e:kf y=some s)(d:ltQ x y=false)(c:ltQ y x=false):x=y:=by
 cases rW f e with
 |int i j=>
  have a:=dF d;have b:=dF c
  grind
 |str i j=>rw[D8 (dF d)<|dF c]
 |tup q=>rw[SG q d c]
def zC{s}(h:kf x=some s)(c:kf y=some s)(d:kf z=some s)(f:ltQ x y=true)(e:ltQ y z=true):ltQ x z=true:=by
 cases rW h c with
 |int i j=>
  cases rW c d with
  |int _ k=>have a:=cQ f;have b:=cQ e;exact aR (by lia)
 |str i j=>
  cases rW c d with
  |str _ k=>exact aR (List.lt_trans (cQ f)<|cQ e)
 |tup q=>
  cases rW c d with
  |tup g=>exact SF q g f e
def vA(x:D):aa D->aa D
 |[]=>[x]
 |y::r=>if ltQ y x=true then y::vA x r else x::y::r
def kJ(a:jD):aa D:=a.foldr vA []
def uT(c:jD):Prop:=c.Pairwise λa b=>ltQ b a=false
theorem CG(x):∀r:aa D,(vA x r).Perm (x::r)
 |[]=>.refl _
 |y::r=>by
  unfold vA;split;.exact((CG x r).cons y).trans (.swap x y r)
  .exact .refl _
theorem nh:∀a:aa D,(kJ a).Perm a
 |[]=>.refl _
 |d::r=>(CG d<|kJ r).trans ((nh r).cons d)
theorem HE{s}(e:kf x=some s):∀{r},(∀d∈r,kf d=some s)->uT r->uT (vA x r)
 |[],_,_=>eF ..
 |y::r,g,h=>by
  have c:=g y (.head _);obtain⟨i,l⟩:=dG.mp h;unfold vA;split
  .rename_i lt;refine dG.mpr ⟨λz a=>?_,HE e (λd k=>g d<|.tail _ k) l⟩;rcases aI.mp ((CG x r).mem_iff.mp a)with rfl|a
   .cases q:ltQ z y with
    |false=>rfl
    |true=>have:=zC c e c lt q;rw[IM c]at this;cases this
   .exact i z a
  .rename_i lt;have b:ltQ y x=false:=by simpa using lt
   refine dG.mpr ⟨λz a=>?_,h⟩;rcases aI.mp a with rfl|a;.exact b
   .cases q:ltQ z x with
    |false=>rfl
    |true=>
     have f:=g z (.tail _ a);cases j:ltQ x y with
     |true=>have:=zC f e c q j;rw[i z a]at this;cases this
     |false=>rw[C7 e c j b]at q;rw[i z a]at q;cases q
theorem uF{s}:∀{ds},(∀d∈ds,kf d=some s)->uT (kJ ds)
 |[],_=>.nil
 |d::r,h=>HE (h d<|.head _) (λe a=>h e<|.tail _<|(nh r).mem_iff.mp a) (uF λe a=>h e<|.tail _ a)
def DZ{s}{a:jD}(h:a.Perm b)(c:∀d∈a,kf d=some s)(i:uT a)(g:uT b):a=b:=
 List.Perm.eq_of_pairwise (λx y f e k j=>C7 (c x f) (c y<|h.symm.mem_iff.mp e) j k) i g h
def xE:D->R (aa D)
 |.lst ds=>if nG ds=true/\ds.length<64 then .ok (kJ ds)else .bad
 |_=>.bad
def uK:D->iT->Prop
 |.int i,.int j _=>i=j
 |.str x,.str y _=>x=y
 |_,_=>False
inductive qZ:List D->List Value->Prop
 |nil:qZ [] []
 |cons {d:D} {v:Value} {ds:List D} {vs:List Value}:uK d v->qZ ds vs->qZ (d::ds) (v::vs)
def TupAt(h:jb)(u:iT)(c:jD):Prop:=∃a o b n,u=.ref a/\h.get? a=some o/\o.cls=.type "tuple"/\o.data=.seq b n/\qZ c b.toList
def TupAt.keep{u}(t:TupAt h u ds)(k:∀b o,h.get? b=some o->h'.get? b=some o):TupAt h' u ds:=
 let⟨a,o,c,n,e,d,r⟩:=t;⟨a,o,c,n,e,k a o d,r⟩
def q8(h:jb)(u:iT):D->Prop
 |.int i=>uK (.int i) u
 |.str x=>uK (.str x) u
 |.tup ds=>TupAt h u ds
 |_=>False
def q8.keep{u d}(t:q8 h u d)(k:∀b o,h.get? b=some o->h'.get? b=some o):q8 h' u d:=by
 cases d with
 |tup a=>exact TupAt.keep t k
 |_=>exact t
def vl(h:uK (.int i) v):∃t,v=.int i t:=by
 cases v with
 |int j t=>cases h;exact⟨t,rfl⟩
 |_=>exact h.elim
def vn(h:uK (.str i) v):∃t,v=.str i t:=by
 cases v with
 |str j t=>cases h;exact⟨t,rfl⟩
 |_=>exact h.elim
def UG{t u}(h:Q (decide<|i<j) s):wpAny (model prog w) A (oneLt' b (.int i t)<|.int j u) Q E s:=by
 cases b with
 |true=>exact oneLt_int h
 |false=>exact kat_one _ _ (lt_int h)
def UH{t u}(h:Q (decide<|i.cps.toList<j.cps.toList) s):wpAny (model prog w) A (oneLt' b (.str i t)<|.str j u) Q E s:=by
 cases b with
 |true=>exact oneLt_str h
 |false=>exact kat_one _ _ (PyProof.Rows.lt_str h)
def SE:∀{b a},oR b a->∀{d c} i,qZ b d->qZ a c->(b=a->Q fin s)->(b≠a->Q (nZ b a) s)->KatLex prog w A fl fin Q (d.zip c) i s:=by
 intro b a q;induction q with
 |nil=>intro d c i f g h _;cases f;cases g;exact h rfl
 |int x y q m=>
  intro d c i f g n j;cases f with
  |cons p l=>
   cases g with
   |cons o k=>
    obtain⟨t,rfl⟩:=vl p;obtain⟨r,rfl⟩:=vl o;rw[f6];refine kat_cons (wpAny_eqBool_int ?_);by_cases e:x=y
    .subst e;rw[show(x==x)=true by simp];refine kat_yes (m (i+1) l k (λw=>n<|by rw[w]) λw=>?_);have:=j (λz=>w<|by injection z)
     rwa [xh,aq rfl]at this
    .rw[show(x==y)=false by simpa using e];refine kat_no (UG ?_);have:=j (λz=>e<|by injection z with z1;injection z1)
     rwa [xh,aA e]at this
 |str x y q m=>
  intro d c i f g n j;cases f with
  |cons p l=>
   cases g with
   |cons o k=>
    obtain⟨t,rfl⟩:=vn p;obtain⟨r,rfl⟩:=vn o;rw[f6];refine kat_cons (wpAny_eqBool_str ?_);by_cases e:x=y
    .subst e;rw[show decide (x=x)=true by simp];refine kat_yes (m (i+1) l k (λw=>n<|by rw[w]) λw=>?_);have:=j (λz=>w<|by injection z)
     rwa [xi,aq rfl]at this
    .rw[show decide (x=y)=false by simpa using e];refine kat_no (UH ?_);have:=j (λz=>e<|by injection z with z1;injection z1)
     rwa [xi,aA e]at this
def Fy(h:qZ xs us):xs.length=us.length:=by
 induction h with
 |nil=>rfl
 |cons _ _ a=>simp_all
def aao{u}(q:oR xs ys)(f:TupAt s.heap u xs)(hv:TupAt s.heap v ys)(h:Q (nZ xs ys) s):wpAny (model prog w) A (keyLt' (tuples' fl) u v) Q E s:=by obtain⟨a,o,r,n,rfl,i,y,g,c⟩:=f;obtain⟨b,p,l,m,rfl,k,z,j,d⟩:=hv;refine kat_lt i g k j (SE q 0 c d (λe=>?_) λ_=>h);have x:=Fy c;have t:=Fy d;subst e;rw[Iy q]at h;simp_all
inductive m6(h:Heap):List Value->List D->Prop
 |nil:m6 h [] []
 |cons {u:Value} {d:D} {us:List Value} {ds:List D}:q8 h u d->m6 h us ds->m6 h (u::us) (d::ds)
def m6.keep(t:m6 h us ds)(k:∀b o,h.get? b=some o->h'.get? b=some o):m6 h' us ds:=by
 induction t with
 |nil=>exact .nil
 |cons a _ c=>exact .cons (a.keep k) c
def m6.len(t:m6 h us ds):us.length=ds.length:=by
 induction t with
 |nil=>rfl
 |cons a _ b=>simp_all
def m6.get(t:m6 h us ds):∀{i},i<ds.length->q8 h (us.getD i .none) (ds.getD i .non):=by
 induction t with
 |nil=>simp
 |cons a _ b=>grind
theorem HG:∀{c} {f},m6 h c f->(∀d∈f,kf d=some [0])->∃b,IntsAre c b
 |_,_,.nil,_=>⟨[],.nil⟩
 |_,_,.cons (d:=d) a r,hs=>by
  rcases qm (hs d (.head _))with⟨i,rfl,_⟩|⟨i,rfl,e⟩|⟨_,_,_,rfl,e,_⟩
  .obtain⟨t,rfl⟩:=vl a;obtain⟨b,g⟩:=HG r λd j=>hs d (.tail _ j);exact⟨i::b,.cons i t g⟩
  .cases e
  .cases e
theorem K3:∀{c} {f},m6 h c f->(∀d∈f,kf d=some [1])->∃b,StrsAre c b
 |_,_,.nil,_=>⟨[],.nil⟩
 |_,_,.cons (d:=d) a r,hs=>by
  rcases qm (hs d (.head _))with⟨i,rfl,e⟩|⟨i,rfl,_⟩|⟨_,_,_,rfl,e,_⟩;.cases e
  .obtain⟨t,rfl⟩:=vn a;obtain⟨b,g⟩:=K3 r λd j=>hs d (.tail _ j);exact⟨i::b,.cons i t g⟩
  .cases e
theorem Lh{k t}:∀{g} {q},m6 h g q->(∀d∈q,kf d=some (2::k::t))->∃fs,KatTups h g fs/\fs.length=g.length/\∀v∈fs,(k=0/\∃i u,v=.int i u)\/(k=1/\∃i u,v=.str i u)
 |_,_,.nil,_=>⟨[],.nil,rfl,λv hv=>by simp at hv⟩
 |_,_,.cons (d:=d) a r,hs=>by
  obtain⟨fs,H,G,F⟩:=Lh r λd x=>hs d (.tail _ x);rcases qm (hs d (.head _))with⟨i,rfl,e⟩|⟨i,rfl,e⟩|⟨I,L,K,rfl,e,l⟩;.cases e
  .cases e
  .cases e;obtain⟨b,o,p,n,rfl,C,B,y,c⟩:=a;cases j:p.toList with
   |nil=>rw[j]at c;cases c
   |cons f J=>
    rw[j]at c;cases c with
    |cons hf M=>
     have D:p[0]?=some f:=by rw[<-bg,j];rfl
     refine⟨f::fs,.cons C B y D H,by simp[G],λv hv=>?_⟩;rcases aI.mp hv with rfl|hv
     .cases I with
      |int i=>obtain⟨z,m,_⟩:=uD l;cases m;obtain⟨u,rfl⟩:=vl hf;exact .inl ⟨rfl,i,u,rfl⟩
      |str i=>obtain⟨z,m,_⟩:=uE l;cases m;obtain⟨u,rfl⟩:=vn hf;exact .inr ⟨rfl,i,u,rfl⟩
      |_=>cases l
     .exact F v hv
def Sq(t:m6 s.heap us ds)(W:2<=us.length)(H:∀d∈ds,kf d=some sg):
    ∃L:SortKind,(∀Q:SortKind->i7->Prop,Q L s->wpAny (model prog w) A (keyKind' us.toArray) Q E s)/\
     ∀i j,i<ds.length->j<ds.length->∀C:i6->i7->Prop,C (ltQ (ds.getD i .non)<|ds.getD j .non) s->wpAny (model prog w) A (keyLt' L (us.getD i .none)<|us.getD j .none) C E s:=by
 have hl:=t.len;have n:∀i,i<ds.length->kf (ds.getD i .non)=some sg:=λi h=>by simp_all
 have Y:=n 0 (by lia);obtain⟨D,B,r,rfl⟩:∃D B r,us=D::B::r:=by
  match us,W with
  |D::B::r,_=>exact⟨D,B,r,rfl⟩
 rcases qm Y with⟨U,N,rfl⟩|⟨U,N,rfl⟩|⟨O,Z,R,N,rfl,o⟩
 .obtain⟨S,I⟩:=HG t H;refine⟨oneType',λQ q=>by rw[keyKind_ints I];exact ah q,λi j h l C c=>?_⟩;have a:=t.get h;have b:=t.get l;have g:=n i h;have m:=n j l;generalize ds.getD i .non=x at a c g;generalize ds.getD j .non=y at b c m;cases rW g m with
  |int x y=>obtain⟨F,p⟩:=vl a;obtain⟨P,o⟩:=vl b;rw[p,o,keyLt'_oneType];exact oneLt_int c
  |str x y=>cases g
  |tup q=>rcases qm g with⟨_,e,_⟩|⟨_,e,_⟩|⟨_,_,_,_,e,_⟩<;>cases e
 .obtain⟨S,I⟩:=K3 t H;refine⟨oneType',λQ q=>by rw[keyKind_strs I];exact ah q,λi j h l C c=>?_⟩;have a:=t.get h;have b:=t.get l;have g:=n i h;have m:=n j l;generalize ds.getD i .non=x at a c g;generalize ds.getD j .non=y at b c m;cases rW g m with
  |int x y=>cases g
  |str x y=>obtain⟨F,p⟩:=vn a;obtain⟨P,o⟩:=vn b;rw[p,o,keyLt'_oneType];exact oneLt_str c
  |tup q=>rcases qm g with⟨_,e,_⟩|⟨_,e,_⟩|⟨_,_,_,_,e,_⟩<;>cases e
 .obtain⟨k,F,G⟩:∃k F,R=k::F:=by
   cases O with
   |int i=>obtain⟨z,p,_⟩:=uD o;exact⟨_,_,p⟩
   |str i=>obtain⟨z,p,_⟩:=uE o;exact⟨_,_,p⟩
   |_=>cases o
  subst G;obtain⟨fs,M,K,J⟩:=Lh t H;refine⟨tuples' true,λQ q=>?_,λi j h l C c=>?_⟩
  .have V:k=0\/k=1:=by
    cases fs with
    |nil=>simp at K
    |cons f fr=>rcases J f (.head _)with⟨e,_⟩|⟨e,_⟩<;>simp_all
   rcases V with rfl|rfl
   .refine kat_kind (T:=.type "int") M (by rw[K];simp) (λv hv=>?_) (by rfl) q;rcases J v hv with⟨_,i,u,rfl⟩|⟨e,_⟩;.exact .now
    .cases e
   .refine kat_kind (T:=.type "str") M (by rw[K];simp) (λv hv=>?_) (by rfl) q;rcases J v hv with⟨e,_⟩|⟨_,i,u,rfl⟩;.cases e
    .exact .now
  .have a:=t.get h;have b:=t.get l;have g:=n i h;have m:=n j l;generalize ds.getD i .non=x at a c g;generalize ds.getD j .non=y at b c m;cases rW g m with
   |tup q=>exact aao q a b c
   |_=>cases g
def outs(a:kn)(p:nJ):aa iT:=p.toList.map λi=>a.getD i .none
def outD(a:jD)(p:nJ):aa D:=p.toList.map λi=>a.getD i .non
def Cc(l:aa r)(x):(List.range l.length).map (λi=>l.getD i x)=l:=by
 apply gF;.simp
 .simp_all
def Vf(h:kP ds.length p):(outD ds p).Perm ds:=by have:=(dS.mp h).map λi=>ds.getD i .non;rw[show(List.range ds.length).toArray.toList=List.range ds.length from rfl,Cc]at this;exact this
def Vg(n:∀d∈ds,kf d=some sg)(h:kP ds.length p)(e:0<ds.length)
 (a:oM (rankOf ds.length λi j=>ltQ (ds.getD i .non)<|ds.getD j .non) p ds.length)(o:∀i j,i<ds.length->j<ds.length->ltQ (ds.getD i .non) (ds.getD j .non)=decide (rankOf ds.length (λi j=>ltQ (ds.getD i .non)<|ds.getD j .non) i<rankOf ds.length (λi j=>ltQ (ds.getD i .non)<|ds.getD j .non) j)):uT (outD ds p):=by
  have sz:=h.size;refine f9.mpr λi j c b f=>?_;unfold outD at c b⊢;rw[aj,aF]at c b;rw[List.getElem_map,List.getElem_map,ib,ib];have m:p.getD i 0=p[i]:=by simp[Array.getD,c]
  have l:p.getD j 0=p[j]:=by simp[Array.getD,b]
  have k:=h.lt e i;have g:=h.lt e j;have le:=a i j (by walk_at "l") (by simp_all);rw[<-zd,<-zd]at le;simp_all
def KU(t:m6 s.heap us ds)(N:nG ds=true)(H:2<=us.length)(u:us.length<64):yp prog w (λout=>∃p,kP ds.length p/\out.toList=P2.outs us p/\outD ds p=kJ ds) us s:=by
 intro B;obtain⟨I,m⟩:=zq N;obtain⟨Y,L,K⟩:=Sq (prog:=prog) (w:=w) (A:=B) (E:=λ_ _=>False) t H m;have M:=t.len;have f:∀i,i<ds.length->kf (ds.getD i .non)=some I:=λi b=>by simp_all
 have F:=X9 (n:=ds.length) (c:=λi j=>ltQ (ds.getD i .non)<|ds.getD j .non) (λi b=>IM<|f i b) (λi j k b l o=>zC (f i b) (f j l)<|f k o) λi j k b l o h=>by
  cases z:ltQ (ds.getD k .non) (ds.getD j .non)with
  |true=>exact .inl rfl
  |false=>
   cases J:ltQ (ds.getD i .non) (ds.getD k .non)with
   |true=>exact .inr rfl
   |false=>
    cases y:ltQ (ds.getD k .non) (ds.getD i .non)with
    |true=>have:=zC (f k o) (f i b) (f j l) y h;rw[z]at this;cases this
    |false=>have:=C7 (f i b) (f k o) J y;rw[this,z]at h;cases h
 refine L _ ⟨rfl,?_⟩
 refine br (kat_run (ks:=us) (vs:=us) (Q:=λa g=>g=s/\failedOf a=none/\((arrOf a).map (·.2)).size=us.length/\∃p,kP ds.length p/\((arrOf a).map (·.2)).toList=P2.outs us p/\outD ds p=kJ ds)
  (G:=λp g=>g=s/\kP ds.length p/\outD ds p=kJ ds) rfl H u (λp a g W V U T=>?_) ?_) (λr g q=>q) λ_ _ x=>x
 .obtain⟨b1,S,R⟩:=T;have e:=kat_snds rfl V;refine⟨b1,U,?_,p,S,?_,R⟩;.rw[e];simp[W]
  .rw[e];rfl
 .rw[M];refine lA.wp (c:=λi j=>ltQ (ds.getD i .non)<|ds.getD j .non) (Q:=λp=>kP ds.length p/\outD ds p=kJ ds) (λi j b l C c=>K i j b l C c) (λp q=>⟨rfl,q⟩) ?_;refine UE F (by lia) λp v P=>⟨v,?_⟩;have D:=Vf v;exact DZ (D.trans (nh ds).symm) (λd O=>m d<|D.mem_iff.mp O) (Vg m v (by lia) P F) (uF m)
variable{X:Cx}{E:XK}{e:jf}{J:TE}{f:jx}{L F:Pos}
def yV{d u}(r:Rep K al H v d)(hv:RelV v u)(h:(∃i,d=.int i)\/∃i,d=.str i):uK d u:=by
 rcases h with⟨i,rfl⟩|⟨i,rfl⟩;.cases r;obtain⟨t,rfl⟩:=hv;rfl
 .cases r;obtain⟨t,rfl⟩:=hv;rfl
def OY:∀{c} {k} {g} {j},oZ c=some k->ja K al H g c->Vals g j->qZ c j:=by
 intro c k g j h r v;induction c generalizing k g j with
 |nil=>cases r;cases v;exact .nil
 |cons d _ l=>
  cases r with
  |cons a b=>
   cases v with
   |cons hv m=>
    cases d with
    |int i=>obtain⟨t,_,e⟩:=uD h;exact .cons (yV a hv<|.inl ⟨i,rfl⟩) (l e b m)
    |str i=>obtain⟨t,_,e⟩:=uE h;exact .cons (yV a hv<|.inr ⟨i,rfl⟩) (l e b m)
    |_=>cases h
def RI{s}(I:Inv X pins y H s){d u}(r:Rep X.K al H v d)(hv:RelV v u)(h:kf d=some sg):q8 s.heap u d:=by
 rcases qm h with⟨i,rfl,_⟩|⟨i,rfl,_⟩|⟨x,p,t,rfl,_,e⟩;.exact yV r hv (.inl ⟨i,rfl⟩)
 .exact yV r hv (.inr ⟨i,rfl⟩)
 .obtain⟨a,m,rfl,g,c⟩:=r.o4;obtain rfl:u=.ref a:=hv;obtain⟨b,q,⟨o,l,k,n,j⟩,_⟩:=I.tuple g;exact⟨a,o,_,n,rfl,l,k,j,OY e c q⟩
def RJ{s}(I:Inv X pins u H s):∀{c} {g} {i},(∀d∈c,kf d=some sg)->ja X.K al H g c->Vals g i->m6 s.heap i c:=by
 intro c g i h r v;induction c generalizing g i with
 |nil=>cases r;cases v;exact .nil
 |cons d _ j=>
  cases r with
  |cons a b=>
   cases v with
   |cons hv k=>exact .cons (RI I a hv<|h d<|.head _) (j (λe l=>h e<|.tail _ l) b k)
theorem Ly(h:Vals vs us):∀l:aa Nat,(∀i∈l,i<us.length)->Vals (l.map λi=>vs.getD i .non) (l.map λi=>us.getD i .none)
 |[],_=>.nil
 |i::l,c=>by
  have get:∀{vs:aa V} {us:kn},Vals vs us->∀i,i<us.length->RelV (vs.getD i .non) (us.getD i .none):=λ{vs us} h=>by
   induction h with
   |nil=>intro i b;simp at b
   |cons a _ d=>
    intro i b;cases i with
    |zero=>simpa using a
    |succ i=>simpa using d i (by simpa using b)
  exact .cons (get h i<|c i<|.head _) (Ly h l λj g=>c j<|.tail _ g)
theorem Kq(h:ja K al H vs ds):∀l:aa Nat,(∀i∈l,i<ds.length)->ja K al H (l.map λi=>vs.getD i .non) (l.map λi=>ds.getD i .non)
 |[],_=>.nil
 |i::l,a=>by have b:=a i (.head _);obtain⟨v,g,d⟩:=h.getD (ax b);refine .cons ?_ (Kq h l λj c=>a j<|.tail _ c);show Rep K al H (vs.getD i V.non) (ds.getD i D.non);rw[bN,bN,g,ax b];exact d
def HC{n}(h:kP n p):∀i∈p.toList,i<n:=λi a=>by have:=(dS.mp h).mem_iff.mp a;simpa using this
def We(Y:PE X e J)(hg:Gl X "sorted")(hm:X.mg "sorted"=none)
 (hs:X.se e [])(W:X.bk F []):
   PE X (.Call (.Name "sorted" L) [e] [] F) (λz H Q=>J z H λx0 g=>∃x,[x0]=[x]/\∃l m c y,x=.ref l/\lH X.K g l m/\ja X.K y g m c/\nG c=true/\c.length<64/\∀p a,g p=none->ja X.K y g a (kJ c)->Q (.ref p) (upd g p<|.lst a)):=by
  intro j s z H Q I h;refine cG (ui I hg hm FQ ?_ (by decide) (by decide));have Z:PA X [e] (Eg J Eh):=rO Y rP hs;refine dm (je (Z F j s z H (λC g=>∃x,C=[x]/\∃(l:iR) (m:aa V) (c:jD) (y:ko),x=.ref l/\lH X.K g l m/\ja X.K y g m c/\nG c=true/\c.length<64/\∀p a,g p=none->ja X.K y g a (kJ c)->Q (.ref p) (upd g p<|.lst a)) I h) λus n U=>?_) hs W;obtain⟨C,g,S,r1,q1⟩:=U;obtain⟨x,rfl,l,m,c,y,rfl,hl,P,hh,Ho,q⟩:=q1;obtain⟨u,rfl,ru⟩:=vals1 r1;obtain rfl:u=Value.ref l:=ru;obtain⟨k,O,pl,hz⟩:=S.list hl;obtain⟨sg,T⟩:=zq hh;have hle:=O.length;have K:=P.length;have it:=RJ S T P O;have M:∀(out:rn) (a:aa V),out.size=k.length->Vals a out.toList->ja X.K y g a (kJ c)->∃v H',Inv X j z H' {n with heap:=sortedAll n.heap k out}/\RelV v (.ref<|n.heap.objs.size+1)/\Q v H':=λout a ho R o=>by
   obtain⟨ep,Y⟩:=sortedAll_at n.heap k out;have lw:a.length<=sizeLine:=by have:=R.length;simp only[aF]at this;simp_all
   have I2:Inv X j z (upd g (n.heap.objs.size+1)<|.lst a) {n with heap:=sortedAll n.heap k out}:=
    S.laid (t':=n.toks) (λb u e=>sortedAll_old e) (cN _) (show kH X.prog X.w _ _ _ (.lst a)from⟨lw,out.toList,ep,R,by rw[ic];exact Y⟩)
   exact⟨.ref _,_,I2,rfl,q _ a (S.hok.fresh<|cN _) o⟩
  refine Y2 (G:=λout=>∃a,Vals a out.toList/\ja X.K y g a (kJ c)) pl.isList (by simp_all) (λh2=>⟨m,by simpa using O,?_⟩) (λh2 t kp B=>?_) λout ho hG=>?_
  .have:kJ c=c:=by
    match c,K with
    |[],_=>rfl
    |[d],_=>rfl
    |_::_::r,w=>simp at w;lia
   rw[this];exact P
  .have:=KU (prog:=X.prog) (w:=X.w) (s:=t) (it.keep kp) hh h2 (by simp_all) B;refine br this (λκ t' hk=>⟨hk.1,br hk.2 (λr t'' o=>⟨o.1,o.2.1,o.2.2.1,?_⟩) λ_ _ x=>x⟩) λ_ _ x=>x;obtain⟨p,g1,g2,g3⟩:=o.2.2.2;have N:=HC g1;refine⟨p.toList.map λi=>m.getD i .non,?_,?_⟩;.rw[g2];exact Ly O _ λi hi=>by have:=N i hi;simp_all
   .rw[<-g3];exact Kq P _ N
  .obtain⟨a,R,o⟩:=hG;exact M out a ho R o
def N3(x:Gl X "sorted")(q:X.mg "sorted"=none)(y:DE X E e f)
 (n:autoParam (X.se e []) aZ0)(c:autoParam (X.bk F []) aZ0):
   DN X E (.Call (.Name "sorted" L) [e] [] F) (λg=>(f g).bind xE):=by
  obtain⟨t,p,r⟩:=y;refine⟨_,We p x q n c,λ{_ _ C _ _ _ _} s h=>r s<|Aft.mono (Aft.split h) λ{_ d} D a v k=>⟨v,rfl,?_⟩⟩;unfold xE at a;split at a
  .rename_i B;split at a
   .rename_i z;obtain⟨l,j,rfl,u,b⟩:=k.oU;exact⟨l,j,B,C,rfl,u,b,z.1,z.2,λp i o m=>a d (.refl d) p i o m⟩
   .exact a.elim
  .exact a.elim
end P2
namespace P2
open PySem L2
inductive Z where
 |d(x:D)|loc(n:Nat)|tk(ks:List Key)
abbrev iW(x:Int):i0 Z:=some (.d<|.int x)
abbrev iX(x:jD):i0 Z:=some (.d<|.lst x)
abbrev iM(x:D):i0 Z:=some (.d x)
abbrev ba(n:Nat):i0 Z:=some (.loc n)
inductive Cell where
 |li(zs:List Z)|ob(C:Addr)(fs:List<|Str×Z)|dk(kvs:List<|Key×Z)|dt(kvs:List<|List Key×Z)|ft(kvs:List<|List Key×Z)|no|mk
abbrev iZ:=aa Cell
abbrev Lo:=Nat->i0 iR
abbrev jk:=aa (i0 Z)
def jS(K:i9)(b:ko)(lo:Lo)(H:Hp)(v:V):Z->Prop
 |.d x=>Rep K b H v x
 |.loc n=>∃a,lo n=some a/\v=.ref a
 |.tk c=>∃a,b a/\H a=some (.tup<|c.map kV)/\v=.ref a
inductive jU(K:W.Frag)(al:Addr->Prop)(lo:Lo)(H:Hp):List V->List Z->Prop
 |nil:jU K al lo H [] []
 |cons {v:V} {z:Z} {vs:List V} {zs:List Z}:jS K al lo H v z->jU K al lo H vs zs->jU K al lo H (v::vs) (z::zs)
inductive j4{r:Type}(K:W.Frag)(al:Addr->Prop)(lo:Lo)(H:Hp):List (r×V)->List (r×Z)->Prop
 |nil:j4 K al lo H [] []
 |cons {k:r} {v:V} {z:Z} {vs:List<|r×V} {zs:List<|r×Z}:jS K al lo H v z->j4 K al lo H vs zs->j4 K al lo H ((k,v)::vs) ((k,z)::zs)
def lQ(K:i9)(d:ko)(lo:Lo)(H:Hp)(a:iR):Cell->Prop
 |.li zs=>∃e,H a=some (.lst e)/\jU K d lo H e zs
 |.ob C fs=>∃f b,H a=some (.ins C f b)/\j4 K d lo H b fs
 |.dk c=>∃b,H a=some (.dK b)/\j4 K d lo H b c
 |.dt c=>∃b,H a=some (.dT b)/\j4 K d lo H b c
 |.ft c=>∃b o,H a=some (.kd o<|.dT b)/\j4 K d lo H b c
 |.no=>False
 |.mk=>False
def Fj(o:HO):Prop:=(∃a,o=.tup a)\/∃b,o=.ma b
structure tH(K:i9)(al:ko)(lo:Lo)(H:Hp)(S:iZ):Prop where
 at':∀n a,lo n=some a->∃c,S[n]?=some c/\lQ K al lo H a c
 has:∀n c,S[n]?=some c->c≠.no->c≠.mk->∃a,lo n=some a
 na:∀n a,lo n=some a->¬al a
 inj:∀m n a,lo m=some a->lo n=some a->m=n
 tl:S[0]?=some .mk->∀b o,H b=some o->Fj o->al b
structure Z0 where
 H:Hp
 al:iR->Prop
 lo:Lo
 n:Nat
structure EZ(K:i9)(B:Z0)(al:ko)(lo:Lo)(H:Hp)(S:iZ):Prop where
 fr:∀b o,NT o->B.H b=some o->(∀n,B.lo n≠some b)->H b=some o
 hf:∀b,H b=none->B.H b=none
 tt:md K H
 fresh:∀a,H a=none->al a
 st:tH K al lo H S
 lx:∀n a,B.lo n=some a->lo n=some a
 nw:∀n a,lo n=some a->B.lo n=some a\/(B.H a=none/\B.n<=n)
 bd:∀n a,B.lo n=some a->n<B.n
 sz:B.n<=S.length
 xt:Xt B.al B.H al H
 sb:∀a,al a->B.al a\/B.H a=none
structure RZ(K:i9)(B:Z0)(al:ko)(lo:Lo)(H:Hp)(u:St)(r:jk)(S:iZ):Prop extends EZ K B al lo H S where
 len:r.length=u.length
 vr:∀(i:Nat) (z:Z),r[i]?=some (some z)->∃v,u[i]?=some (some v)/\jS K al lo H v z
def Lx(lo b:Lo):Prop:=∀n a,lo n=some a->b n=some a
def Lx.refl{lo}:Lx lo lo:=λ_ _ h=>h
def Lx.trans{lo}(x:Lx lo lo1)(y:Lx lo1 xj):Lx lo xj:=λn a h=>y n a (x n a h)
section
variable{K:i9}{f A:ko}{lo l:Lo}{H F:Hp}
def jS.mv(x:Xt f H A F)(y:Lx lo l)(r:jS K f lo H v z):jS K A l F v z:=by
 cases z with
 |d d=>exact Rep.mv x r
 |loc n=>obtain⟨a,c,b⟩:=r;exact⟨a,y n a c,b⟩
 |tk e=>obtain⟨a,c,b,g⟩:=r;obtain⟨j,i⟩:=x a (.tup<|e.map kV) (λ_ h=>nomatch h) c b;exact⟨a,j,i,g⟩
def jU.mv(x:Xt f H A F)(y:Lx lo l)(r:jU K f lo H vs zs):jU K A l F vs zs:=by
 induction r with
 |nil=>exact .nil
 |cons a _ b=>exact .cons (a.mv x y) b
def j4.mv(x:Xt f H A F)(y:Lx lo l)(r:j4 K f lo H vs zs):j4 K A l F vs zs:=by
 induction r with
 |nil=>exact .nil
 |cons a _ b=>exact .cons (a.mv x y) b
def jU.length(r:jU K f lo H vs zs):vs.length=zs.length:=by
 induction r with
 |nil=>rfl
 |cons _ _ a=>simp_all
def jU.append(r:jU K f lo H vs zs)(q:jU K f lo H ws ys):jU K f lo H (vs++ws) (zs++ys):=by
 induction r with
 |nil=>exact q
 |cons a _ b=>exact .cons a b
def jU.get(r:jU K f lo H vs zs){i:Nat}(e:zs[i]?=some z):∃v,vs[i]?=some v/\jS K f lo H v z:=by
 induction r generalizing i with
 |nil=>simp at e
 |cons a _ b=>grind
def jU.set(r:jU K f lo H vs zs)(q:jS K f lo H v z)(i):jU K f lo H (vs.set i v) (zs.set i z):=by
 induction r generalizing i with
 |nil=>exact .nil
 |cons a b c=>
  cases i with
  |zero=>exact .cons q b
  |succ i=>exact .cons a (c i)
def jU.ofD(r:ja K f H vs ds):jU K f lo H vs (ds.map .d):=by
 induction ds generalizing vs with
 |nil=>cases r;exact .nil
 |cons d ds c=>cases r with|cons a b=>exact .cons a (c b)
def jU.toD(r:jU K f lo H vs<|ds.map .d):ja K f H vs ds:=by
 induction ds generalizing vs with
 |nil=>cases r;exact .nil
 |cons d ds c=>cases r with|cons a b=>exact .cons a (c b)
def lQ.mv(x:Xt f H A F)(y:Lx lo l)(e:∀o,NT o->H a=some o->F a=some o)(r:lQ K f lo H a c):lQ K A l F a c:=by
 cases c with
 |li m=>obtain⟨i,d,b⟩:=r;exact⟨i,e _ nc d,b.mv x y⟩
 |ob C fs=>obtain⟨k,g,d,b⟩:=r;exact⟨k,g,e _ (λ_ h=>nomatch h) d,b.mv x y⟩
 |ft j=>obtain⟨g,o,d,b⟩:=r;exact⟨g,o,e _ (λ_ h=>nomatch h) d,b.mv x y⟩
 |no=>exact r
 |mk=>exact r
 |_=>obtain⟨g,d,b⟩:=r;exact⟨g,e _ (λ_ h=>nomatch h) d,b.mv x y⟩
def lQ.uf(r:lQ K f lo H a c):H a≠none/\(∀g,H a≠some (.ma g))/\(∀q,H a≠some (lG a q)):=by
 cases c with
 |li i=>obtain⟨j,b,d⟩:=r;rw[b];exact⟨nofun,λ_=>nofun,λ_ w=>by unfold lG at w;exact nomatch w⟩
 |ob C fs=>obtain⟨k,e,b,d⟩:=r;rw[b];exact⟨nofun,λ_=>nofun,λ_ w=>by unfold lG at w;exact nomatch w⟩
 |ft h=>obtain⟨e,o,b,d⟩:=r;rw[b];exact⟨nofun,λ_=>nofun,λ_ w=>by unfold lG at w;exact nomatch w⟩
 |no=>exact r.elim
 |mk=>exact r.elim
 |_=>obtain⟨e,b,d⟩:=r;rw[b];exact⟨nofun,λ_=>nofun,λ_ w=>by unfold lG at w;exact nomatch w⟩
def lQ.I0(r:lQ K f lo H a c){o}(h:H a=some o):¬Fj o:=by
 rintro (⟨k,rfl⟩|⟨g,rfl⟩)
 .cases c with
  |li j=>obtain⟨m,b,d⟩:=r;rw[h]at b;cases b
  |ob C fs=>obtain⟨n,e,b,d⟩:=r;rw[h]at b;cases b
  |ft i=>obtain⟨e,o,b,d⟩:=r;rw[h]at b;cases b
  |no=>exact r.elim
  |mk=>exact r.elim
  |_=>obtain⟨e,b,d⟩:=r;rw[h]at b;cases b
 .exact r.uf.2.1 g h
variable{B:Z0}{I:St}{E:jk}{S:iZ}
def EZ.start{zs:aa Z}(tt:md K H)(fr:∀a,H a=none->f a)(st:tH K f lo H S):EZ K ⟨H,f,lo,S.length⟩ f lo H S where
 fr:=λ_ _ _ h _=>h
 hf:=λ_ h=>h
 tt:=tt
 fresh:=fr
 st:=st
 lx:=λ_ _ h=>h
 nw:=λ_ _ h=>.inl h
 bd:=λn a h=>by obtain⟨c,e,_⟩:=st.at' n a h;exact(az.mp e).1
 sz:=af _
 xt:=.refl
 sb:=λ_ h=>.inl h
def EZ.grow(r:EZ K B f lo H S)(s:kU K H F):EZ K B f lo F S where
 fr:=λb o n h w=>s.at' b o n (r.fr b o n h w)
 hf:=λb h=>r.hf b (s.fr b h)
 tt:=s.tt r.tt
 fresh:=λa h=>r.fresh a (s.fr a h)
 st:={
  at':=λn a h=>by obtain⟨c,e,q⟩:=r.st.at' n a h;exact⟨c,e,q.mv (.of s) .refl λo no h=>s.at' _ o no h⟩
  has:=r.st.has
  na:=r.st.na
  inj:=r.st.inj
  tl:=λm b o k j=>by
   cases q:H b with
   |none=>exact r.fresh b q
   |some d=>
    by_cases g:NT d
    · have e:=s.at' b d g q;rw[k]at e;cases e;exact r.st.tl m b o q j
    · exact r.st.tl m b d q (.inr (bW λw=>g λi e=>w ⟨i,e⟩))}
 lx:=r.lx
 nw:=r.nw
 bd:=r.bd
 sz:=r.sz
 xt:=r.xt.trans (.of s)
 sb:=r.sb
def RZ.grow(r:RZ K B f lo H I E S)(s:kU K H F):RZ K B f lo F I E S:=
 ⟨r.toEZ.grow s,r.len,λi z e=>let⟨v,b,a⟩:=r.vr i z e;⟨v,b,a.mv (.of s) .refl⟩⟩
def WQ:i0 Z->Sl
 |some (.d x)=>.sh x
 |_=>.no
def j6(E:jk):Ev:=E.map WQ
def RZ.rs(r:RZ K B f lo H I E S):RS K f H f H I (j6 E) where
 same:=.refl H
 tt:=r.tt
 fresh:=r.fresh
 sub:=λ_ h=>h
 pf:=r.fresh
 len:=by unfold j6;rw[aj];exact r.len
 sh:=λi d h=>by
  unfold j6 at h;rw[aC]at h;obtain⟨z,c,b⟩:=ay.mp h;cases z with
  |none=>cases b
  |some z=>
   cases z with
   |d x=>cases b;exact r.vr i _ c
   |_=>cases b
 ow:=λi g h=>by
  unfold j6 at h;rw[aC]at h;obtain⟨z,c,b⟩:=ay.mp h;cases z with
  |none=>cases b
  |some z=>cases z<;>cases b
 apart:=λi j g e a h _ _ _=>by
  unfold j6 at h;rw[aC]at h;obtain⟨z,c,b⟩:=ay.mp h;cases z with
  |none=>cases b
  |some z=>cases z<;>cases b
def RZ.set(r:RZ K B f lo H I E S)(c:i<E.length)(q:jS K f lo H v z):RZ K B f lo H (I.set i<|some v) (E.set i<|some z) S where
 toEZ:=r.toEZ
 len:=by rw[aN,aN];exact r.len
 vr:=λj e h=>by
  by_cases w:i=j
  .subst w;rw[aB c]at h;cases h;exact⟨v,aB<|by rw[<-r.len];exact c,q⟩
  .rw[ao w]at h;obtain⟨u,a,b⟩:=r.vr j e h;exact⟨u,by rw[ao w];exact a,b⟩
def kF(lo:Lo)(n:Nat)(p:iR):Lo:=λm=>if m=n then some p else lo m
def tH.none(b:tH K f lo H S):lo S.length=Option.none:=by
 cases h:lo S.length with
 |none=>rfl
 |some a=>obtain⟨c,e,_⟩:=b.at' _ a h;simp_all
def n6(b:tH K f lo H S)(p):Lx lo (kF lo S.length p):=λn a h=>by
 unfold kF;rw[aA];.exact h
 .intro w;rw[w,b.none]at h;cases h
def o5{o}(a:H p=none):Xt f H (λb=>f b/\b≠p) (upd H p o):=λb u _ c e=>⟨⟨c,nQ e a⟩,by rw[jw<|nQ e a];exact e⟩
def EZ.new(r:EZ K B f lo H S){o}(C:H p=none)(no:NT o)(G:lQ K (λb=>f b/\b≠p) (kF lo S.length p) (upd H p o) p c)(O:c≠.no):
    EZ K B (λb=>f b/\b≠p) (kF lo S.length p) (upd H p o) (S++[c]):=by
 have s:kU K H (upd H p o):=lV C;have x:Xt f H (λb=>f b/\b≠p) (upd H p o):=o5 C;have g:=r.grow s;refine⟨g.fr,g.hf,g.tt,λa h=>⟨g.fresh a h,λw=>by rw[w,j7]at h;cases h⟩,⟨λn a h=>?_,λn D h w L=>?_,λn a h w=>?_,λm n a i j=>?_,λm b u t J=>?_⟩,λn a h=>n6 r.st p n a<|r.lx n a h,λn a h=>?_,r.bd,by rw[ag];have:=r.sz;walk_at "l",r.xt.trans x,λb t=>r.sb b t.1⟩
 .unfold kF at h;by_cases w:n=S.length
  .rw[aq w]at h;cases h;exact⟨c,by rw[w];simp,G⟩
  .rw[aA w]at h;obtain⟨D,e,q⟩:=r.st.at' n a h;have ne:a≠p:=λz=>q.uf.1 (by rw[z];exact C);exact⟨D,by rw[aw (az.mp e).1];exact e,q.mv x (n6 r.st p) λu _ h=>by rw[jw ne];exact h⟩
 .by_cases z:n<S.length
  .rw[aw z]at h;obtain⟨a,i⟩:=r.st.has n D h w L;exact⟨a,n6 r.st p n a i⟩
  .have:n=S.length:=by
    have:=(az.mp h).1;rw[ag,bY]at this
    lia
   exact⟨p,by unfold kF;rw[aq this]⟩
 .unfold kF at h;by_cases z:n=S.length;.rw[aq z]at h;cases h;exact w.2 rfl
  .rw[aA z]at h;exact r.st.na n a h w.1
 .have v:∀k b,lo k=some b->b≠p:=λk b N z=>by
   obtain⟨D,_,q⟩:=r.st.at' k b N;exact q.uf.1 (by rw[z];exact C)
  unfold kF at i j;by_cases z:m=S.length
  .rw[aq z]at i;cases i;by_cases y:n=S.length;.simp_all
   .rw[aA y]at j;exact absurd rfl (v n _ j)
  .rw[aA z]at i;by_cases y:n=S.length;.rw[aq y]at j;cases j;exact absurd rfl (v m _ i)
   .rw[aA y]at j;exact r.st.inj m n a i j
 .have M:S[0]?=some .mk:=by
   cases S with
   |nil=>have e:some c=some Cell.mk:=m;cases e;exact G.elim
   |cons d r=>exact m
  by_cases z:b=p
  .rw[z]at t;exact absurd J (G.I0 t)
  .rw[jw z]at t;exact⟨r.st.tl M b u t J,z⟩
 .unfold kF at h;by_cases z:n=S.length;.rw[aq z]at h;cases h;exact .inr ⟨r.hf _ C,by rw[z];exact r.sz⟩
  .rw[aA z]at h;exact r.nw n a h
def RZ.new(r:RZ K B f lo H I E S){o}(a:H p=none)(no:NT o)(d:lQ K (λb=>f b/\b≠p) (kF lo S.length p) (upd H p o) p c)(j:c≠.no):
    RZ K B (λb=>f b/\b≠p) (kF lo S.length p) (upd H p o) I E (S++[c]):=
 ⟨r.toEZ.new a no d j,r.len,λi z e=>let⟨v,h,g⟩:=r.vr i z e;⟨v,h,g.mv (o5 a)<|n6 r.st p⟩⟩
def EZ.write(r:EZ K B f lo H S){n o}(g:lo n=some a)(no:NT o)(J:∀q,o≠lG a q)(p:lQ K f lo (upd H a o) a c)(L:c≠.no):EZ K B f lo (upd H a o) (S.set n c)/\Xt f H f (upd H a o):=by
 obtain⟨M,G,j⟩:=r.st.at' n a g;have C:n<S.length:=(az.mp G).1;have v:=r.st.na n a g;have x:Xt f H f (upd H a o):=λb u _ d e=>⟨d,by rw[jw λw=>v (by rw[<-w];exact d)];exact e⟩;refine⟨⟨λb u t h w=>?_,λb h=>?_,r.tt.upd j.uf.2.1 j.uf.2.2,λb h=>?_,⟨λm b h=>?_,λm i h w s=>?_,r.st.na,r.st.inj,λm b u d k=>?_⟩,r.lx,r.nw,r.bd,by rw[aN];exact r.sz,r.xt.trans x,r.sb⟩,x⟩
 .have:=r.fr b u t h w;by_cases z:b=a
  .subst z;rcases r.nw n b g with q|q;.exact absurd q (w n)
   .rw[q.1]at h;cases h
  .rw[jw z];exact this
 .by_cases z:b=a;.rw[z,j7]at h;cases h
  .rw[jw z]at h;exact r.hf b h
 .by_cases z:b=a;.rw[z,j7]at h;cases h
  .rw[jw z]at h;exact r.fresh b h
 .by_cases z:n=m;.simp_all
  .obtain⟨i,e,q⟩:=r.st.at' m b h;refine⟨i,by rw[ao z];exact e,q.mv x .refl λu _ D=>?_⟩;rw[jw λw=>z (r.st.inj n m a g (by rw[<-w];exact h))];exact D
 .by_cases z:n=m;.subst z;exact⟨a,g⟩
  .rw[ao z]at h;exact r.st.has m i h w s
 .have y:S[0]?=some .mk:=by
   by_cases z:n=0
   .subst z;rw[aB C]at m;cases m;exact p.elim
   .rw[ao z]at m;exact m
  by_cases z:b=a
  .rw[z]at d;exact absurd k (p.I0 d)
  .rw[jw z]at d;exact r.st.tl y b u d k
def RZ.write(r:RZ K B f lo H I E S){n}{o}(d:lo n=some a)(no:NT o)(b:∀q,o≠lG a q)(g:lQ K f lo (upd H a o) a c)(k:c≠.no):RZ K B f lo (upd H a o) I E (S.set n c)/\Xt f H f (upd H a o):=
 let⟨e,x⟩:=r.toEZ.write d no b g k
 ⟨⟨e,r.len,λi z e=>let⟨v,j,h⟩:=r.vr i z e;⟨v,j,h.mv x .refl⟩⟩,x⟩
end
inductive RX(r:Type) where
 |ok(a:r)(S:iZ)|ex(c:Addr)(ns:List Str)(ds:List D)(S:iZ)|bad
abbrev jd:=jk->iZ->RX Z
abbrev jh:=aa Z->iZ->RX Z
noncomputable def RX.bind{d b:Type}:RX d->(d->iZ->RX b)->RX b
 |.ok a S,f=>f a S
 |.ex c ns ds S,_=>.ex c ns ds S
 |.bad,_=>.bad
def kR{b:Type}(r:R b)(S:iZ):RX b:=match r with
 |.ok a=>.ok a S
 |.ex c ns ds=>.ex c ns ds S
 |.bad=>.bad
def iU{f:Type}(K:i9)(B:Z0)(E:XK)(j:ko)(lo:Lo)(H:Hp)(h:St)(i:jk)(r:RX f)(k:f->(iR->Prop)->Lo->Hp->iZ->Prop):Prop:=match r with
 |.ok x e=>∀a b d,RZ K B a b d h i e->Xt j H a d->Lx lo b->k x a b d e
 |.ex c ns ds e=>∀a b d g,EZ K B a b d e->XR K a d g ns ds->E (.ref c) g d
 |.bad=>False
section
variable{v C:Type}{K:i9}{B:Z0}{E:XK}{f e:ko}{lo b:Lo}{H i:Hp}{j:St}{l:jk}{S p:iZ}{k A:v->(iR->Prop)->Lo->Hp->iZ->Prop}
def iU.up(h:iU K B E f lo H j l r k)(x:Xt f H e i)(y:Lx lo b):iU K B E e b i j l r k:=by
 cases r with
 |ok a S=>exact λd c n z m g=>h d c n z (x.trans m) (y.trans g)
 |_=>exact h
def iU.mono(h:iU K B E f lo H j l r k)(m:∀{x e b i p},RZ K B e b i j l p->Xt f H e i->Lx lo b->k x e b i p->A x e b i p):iU K B E f lo H j l r A:=by
 cases r with
 |ok a S=>exact λd c o z n g=>m z n g (h d c o z n g)
 |_=>exact h
def iU.split{g:v->iZ->RX C}{k}(h:iU K B E f lo H j l (r.bind g) k):iU K B E f lo H j l r (λx e b i p=>iU K B E e b i j l (g x p) k):=by
 cases r with
 |ok a S=>exact λn m o z d c=>iU.up h d c
 |_=>exact h
def iU.toAft(z:RZ K B f lo H j l S)(h:iU K B E f lo H j l (kR r S) k):Aft K f E H r (λx i=>k x f lo i S):=by
 cases r with
 |ok a=>exact λg d=>h f lo g (z.grow d) (.of d) .refl
 |ex c n o=>exact λm g d q=>h f lo g m (z.toEZ.grow d) q
 |bad=>exact h
end
structure ZE(X:Cx)(E:XK)(e:jf)(f:jd):Prop where
 w_::
 o_:∃t:TE,PE X e t/\
 ∀{B al lo H u r S} {Q:VK},RZ X.K B al lo H u r S->iU X.K B E al lo H u r (f r S) (λz kh mm H' _=>∀v,jS X.K kh mm H' v z->Q v H')->t u H Q
abbrev _root_.mV:=jk->iZ->RX i6
structure ZT(X:Cx)(E:XK)(e:jf)(f:mV):Prop where
 w_::
 o_:∃t:TT,PT X e t/\
 ∀{B al lo H v r S} {Q:rm},RZ X.K B al lo H v r S->iU X.K B E al lo H v r (f r S) (λb _ _ H' _=>Q b H')->t v H Q
abbrev _root_.nM:=jk->iZ->RX (aa Z)
structure ZA(X:Cx)(E:XK)(es:kK)(f:nM):Prop where
 w_::
 o_:∃t:TA,PA X es t/\
 (∀{B al lo H v r S} {Q:aa V->Hp->Prop},RZ X.K B al lo H v r S->iU X.K B E al lo H v r (f r S) (λzs kh mm H' _=>∀vs,jU X.K kh mm H' vs zs->Q vs H')->t v H Q)/\∀r S zs S',f r S=.ok zs S'->zs.length=es.length
noncomputable def zD(f:jx):jd:=λa S=>(kR (f<|j6 a) S).bind λd S=>.ok (.d d) S
def zB(f:lI):jk->iZ->RX i6:=λa S=>kR (f<|j6 a) S
noncomputable def zV(i:Nat):jd:=λa S=>match a[i]? with
 |some (some z)=>.ok z S
 |_=>.bad
def lU:aa Z->i0 (aa D)
 |[]=>some []
 |.d x::r=>(lU r).map (x:: ·)
 |_::_=>none
theorem sI:∀{b} {a},lU b=some a->b=a.map .d
 |[],_,h=>by cases h;rfl
 |.d x::r,a,h=>by obtain⟨t,d,c⟩:=ay.mp (show(lU r).map (x:: ·)=some a from h);subst c;rw[aD,<-sI d]
 |.loc _::_,_,h=>by cases h
theorem qF:∀a:aa D,lU (a.map .d)=some a
 |[]=>rfl
 |d::r=>by show(lU<|r.map .d).map (d:: ·)=_;rw[qF r];rfl
def z2(g:qD)(a b:jd):jd:=λc S=>(a c S).bind λx f=>(b c f).bind λy e=>match x,y with
 |.d x,.d y=>(kR (g x y) e).bind λd S=>.ok (.d d) S
 |_,_=>.bad
def o6(t:D->R i6)(a:jd):jk->iZ->RX i6:=λb S=>(a b S).bind λx c=>match x with
 |.d x=>kR (t x) c
 |_=>.bad
def th(a b:mV):jk->iZ->RX i6:=λc S=>(a c S).bind λk d=>if k=true then b c d else .ok false d
def we(a:mV):jk->iZ->RX i6:=λb S=>(a b S).bind λk c=>.ok (!k) c
noncomputable def iY:jk->iZ->RX (aa Z):=λ_ S=>.ok [] S
def iL(a:jd)(r:nM):jk->iZ->RX (aa Z):=λb S=>(a b S).bind λx e=>(r b e).bind λc d=>.ok (x::c) d
def zF(g:jg)(a:nM):jd:=λb S=>(a b S).bind λc f=>match lU c with
 |some e=>(kR (g e) f).bind λd S=>.ok (.d d) S
 |none=>.bad
def zZ(F:jh)(a:nM):jd:=λb S=>(a b S).bind F
section
variable{X:Cx}{E:XK}{e a b c:jf}{l rest:kK}{j:Pos}{f y C:jd}{A J:mV}{fs:nM}
def abd{f}(h:DE X E e f):ZE X E e (zD f):=by obtain⟨t,p,r⟩:=h;refine⟨t,p,λ{_ k lo _ _ _ _ _} z h=>r z.rs ?_⟩;have:=iU.toAft z (iU.split h);exact Aft.mono this λ{_ m} d i v g=>i k lo m (z.grow d) .refl .refl v g
def abT{f}(h:DT X E e f):ZT X E e (zB f):=by obtain⟨t,p,r⟩:=h;exact⟨t,p,λz h=>r z.rs<|iU.toAft z h⟩
def kZ(i)(hN:autoParam (X.N[i]?=some x) aZ0)(hv:autoParam (pT X.env.scope x) aZ4)(k:autoParam (lL x) aZ1)
 (d:autoParam ((x==("__classdict__":iS))=false) aZ1):ZE X E (.Name x j) (zV i):=by
  refine⟨_,ux hN hv k d,λ{_ o lo H _ _ _ _} z h=>?_⟩;unfold zV at h;split at h
  .rename_i g q;obtain⟨v,n,m⟩:=z.vr i g q;exact⟨v,n,h o lo H z .refl .refl v m⟩
  .exact h.elim
def abh{o:Operator}{g}(L:lh X E (binaryOp o) g)(N:ZE X E a y)(M:ZE X E b C):ZE X E (.BinOp a o b j) (z2 g y C):=by
 obtain⟨r,F,D⟩:=L;obtain⟨U,K,H⟩:=N;obtain⟨T,I,G⟩:=M;refine⟨_,JA F K I,λs h=>H s<|iU.mono (iU.split h) λx S R P v z=>G x<|iU.mono (iU.split P) λ{_ n k _ _} d q p m u B=>?_⟩;split at m;.exact D d.fresh (jS.mv q p z) B (Aft.mono (iU.toAft d<|iU.split m) λ{_ Q} t O w i=>O n k Q (d.grow t) .refl .refl w i)
 .exact m.elim
def aa5{k:CmpOp}{g}(L:lh X E (compareOp k) g)(O:ZE X E a y)(N:ZE X E b C)(M:autoParam (behindInMarks k b=false) aZ6):ZE X E (.Compare a [k] [b] j) (z2 g y C):=by
 obtain⟨r,F,D⟩:=L;obtain⟨V,K,H⟩:=O;obtain⟨U,I,G⟩:=N;refine⟨_,Jv F K I M,λs h=>H s<|iU.mono (iU.split h) λx T S Q v z=>G x<|iU.mono (iU.split Q) λ{_ o m _ _} d q p n u B=>?_⟩;split at n;.exact D d.fresh (jS.mv q p z) B (Aft.mono (iU.toAft d<|iU.split n) λ{_ R} t P w i=>P o m R (d.grow t) .refl .refl w i)
 .exact n.elim
def abQ{k:CmpOp}{g}(M:lh X E (compareOp k) g)(P:ZE X E a y)(O:ZE X E b C)(N:autoParam (behindInMarks k b=false) aZ6):ZT X E (.Compare a [k] [b] j) (o6 tB<|z2 g y C):=by
 obtain⟨r,G,F⟩:=M;obtain⟨Y,L,I⟩:=P;obtain⟨W,K,H⟩:=O;refine⟨_,z5 G L K N,λs h=>I s<|iU.mono (iU.split<|iU.split h) λz V U S v B=>H z<|iU.mono (iU.split S) λ{_ o m _ _} d x t n u D=>?_⟩;split at n
 .refine F d.fresh (jS.mv x t B) D (Aft.mono (iU.toAft d<|iU.split n) λ{_ T} p R w i=>?_);have Q:=R o m T (d.grow p) .refl .refl;exact vQ i (Aft.mono (iU.toAft (d.grow p) Q) λ_ q=>q)
 .exact n.elim
def L8(p:ZE X E e y)(o:autoParam (∀d,isTrue e X.env d=(do let v<-d;standAt e.pos;holding [v]<|truthy v)) aZ2):ZT X E e (o6 tT y):=by
 obtain⟨t,n,m⟩:=p;refine⟨_,J1 n o,λs h=>m s<|iU.mono (iU.split h) λi r q g v k=>?_⟩;split at g;.exact xD k (iU.toAft i g)
 .exact g.elim
def abU(n:ZT X E a A):ZT X E (.UnaryOp .Not a j) (we A):=by obtain⟨q,m,k⟩:=n;exact⟨_,JZ m,λs h=>k s<|iU.mono (iU.split h) λ{_ g d p _} i _ _ o=>o g d p i .refl .refl⟩
structure ZW(X:Cx)(E:XK)(e:jf)(f:mV):Prop where
 w_::
 o_:∃t:TT,PW X e t/\
 ∀{B al lo H v r S} {Q:rm},RZ X.K B al lo H v r S->iU X.K B E al lo H v r (f r S) (λb _ _ H' _=>Q b H')->t v H Q
def ZW.zt(h:ZW X E e A):ZT X E e A:=let⟨t,p,r⟩:=h;⟨t,p.pt,r⟩
def abY(h:ZT X E a A):ZW X E (.BoolOp .And [a] j) A:=let⟨t,p,r⟩:=h;⟨t,J4 p,r⟩
def abX(p:ZT X E a A)(o:ZW X E (.BoolOp .And (b::rest) j) J):ZW X E (.BoolOp .And (a::b::rest) j) (th A J):=by
 obtain⟨u,n,k⟩:=p;obtain⟨t,m,v⟩:=o;refine⟨_,J3 n m,λs h=>k s<|iU.mono (iU.split h) λ{c g d r _} i _ _ q=>?_⟩;cases c with
 |true=>grind
 |false=>exact ug (q g d r i .refl .refl)
def abc{g}(L:AM X E g)(N:ZE X E a y)(M:ZE X E b C)(K:autoParam (ym b) aZ7):ZE X E (.Subscript a b j) (z2 g y C):=by
 obtain⟨r,D,B⟩:=L;obtain⟨U,I,G⟩:=N;obtain⟨T,H,F⟩:=M;refine⟨_,Dy D I H K,λs h=>G s<|iU.mono (iU.split h) λt S R P v x=>F t<|iU.mono (iU.split P) λ{_ n k _ _} d p o m u z=>?_⟩;split at m;.exact B d.fresh (jS.mv p o x) z (Aft.mono (iU.toAft d<|iU.split m) λ{_ Q} q O w i=>O n k Q (d.grow q) .refl .refl w i)
 .exact m.elim
def aaZ:ZA X E [] iY:=⟨_,rP,λ{_ d lo H _ _ _ _} s h=>h d lo H s .refl .refl _ .nil,λ_ _ _ _ h=>by cases h;rfl⟩
def aaY(N:ZE X E e y)(M:ZA X E l fs)(L:autoParam (X.se e l) aZ0):ZA X E (e::l) (iL y fs):=by
 obtain⟨W,K,H⟩:=N;obtain⟨V,I,G,Y⟩:=M;refine⟨_,rO K I L,λ{_ _ _ _ _ d S _} s h=>H s<|iU.mono (iU.split h) λ{x _ _ _ n} B U T P v D=>G B<|iU.mono (iU.split P) λ{_ k i R m} z w t O u F=>?_,λd S r Q h=>?_⟩;.exact O k i R z .refl .refl _ (.cons (D.mv w t) F)
 .unfold iL at h;cases q:y d S with
  |ok x n=>
   rw[q]at h;have g:(fs d n).bind (λo m=>.ok (x::o) m)=RX.ok r Q:=h;cases p:fs d n with
   |ok o m=>
    rw[p]at g;cases g
    grind
   |_=>rw[p]at g;cases g
  |_=>rw[q]at h;cases h
def abl{q}(x:ZA X E l fs):ZE X E (.Tuple l q j) (zF jj fs):=by
 obtain⟨H,w,u,_⟩:=x;refine⟨_,DB w,λs h=>u s<|iU.mono (iU.split h) λ{_ o k _ _} i q G n v t=>?_⟩;split at n
 .rename_i D e;have:=sI e;subst this;have d:=t.toD;have g:=Aft.mono (iU.toAft i<|iU.split n) λ{_ F} r B=>B o k F (i.grow r) .refl .refl;unfold jj at g;by_cases z:D.length<=sizeLine
  .rw[aq z]at g;exact⟨by rw[d.length];exact z,λp m=>g _ (lV m) _<|d.Em m<|i.fresh p m⟩
  .rw[aA z]at g;exact g.elim
 .exact n.elim
variable{x:iS}{p:Pos}
variable{k n:Nat}{I:jy}{F:jg}
def aa3(G:q7 X.prog X.w X.K X.mg X.base (j8 X.prog X.w) k x I<|rS n X.K F)(hr:kz k X.A)(hg:Gl X x)(hx:Passes (j8 X.prog X.w) X E)(hn:(e::l).length=n)(ha:ZA X E (e::l) fs)(w:autoParam (lL x) aZ1)
    (he:autoParam (X.se e l) aZ0)(u:autoParam (X.bk j l) aZ0):ZE X E (.Call (.Name x p) (e::l) [] j) (zF F fs):=by
 obtain⟨ta,pa,Y,lb⟩:=ha;refine⟨_,Dx G hr hg hx pa w he u,λ{B al lo H P L S Q} s h=>Y s ?_⟩;unfold zF at h;cases q:fs L S with
 |bad=>rw[q]at h;exact h.elim
 |ex c ns o N=>rw[q]at h;exact h
 |ok R N=>
  rw[q]at h;intro i r H1 m U T vs W;have M:=lb _ _ _ _ q;have D:iU X.K B E al lo H P L (match lU R with|some o=>(kR (F o) N).bind λd S=>.ok (.d d) S|none=>.bad) (λz K t O _=>∀v,jS X.K K t O v z->Q v O):=h;split at D
  .rename_i o e;have:=sI e;subst this;have g:=W.toD;rw[aU];exact⟨by rw[g.length];rw[aj]at M;rw[M];exact hn,m.tt,i,o,m.fresh,g,Aft.mono (iU.toAft m (iU.split (iU.up D U T))) λ{_ H3} V h3=>h3 i r H3 (m.grow V) .refl .refl⟩
  .exact D.elim
def L9(K:i9)(B:Z0)(E:XK)(r:RX Z)(Q:VK):Prop:=match r with
 |.ok z i=>∀d g h v,EZ K B d g h i->jS K d g h v z->Q v h
 |.ex c ns ds i=>∀d g h m,EZ K B d g h i->XR K d h m ns ds->E (.ref c) m h
 |.bad=>False
def mR(n:Nat)(K:i9)(F:jh):Sp:=λh H Q E=>h.length=n/\md K H/\∃d lo g S,(∀a,H a=none->d a)/\tH K d lo H S/\jU K d lo H h g/\L9 K ⟨H,d,lo,S.length⟩ E (F g S) Q
def EZ.trans{lo}(r:EZ K B al lo H S)(q:EZ K ⟨H,al,lo,S.length⟩ kh mm H' S'):EZ K B kh mm H' S' where
 fr:=λb o n h w=>q.fr b o n (r.fr b o n h w) λm d=>by
  rcases r.nw m b d with z|z;.exact w m z
  .rw[z.1]at h;cases h
 hf:=λb h=>r.hf b (q.hf b h)
 tt:=q.tt
 fresh:=q.fresh
 st:=q.st
 lx:=λn a h=>q.lx n a (r.lx n a h)
 nw:=λn a h=>by
  rcases q.nw n a h with z|z;.exact r.nw n a z
  .exact .inr ⟨r.hf a z.1,aW r.sz z.2⟩
 bd:=r.bd
 sz:=aW r.sz q.sz
 xt:=r.xt.trans q.xt
 sb:=λa h=>by
  rcases q.sb a h with z|z;.exact r.sb a z
  .exact .inr (r.hf a z)
def RZ.after{lo}(r:RZ K B al lo H t u S)(q:EZ K ⟨H,al,lo,S.length⟩ kh mm H' S'):RZ K B kh mm H' t u S':=
 ⟨r.toEZ.trans q,r.len,λi z e=>let⟨v,g,d⟩:=r.vr i z e;⟨v,g,d.mv q.xt q.lx⟩⟩
variable{F:jh}
def aa4(G:q7 X.prog X.w X.K X.mg X.base (j8 X.prog X.w) k x I<|mR n X.K F)(hr:kz k X.A)(hg:Gl X x)(hx:Passes (j8 X.prog X.w) X E)(hn:(e::l).length=n)(ha:ZA X E (e::l) fs)(M:autoParam (lL x) aZ1)
 (he:autoParam (X.se e l) aZ0)(L:autoParam (X.bk j l) aZ0):ZE X E (.Call (.Name x p) (e::l) [] j) (zZ F fs):=by
  obtain⟨ta,pa,ra,lb⟩:=ha;refine⟨_,Dx G hr hg hx pa M he L,λ{B al lo H V R S Q} s h=>ra s ?_⟩;unfold zZ at h;cases q:fs R S with
  |bad=>rw[q]at h;exact h.elim
  |ex c ns ds r=>rw[q]at h;exact h
  |ok t r=>
   rw[q]at h;intro N D H1 m x1 W vs T;have ll:=lb _ _ _ _ q;have i:iU X.K B E al lo H V R (F t r) (λz O K U _=>∀v,jS X.K O K U v z->Q v U):=h;rw[aU];refine⟨by rw[T.length,ll];exact hn,m.tt,N,D,t,r,m.fresh,m.st,T,?_⟩;cases w:F t r with
   |bad=>rw[w]at i;exact i.elim
   |ex c ns ds S2=>rw[w]at i;exact λg d P dx o Y=>i g d P dx (m.toEZ.trans o) Y
   |ok z S2=>rw[w]at i;exact λg d P v o u=>i g d P (m.after o) (x1.trans o.xt) (W.trans o.lx) v u
end
inductive kT where
 |nx(r:jk)(S:iZ)|rt(z:Z)(S:iZ)|bk(r:jk)(S:iZ)|ct(r:jk)(S:iZ)|ex(c:Addr)(ns:List Str)(ds:List D)(S:iZ)|bad
abbrev ji:=jk->iZ->kT
noncomputable def toZ{b:Type}(r:RX b)(k:b->iZ->kT):kT:=match r with
 |.ok a S=>k a S
 |.ex c ns ds S=>.ex c ns ds S
 |.bad=>.bad
def YD(r:kT)(k:ji):kT:=match r with
 |.nx a S=>k a S
 |r=>r
def j2(K:i9)(B:Z0)(E:XK)(D:Ends)(g:ko)(H:Hp):kT->Prop
 |.nx f S=>∀a b d e,Xt g H a d->RZ K B a b d e f S->D.nx e d
 |.bk f S=>∀a b d e,Xt g H a d->RZ K B a b d e f S->D.bk e d
 |.ct f S=>∀a b d e,Xt g H a d->RZ K B a b d e f S->D.ct e d
 |.rt z S=>∀a b d v,EZ K B a b d S->jS K a b d v z->D.rt v d
 |.ex c ns ds S=>∀a b d h,EZ K B a b d S->XR K a d h ns ds->E (.ref c) h d
 |.bad=>False
section
variable{K:i9}{B:Z0}{E:XK}{D:Ends}{e b:ko}{lo:Lo}{H f:Hp}{s:kT}{i:St}{j:jk}
def j2.ext(h:j2 K B E D e H s)(x:Xt e H b f):j2 K B E D b f s:=by
 cases s with
 |rt d S=>exact h
 |ex c m n S=>exact h
 |bad=>exact h
 |_=>exact λa l k g y r=>h a l k g (x.trans y) r
def j2.mq{k}(h:j2 K B E D e H<|toZ r k):iU K B E e lo H i j r (λx b d f l=>j2 K B E D b f<|k x l):=by
 cases r with
 |ok x S=>exact λg c o n a m=>j2.ext h a
 |_=>exact h
end
structure ZS(X:Cx)(E:XK)(b:Nat)(st:Stmt)(g:ji):Prop where
 w_::
 o_:∃t:TS,PS X st t/\
 ∀{B:Z0} {al lo H v r S} {D:Ends},B.n=b->RZ X.K B al lo H v r S->j2 X.K B E D al H (g r S)->t D v H
structure oq(X:Cx)(E:XK)(b:Nat)(st:aa Stmt)(g:ji):Prop where
 w_::
 o_:∃t:TS,ph X st t/\
 ∀{B:Z0} {al lo H v r S} {D:Ends},B.n=b->RZ X.K B al lo H v r S->j2 X.K B E D al H (g r S)->t D v H
def jA:ji:=.nx
def iO(a b:ji):ji:=λc S=>YD (a c S) b
def jo(f:jd):ji:=λa S=>toZ (f a S) .rt
def i4(i:Nat)(f:jd):ji:=λa S=>toZ (f a S) λz b=>if i<a.length then .nx (a.set i<|some z) b else .bad
def jr(c:mV)(a b:ji):ji:=λd S=>toZ (c d S) λk e=>if k=true then a d e else b d e
section
variable{X:Cx}{E:XK}{b:Nat}{j:Stmt}{rest m l:aa Stmt}{g u z y:ji}{e c:jf}{f:jd}{A:mV}{a:Pos}
def abO:oq X E b [] jA:=⟨_,JX,λ{_ i lo H d _ _ _} k s h=>h i lo H d .refl s⟩
def abP(h:ZS X E b j g):oq X E b [j] g:=let⟨t,p,r⟩:=h;⟨t,JY p,r⟩
def abN(F:ZS X E b j g)(C:oq X E b rest u):oq X E b (j::rest) (iO g u):=by
 obtain⟨K,v,r⟩:=F;obtain⟨J,t,p⟩:=C;refine⟨_,JW v t,λ{B L lo H I n S D} d s h=>r d s ?_⟩;unfold iO at h;cases q:g n S with
 |nx k M=>rw[q]at h;exact λG w N i x o=>p d o (j2.ext h x)
 |_=>rw[q]at h;exact h
def abD:ZS X E b (.Break a) .bk:=⟨_,WH,λ{_ i lo H d _ _ _} k s h=>h i lo H d .refl s⟩
def abK(o:ZE X E e f):ZS X E b (.Return (some e) a) (jo f):=by obtain⟨t,p,r⟩:=o;exact⟨_,JU p,λC s h=>r s<|iU.mono (j2.mq h) λ{_ i d w _} k B x q v n=>q i d w v k.toEZ n⟩
def L7(i)(hN:X.N.Nodup)(F:X.N[i]?=some x)(C:Loc X.env.scope x)(G:ZE X E e f)(D:autoParam (swapsWith e (some<|.Name x pos') a.line X.env=pure false) aZ0)(hf:autoParam (X.hf x) aZ5):
    ZS X E b (.Assign [.Name x pos'] e a) (i4 i f):=by
 obtain⟨t,p,r⟩:=G;refine⟨_,DL hN F C p D hf,λ{_ _ _ _ _ o _ _} K s h=>r s<|iU.mono (j2.mq h) λ{_ n k H _} q J I d v B=>?_⟩;by_cases w:i<o.length
 .simp only[w,df]at d;exact d n k H _ .refl (q.set w B)
 .simp only[w,cj]at d;exact d.elim
def abJ(q:ZT X E c A)(r:oq X E b m z)(d:oq X E b l y):ZS X E b (.If c m l a) (jr A z y):=by
 obtain⟨w,n,i⟩:=q;obtain⟨B,p,F⟩:=r;obtain⟨x,o,D⟩:=d;refine⟨_,JT n p o,λd s h=>i s<|iU.mono (j2.mq h) λ{k _ _ _ _} C v t G=>?_⟩;cases k with
 |true=>grind
 |false=>grind
def m5(r:kT)(k:ji):kT:=match r with
 |.nx d S=>k d S
 |.ct d S=>k d S
 |.bk d S=>.nx d S
 |r=>r
def Li{K B E t H D k}(h:j2 K B E D t H<|m5 r k)
 (hN:∀d n o i p v,Xt t H d o->RZ K B d n o i p v->j2 K B E D d o (k p v)->N i o):j2 K B E {D with nx:=N,ct:=N,bk:=D.nx} t H r:=by
  cases r with
  |nx q S=>exact λd n o i x s=>hN d n o i q S x s (j2.ext h x)
  |ct q S=>exact λd n o i x s=>hN d n o i q S x s (j2.ext h x)
  |_=>exact h
end
abbrev _root_.sG:=D->jk->i0 jk
structure ZG(X:Cx)(tg:jf)(a:sG):Prop where
 w_::
 o_:∃g:TG,PG X tg g/\
 ∀{B al lo H u r S v d} {Q:St->Hp->Prop},RZ X.K B al lo H u r S->Rep X.K al H v d->(∃mx,a d r=some mx/\∀nU,RZ X.K B al lo H nU mx S->Q nU H)->g v u H Q
abbrev _root_.Bh:=aa D->jk->i0 jk
structure yD(X:Cx)(tg:kK)(a:Bh):Prop where
 w_::
 o_:∃g:tI,uR X tg g/\
 ∀{B al lo H u r S v d} {Q:St->Hp->Prop},RZ X.K B al lo H u r S->ja X.K al H v d->(∃mx,a d r=some mx/\∀nU,RZ X.K B al lo H nU mx S->Q nU H)->g v u H Q
def hV(i:Nat):D->jk->i0 jk:=λd a=>if i<a.length then some (a.set i<|iM d)else none
def hN:aa D->jk->i0 jk:=λb a=>match b with
 |[]=>some a
 |_=>none
def hC(a:sG)(b:Bh):aa D->jk->i0 jk:=λe c=>match e with
 |d::r=>(a d c).bind (b r)
 |[]=>none
def hT(n:Nat)(a:Bh):D->jk->i0 jk:=λd b=>match d with
 |.tup ds=>if ds.length=n then a ds b else none
 |_=>none
def Ld{b:Type}(r:i0 b)(k:b->kT):kT:=match r with
 |some a=>k a
 |none=>.bad
def ki(a:sG)(b:ji):aa D->ji
 |[],e,S=>.nx e S
 |d::r,e,S=>Ld (a d e) λc=>m5 (b c S) (ki a b r)
section
variable{X:Cx}{E:XK}{b:Nat}{T C:jf}{j:aa Stmt}{O:l0}{a:sG}{M:ji}{l:Pos}{e:jf}{f:jd}
def k8(O:l0)(a:sG)(M:ji):ji:=λc S=>toZ (kR (O<|j6 c) S) λd g=>ki a M d c g
def abt(i)(hN:X.N.Nodup)(m:X.N[i]?=some x)(k:Loc X.env.scope x)(hf:autoParam (X.hf x) aZ5):ZG X (.Name x l) (hV i):=by
 refine⟨_,xw hN m k hf,λ{_ _ _ _ _ d _ _ _ _} s g h=>?_⟩;obtain⟨c,e,q⟩:=h;unfold hV at e;by_cases z:i<d.length
 .rw[aq z]at e;cases e;exact q _ (s.set z g)
 .simp_all
def abv:yD X [] hN:=by
 refine⟨_,JJ,λs d h=>?_⟩;obtain⟨c,e,q⟩:=h;cases d with
 |nil=>cases e;exact⟨rfl,q _ s⟩
 |cons _ _=>cases e
def LZ{u}(x:ZG X e a)(w:yD X es u)(v:autoParam ((assignEach (e::es) X.env).map (·.2)=assign e X.env::(assignEach es X.env).map (·.2)) aZ0):yD X (e::es) (hC a u):=by
 obtain⟨B,t,p⟩:=x;obtain⟨A,r,o⟩:=w;refine⟨_,JI t r v,λs k h=>?_⟩;obtain⟨d,e,q⟩:=h;cases k with
 |nil=>cases e
 |cons n m=>obtain⟨c,z,y⟩:=aL.mp e;exact⟨_,_,rfl,p s n ⟨c,z,λg i=>o i m ⟨d,y,q⟩⟩⟩
def abu{k n u}(v:X.calm=true)(h:yD X es u)(t:autoParam ((assignEach es X.env).length=n) aZ0)(g:autoParam ((assignEach es X.env).findIdx? (·.1)=none) aZ0):ZG X (.Tuple es k l) (hT n u):=by
 obtain⟨A,r,p⟩:=h;refine⟨_,JH v r t g,λ{_ _ _ _ _ _ _ _ d _} s o h=>?_⟩;obtain⟨c,e,q⟩:=h;unfold hT at e;cases d with
 |tup y=>
  by_cases z:y.length=n
  .simp only[z,df]at e;obtain⟨a,m,x,w,i⟩:=o.o4;exact⟨a,m,x,w,by rw[i.length];exact z,p s i ⟨c,e,q⟩⟩
  .simp_all
 |_=>cases e
def abG(hp:PassesOwn (model X.prog X.w) X.A X.env X.xe)(hc:X.calm=true)(G:DI X E T C O)(hg:ZG X T a)(L:oq X E b j M)(hs:autoParam (∀x,foldedSetIterable C X.env x=pure x) aZ2):
    ZS X E b (.For T C j [] l) (k8 O a M):=by
 obtain⟨wi,pi,ri⟩:=G;obtain⟨g,pg,rg⟩:=hg;obtain⟨tb,pb,rb⟩:=L;refine⟨_,DK hp hc pi pg pb hs,λ{B al lo _ _ U S D} L s h=>ri s.rs<|Aft.mono (iU.toAft (k:=λd u F v Q=>j2 X.K B E D u v<|ki a M d U Q) s<|j2.mq h) λ{d _} s1 h1 J wk=>?_⟩;refine⟨λi m p z=>∃c n kO w,RZ X.K B c n z p kO w/\Wk X.K c z J d/\j2 X.K B E D c z (ki a M (d.drop i) kO w)/\m=d.length - i,⟨_,al,lo,U,S,s.grow s1,wk,h1,rfl⟩,?_⟩
 rintro i m p z ⟨c,n,kO,w,I,A,o,rfl⟩
 obtain⟨w1,w2⟩:=A c z .refl I.fresh;by_cases G:i<d.length
 .right;have ed:d[i]?=some d[i]:=ax G;obtain⟨go,Z⟩:=w1 i _ ed;rw[bV G]at o;refine⟨go,λr v=>∃c n kO w,RZ X.K B c n v r kO w/\Wk X.K c v J d/\j2 X.K B E D c v (ki a M (d.drop<|i+1) kO w),λr v ⟨P,K,t,S3,Y,z2,W⟩=>⟨d.length - (i+1),by grind,P,K,t,S3,Y,z2,W,rfl⟩,λx H3 y=>?_⟩;obtain⟨rfl,rx⟩:=Z x H3 y;unfold ki at o;cases q:a d[i] kO with
  |some t=>rw[q]at o;refine rg I rx ⟨t,q,λV s3=>rb L s3<|Li (k:=ki a M<|d.drop<|i+1) o λu F v r H Q x' s' h'=>⟨u,F,H,Q,s',λN H4 x4=>A N H4<|x'.trans x4,h'⟩⟩
  |none=>rw[q]at o;exact o.elim
 .left;have e:d.drop i=[]:=cm (by simp_all);rw[e]at o;exact⟨w2 i<|by simp_all,o c n z p .refl I⟩
def Aq(i:Nat)(g:qD)(f:jd):ji:=λc S=>match c[i]? with
 |some (some (.d d))=>toZ (f c S) λz k=>match z with
  |.d e=>toZ (kR (g d e) k) λr h=>.nx (c.set i<|iM r) h
  |_=>.bad
 |_=>.bad
def L1(i){g}(hN:X.N.Nodup)(L:X.N[i]?=some x)(I:Loc X.env.scope x)(J:AJ X E op g)(N:ZE X E e f)(hf:autoParam (X.hf x) aZ5):
    ZS X E b (.AugAssign (.Name x pos') op e l) (Aq i g f):=by
 obtain⟨V,H,Q⟩:=J;obtain⟨t,p,r⟩:=N;refine⟨_,WG hN L I p H hf,λ{_ _ _ _ _ q _ _} W s h=>?_⟩;unfold Aq at h;split at h
 .rename_i d n;obtain⟨v,hv,F⟩:=s.vr i _ n;have K:i<q.length:=(az.mp n).1;refine⟨v,hv,r s<|iU.mono (j2.mq h) λ{z m k _ _} c y U o u G=>?_⟩;cases z with
  |d e=>refine Q c.fresh (Rep.mv y F) G (Aft.mono (iU.toAft c<|j2.mq o) λ{_ S} A P w B=>?_);exact P m k S _ .refl ((c.grow A).set K B)
  |_=>exact o.elim
 .exact h.elim
def jR(n:Nat)(c:aa Z):jk:=c.map some++List.replicate (n - c.length) none
noncomputable def jc:kT->RX Z
 |.rt z S=>.ok z S
 |.nx _ S=>.ok (.d .non) S
 |.ex c ns ds S=>.ex c ns ds S
 |_=>.bad
def Ky{c:ko}{lo}(g:md K H)(fr:∀a,H a=none->c a)(k:tH K c lo H S)(r:jU K c lo H vs zs):RZ K ⟨H,c,lo,S.length⟩ c lo H (L2.start N vs) (jR N.length zs) S where
 toEZ:=EZ.start (zs:=zs) g fr k
 len:=by unfold L2.start jR;simp[r.length]
 vr:=λi z h=>by
  unfold jR at h;by_cases d:i<zs.length
  .rw[aw<|by simpa using d,aC]at h;cases q:zs[i]? with
   |none=>rw[q]at h;cases h
   |some y=>rw[q]at h;cases h;obtain⟨v,n,m⟩:=r.get q;refine⟨v,?_,m⟩;unfold L2.start;rw[aw<|by simpa [r.length]using d,aC,n];rfl
  .rw[aK<|by simpa using d,bM]at h;split at h<;>cases h
variable{P:jE}{w:jz}{K:i9}{U:km}{I:jb}
def GZ{x:iS}{m:Stmt}{f:iR}{G:m8}{N u:jy}{k:Nat}{g:Nat->ji}(F:oi K x x m f G)(S:tw N u<|jQ m)
    (j:∀(b:Nat) (i:iT) (A:jY) (d:mL) (s:i7) (H:Hp) (E:XK),kz k (kC (j8 P w) P w K U I N x (jQ m) f i A d s H E).A->oq (kC (j8 P w) P w K U I N x (jQ m) f i A d s H E) E b (mh m) (g b)):
    my P w K U I (k+1) f G u (mR u.length K λo S=>jc<|g S.length (jR N.length o) S):=by
 refine F.Jh S (λV H Q E h=>h.1) (λi A d s H V Q E hr h=>?_);obtain⟨hl,Y,al,lo,o,n,fr,m,rv,h⟩:=h;obtain⟨t,p,r⟩:=j n.length i A d s H E hr;dsimp only at h;refine⟨t,p,r (B:=⟨H,al,lo,n.length⟩) rfl (Ky Y fr m rv) ?_⟩;cases q:g n.length (jR N.length o) n with
 |nx W J=>rw[q]at h;exact λy v H' L _ Z=>h y v H' .non Z.toEZ .non
 |rt z J=>rw[q]at h;exact h
 |ex c ns es J=>rw[q]at h;exact h
 |_=>rw[q]at h;exact h.elim
variable{L:Stmt}
def kY(g:l0):jd:=λd S=>(kR (g<|j6 d) S).bind λh c=>.ok (.loc c.length) (c++[.li<|h.map .d])
def abg(m:DN X E e fn):ZE X E e (kY fn):=by obtain⟨t,p,r⟩:=m;refine⟨t,p,λ{_ u lo _ _ _ S _} s h=>r s.rs<|Aft.mono (iU.toAft s<|iU.split h) λ{q v} i o p g d k=>?_⟩;have c:=s.grow i;have n:lQ X.K (λb=>u b/\b≠p) (kF lo S.length p) (upd v p<|.lst g) p (.li<|q.map .d):=⟨g,j7,jU.mv (o5 d) (n6 c.st p)<|.ofD k⟩;exact o _ _ _ (c.new d nc n nofun) (o5 d) (n6 c.st p) _ ⟨p,by unfold kF;rw[aq rfl],rfl⟩
def abL(i)(hN:X.N.Nodup)(z:X.N[i]?=some x)(v:Loc X.env.scope x)(A:ts X E e fn)(y:autoParam (swapsWith e (some<|.Name x pos') l.line X.env=pure true) aZ0)(hf:autoParam (X.hf x) aZ5):
    ZS X E b (.Assign [.Name x pos'] e l) (i4 i<|zD<|jt fn):=by
 obtain⟨t,_,p,r⟩:=A;refine⟨_,JV hN z v p y hf,λ{_ n lo _ _ q _ _} H s h=>r s.rs ?_⟩;have F:=iU.toAft s (iU.split<|j2.mq h);refine Aft.mono (Aft.split F) λ{G _} m B p g d u=>?_;have k:=(s.grow m).grow (lV (K:=X.K) (o:=HO.lst g) d);have c:=B _ (lV (K:=X.K) (o:=HO.lst g) d) n lo _ k .refl .refl;dsimp only at c;by_cases w:i<q.length
 .rw[aq w]at c;exact c _ _ _ _ .refl (k.set w<|show jS X.K n lo _ (.ref p) (.d<|.lst G)from u.rK d ((s.grow m).fresh p d))
 .rw[aA w]at c;exact c.elim
end
section
variable{X:Cx}{E:XK}{b:Nat}{e:jf}{l:Pos}{f:jd}
def nj(i:Nat)(f:jd):ji:=λa S=>match a[i]? with
 |some (some (.loc n))=>(match S[n]? with
  |some (.li _)=>toZ (f a S) λz d=>(match d[n]? with
   |some (.li c)=>if c.length<sizeLine then .nx a (d.set n<|.li<|c++[z])else .bad
   |_=>.bad)
  |_=>.bad)
 |_=>.bad
def RZ.cell{lo}(s:RZ K B al lo H v r S){n}(d:lo n=some a)(h:S[n]?=some c):lQ K al lo H a c:=by obtain⟨j,i,g⟩:=s.st.at' n a d;simp_all
def abC(i){d:Pos}(Z:PlainAttrs "list")(A:Slot "list" "append" "list.append")(G:typeOf (.builtin "list.append")=pure (.type "method_descriptor"))(he:ZE X E e f)
 (hN:autoParam (X.N[i]?=some x) aZ0)(hv:autoParam (pT X.env.scope x) aZ4)(hd:autoParam (lL x) aZ1)
 (I:autoParam ((x==("__classdict__":iS))=false) aZ1)
 (m:autoParam (attributeBase (.Name x nR) "append" X.env (eval (.Name x nR) X.env)=eval (.Name x nR) X.env) aZ0)
 (B:autoParam (((backTo cpos (starEach [e] X.env)).all (λx=>!x.1)&&(backToKw cpos (keywordEach [] X.env)).all (λx=>x.1.isSome)
 &&decide ([e].length+([]:aa Keyword).length+(if([]:aa Keyword).isEmpty then 0 else 1)<30))=true) aZ0)
 (k:autoParam ((d.endLine==cpos.line)=true) aZ0)(L:autoParam (X.se e []) aZ0)(g:autoParam ((backTo cpos<|starEach [] X.env).any (·.1)=false) aZ0)
 (H:autoParam (swapsWith (.Call (.Attribute (.Name x nR) "append" d) [e] [] cpos) none l.line X.env=pure false) aZ0):
   ZS X E b (.Expr (.Call (.Attribute (.Name x nR) "append" d) [e] [] cpos) l) (nj i f):=by
  obtain⟨t,p,r⟩:=he;refine⟨_,zY (Du Z A G C9 (ux hN hv hd I) (rO p rP L) m B k L g) H,λJ s h=>?_⟩;unfold nj at h;split at h
  .rename_i n q;split at h
   .rename_i P Y;obtain⟨v,e1,a,M,rfl⟩:=s.vr i _ q;obtain⟨T,e2,e3⟩:=s.cell M Y;refine⟨_,e1,.inl ⟨rfl,T,.inl<|.inl e2⟩,r s<|iU.mono (j2.mq h) λ{z C _ O _} F x1 Q y u V=>?_⟩;split at y
    .rename_i K W;have j:=Q n a M;obtain⟨D,g2,N⟩:=F.cell j W;by_cases w:K.length<sizeLine
     .rw[aq w]at y;have S:Xt C O C (upd O a (.lst (D++[u]))):=λb o _ J eb=>⟨J,by rw[jw λz=>F.st.na n a j (by rw[<-z];exact J)];exact eb⟩;obtain⟨U,R⟩:=F.write j (o:=.lst (D++[u])) (c:=.li (K++[z])) nc (λq w=>by unfold lG at w;cases w) ⟨_,j7,jU.mv S .refl (N.append (.cons V .nil))⟩ nofun;exact⟨a,D,u,rfl,rfl,g2,by rw[N.length];exact w,y _ _ _ _ R U⟩
     .rw[aA w]at y;exact y.elim
    .exact y.elim
   .exact h.elim
  .exact h.elim
def vZ(i:Nat)(d:jx)(f:jd):ji:=λa S=>toZ (f a S) λz g=>match a[i]? with
 |some (some (.loc n))=>toZ (kR (d (j6 a)) g) λk c=>(match k,c[n]? with
  |.int j,some (.li zs)=>(match qO zs.length j with
   |some m=>.nx a (c.set n<|.li<|zs.set m z)
   |none=>.bad)
  |_,_=>.bad)
 |_=>.bad
variable{k:jf}{y:jx}
def L6(i)(hk:DE X E k y)(he:ZE X E e f)
 (hN:autoParam (X.N[i]?=some x) aZ0)(hv:autoParam (pT X.env.scope x) aZ4)(hd:autoParam (lL x) aZ1)
 (K:autoParam ((x==("__classdict__":iS))=false) aZ1)
 (ha:autoParam (∀v,assign (.Subscript (.Name x nR) k vU) X.env v=(do
 let C<-holding [v] (eval (.Name x nR) X.env)
 let I<-holding [v,C] (eval k X.env)
 standAt vU
 holding [v,C,I] (setItem C I v)
 release [v,C,I] [])) aZ2)
 (Z:autoParam (swapsWithSole [.Subscript (.Name x nR) k vU] e l.line X.env=pure false) aZ0)(Y:autoParam (swappedStores [.Subscript (.Name x nR) k vU] e X.env=pure none) aZ0)
 (g:autoParam ((assignEach [.Subscript (.Name x nR) k vU] X.env).map (·.2)=[assign (.Subscript (.Name x nR) k vU) X.env]) aZ0):
   ZS X E b (.Assign [.Subscript (.Name x nR) k vU] e l) (vZ i y f):=by
  obtain⟨t,p,r⟩:=he;obtain⟨tk,pk,U⟩:=hk;refine⟨_,WE p (Wl (ux hN hv hd K) pk set_list ha) Z Y g,λL s h=>r s<|iU.mono (j2.mq h) λ{z A _ _ _} B x1 y1 g v T=>?_⟩;split at g
  .rename_i n q;obtain⟨u,e1,a,J,rfl⟩:=B.vr i _ q;refine⟨_,e1,U B.rs<|Aft.mono (iU.toAft B<|j2.mq g) λ{_ O} M d w G=>?_⟩;have F:=B.grow M;split at d
   .rename_i j P W;cases G;obtain⟨D,g1,N⟩:=F.cell J W;split at d
    .rename_i m V;have H:=jS.mv (.of M) .refl T;have R:Xt A O A (upd O a (.lst (D.set m v))):=λb o _ L eb=>⟨L,by rw[jw λz=>F.st.na n a J (by rw[<-z];exact L)];exact eb⟩;obtain⟨S,Q⟩:=F.write J (o:=.lst (D.set m v)) (c:=.li (P.set m z)) nc (λq w=>by unfold lG at w;cases w) ⟨_,j7,jU.mv R .refl (N.set H m)⟩ nofun;exact⟨a,D,j,m,rfl,rfl,g1,by rw[N.length];exact V,d _ _ _ _ Q S⟩
    .exact d.elim
   .exact d.elim
  .exact g.elim
end
mutual
def oX:D->i6
 |.lst _=>false
 |.tup ds=>qR ds
 |.exc _ _ _=>false
 |_=>true
def qR:aa D->i6
 |[]=>true
 |d::r=>oX d&&qR r
end
noncomputable def mw(S:iZ):i0 Z->Sl
 |some (.d x)=>.sh x
 |some (.loc n)=>(match S[n]? with
  |some (.li a)=>(match lU a with
   |some b=>kg b
   |none=>.no)
  |_=>.no)
 |_=>.no
def vw(S:iZ)(a:jk):Ev:=a.map (mw S)
variable{K:i9}{B:Z0}{al:ko}{lo:Lo}{H H':Hp}{σ:St}{ρ:jk}{S:iZ}
def sH(al:ko)(lo:Lo):iR->Prop:=λa=>al a\/∃n,lo n=some a
def RZ.D0(r:RZ K B al lo H σ ρ S):RS K (sH al lo) H (sH al lo) H σ (vw S ρ) where
 same:=.refl H
 tt:=r.tt
 fresh:=λa h=>.inl (r.fresh a h)
 sub:=λ_ h=>h
 pf:=λa h=>.inl (r.fresh a h)
 len:=by unfold vw;rw[aj];exact r.len
 sh:=λi d h=>by
  unfold vw at h;rw[aC]at h;obtain⟨z,c,b⟩:=ay.mp h;cases z with
  |none=>cases b
  |some z=>
   obtain⟨v,o,f⟩:=r.vr i z c;refine⟨v,o,?_⟩;cases z with
   |d x=>cases b;exact Rep.mv (.sub λ_ h=>.inl h) f
   |tk u=>cases b
   |loc n=>
    unfold mw at b;dsimp only at b;split at b
    .rename_i s q;split at b
     .rename_i g k;cases b;have:=sI k;subst this;obtain⟨a,e,rfl⟩:=f;obtain⟨t,m,l⟩:=r.cell e q;exact .lst (.inl ⟨.inr ⟨n,e⟩,.inl m⟩) (ja.mv (.sub λ_ h=>.inl h) l.toD)
     .cases b
    .cases b
 ow:=λi g h=>by
  unfold vw at h;rw[aC]at h;obtain⟨z,c,b⟩:=ay.mp h;unfold mw at b;split at b;.cases b
  .split at b;.split at b<;>cases b
   .cases b
  .cases b
 apart:=λi j g p a h _ _ _=>by
  unfold vw at h;rw[aC]at h;obtain⟨z,c,b⟩:=ay.mp h;unfold mw at b;split at b;.cases b
  .split at b;.split at b<;>cases b
   .cases b
  .cases b
def Rep.oX(f:∀n a,lo n=some a->¬∃e,Rd H a<|.tup e){d}(r:Rep K (sH al lo) H v d):P2.oX d=true->Rep K al H v d:=
 Rep.rec (motive_1:=λv d _=>P2.oX d=true->Rep K al H v d) (motive_2:=λv d _=>qR d=true->ja K al H v d) (λ_=>.non) (λb _=>.bl b) (λb _=>.int b) (λb _=>.str b) (λb _=>.ty b) (λb _=>.ref b)
  (λp _ q h=>.tup (p.elim (λz=>.inl ⟨z.1.elim id λ⟨n,g⟩=>absurd ⟨_,.inl z.2⟩<|f n _ g,z.2⟩) .inr)<|q h) (λ_ _ _ h=>by cases h) (λ_ _ _ _ _ _ h=>by cases h) (λ_ _ h=>by cases h) (λ_=>.nil) (λ{_ d _ i} _ _ p q h=>by have c:(P2.oX d&&qR i)=true:=h;rw[aS]at c;exact .cons (p c.1) (q c.2)) r
def ja.oX(e:∀n a,lo n=some a->¬∃c,Rd H a<|.tup c){v:aa V}{d:jD}(r:ja K (sH al lo) H v d)(h:qR d=true):ja K al H v d:=by
 induction d generalizing v with
 |nil=>cases r;exact .nil
 |cons d g f=>
  cases r with
  |cons p q=>have b:(P2.oX d&&qR g)=true:=h;rw[aS]at b;exact .cons (Rep.oX e p b.1) (f q b.2)
def RZ.qS(r:RZ K B al lo H σ ρ S):∀n a,lo n=some a->¬∃d,Rd H a (.tup d):=λn a f ⟨d,h⟩=>by
 obtain⟨c,_,q⟩:=r.st.at' n a f;cases c with
 |ob C fs=>obtain⟨j,b,g,_⟩:=q;rcases h with h|⟨o,h⟩<;>(rw[g]at h;cases h)
 |ft e=>obtain⟨b,i,g,_⟩:=q;rcases h with h|⟨o,h⟩<;>(rw[g]at h;cases h)
 |no=>exact q
 |mk=>exact q
 |_=>obtain⟨b,g,_⟩:=q;rcases h with h|⟨o,h⟩<;>(rw[g]at h;cases h)
def zR(f:jx):jd:=λρ S=>match f (vw S ρ)with
 |.ok d=>if oX d=true then .ok (.d d) S else .bad
 |_=>.bad
def qt(f:lI):jk->iZ->RX i6:=λρ S=>match f (vw S ρ)with
 |.ok d=>.ok d S
 |_=>.bad
def xR(a:l0):jd:=λρ S=>match a (vw S ρ)with
 |.ok ds=>if qR ds=true then .ok (.d<|.lst ds) S else .bad
 |_=>.bad
variable{X:Cx}{E:XK}{b:Nat}{e:jf}{pos:Pos}
def abj(h:DE X E e f):ZE X E e (zR f):=by
 obtain⟨t,p,r⟩:=h;refine⟨t,p,λ{_ al lo _ _ ρ S _} z h=>r z.D0 ?_⟩;unfold zR at h;cases q:f (vw S ρ)with
 |ok d=>
  rw[q]at h;dsimp only at h;by_cases w:oX d=true
  .rw[aq w]at h;exact λg a v c=>h al lo g (z.grow a) (.of a) .refl v (Rep.oX (z.grow a).qS c w)
  .rw[aA w]at h;exact h.elim
 |_=>rw[q]at h;exact h.elim
def abV(h:DT X E e f):ZT X E e (qt f):=by
 obtain⟨t,p,r⟩:=h;refine⟨t,p,λ{_ al lo _ _ ρ S _} z h=>r z.D0 ?_⟩;unfold qt at h;cases q:f (vw S ρ)with
 |ok d=>rw[q]at h;exact λc a=>h al lo c (z.grow a) (.of a) .refl
 |_=>rw[q]at h;exact h.elim
def oK(n:Nat)(d:D):i0 Z->i0 Z
 |some (.loc m)=>if m=n then iM d else ba m
 |o=>o
def mF(n:Nat):Z->i6
 |.loc m=>decide (m=n)
 |_=>false
def j9(n:Nat):Cell->i6
 |.li zs=>zs.any (mF n)
 |.ob _ fs=>fs.any λp=>mF n p.2
 |.dk a=>a.any λp=>mF n p.2
 |.dt a=>a.any λp=>mF n p.2
 |.ft a=>a.any λp=>mF n p.2
 |.no=>false
 |.mk=>false
noncomputable def vq(b i:Nat)(ρ:jk)(S:iZ):i0 (jk×iZ):=match ρ[i]? with
 |some (some (.loc n))=>(match S[n]? with
  |some (.li a)=>(match lU a with
   |some c=>if b<=n/\(S.any<|j9 n)=false then some (ρ.map<|oK n<|.lst c,S.set n .no)else none
   |none=>none)
  |_=>none)
 |some _=>some (ρ,S)
 |none=>none
variable{mx:jk}{S':iZ}
def jS.out{n}(x:Xt al H kh H)(y:∀m a,m≠n->lo m=some a->mm m=some a)(r:jS K al lo H v z)(h:mF n z=false):jS K kh mm H v z:=by
 cases z with
 |d d=>exact Rep.mv x r
 |loc m=>obtain⟨a,f,c⟩:=r;exact⟨a,y m a (by simpa [mF]using h) f,c⟩
 |tk g=>obtain⟨a,f,c,i⟩:=r;obtain⟨k,j⟩:=x a (.tup<|g.map kV) (λ_ h=>nomatch h) f c;exact⟨a,k,j,i⟩
def jU.out{n}(x:Xt al H kh H)(y:∀m a,m≠n->lo m=some a->mm m=some a)(r:jU K al lo H vs zs)(h:zs.any (mF n)=false):jU K kh mm H vs zs:=by
 induction r with
 |nil=>exact .nil
 |cons a _ c=>rw[ec,ie]at h;exact .cons (a.out x y h.1) (c h.2)
def j4.out{n}(x:Xt al H kh H)(y:∀m a,m≠n->lo m=some a->mm m=some a)(r:j4 K al lo H vs zs)(h:(zs.any λp=>mF n p.2)=false):j4 K kh mm H vs zs:=by
 induction r with
 |nil=>exact .nil
 |cons a _ c=>rw[ec,ie]at h;exact .cons (a.out x y h.1) (c h.2)
def lQ.out{i:Lo}{n}(x:Xt al H kh H)(y:∀m a,m≠n->lo m=some a->i m=some a)(r:lQ K al lo H a c)(h:j9 n c=false):lQ K kh i H a c:=by
 cases c with
 |li p=>obtain⟨j,f,d⟩:=r;exact⟨j,f,d.out x y h⟩
 |ob C fs=>obtain⟨l,g,f,d⟩:=r;exact⟨l,g,f,d.out x y h⟩
 |ft k=>obtain⟨g,o,f,d⟩:=r;exact⟨g,o,f,d.out x y h⟩
 |no=>exact r
 |mk=>exact r
 |_=>obtain⟨g,f,d⟩:=r;exact⟨g,f,d.out x y h⟩
def RZ.freeze(r:RZ K B al lo H σ ρ S)(h:vq B.n i ρ S=some (mx,S')):∃s p,RZ K B s p H σ mx S'/\Xt al H s H/\∀n,ρ[i]?=some (ba n)->∀m a,m≠n->lo m=some a->p m=some a:=by
 unfold vq at h;split at h
 .rename_i n q;split at h
  .rename_i zs M;split at h
   .rename_i ds R;split at h
    .rename_i w;cases h;obtain⟨v,e1,a,F,rfl⟩:=r.vr i _ q;have:=sI R;subst this;obtain⟨vs,g1,g2⟩:=r.cell F M;have P:n<S.length:=(az.mp M).1;have x:Xt al H (λb=>al b\/b=a) H:=λb o _ g e=>⟨.inl g,e⟩;have hB:B.H a=none:=by
      rcases r.nw n a F with z|z;.exact absurd (r.bd n a z) (by simp_all)
      .exact z.1
     refine⟨λb=>al b\/b=a,λm=>if m=n then none else lo m,?_,x,λn' e m b f g=>?_⟩;rotate_left;.rw[q]at e;cases e;dsimp only;rw[aA f];exact g
     have y:∀m b,m≠n->lo m=some b->(λm=>if m=n then none else lo m) m=some b:=λm b f h=>by dsimp only;rw[aA f];exact h
     have back:∀m b,(if m=n then none else lo m)=some b->m≠n/\lo m=some b:=λm b h=>by
      by_cases z:m=n;.rw[aq z]at h;cases h
      .rw[aA z]at h;exact⟨z,h⟩
     have cl:∀c∈S,j9 n c=false:=λc G=>by have:=bX.mp w.2 c G;simpa using this
     refine {fr:=r.fr,hf:=r.hf,tt:=r.tt,fresh:=λb g=>.inl<|r.fresh b g,st:=⟨λm b f=>?_,λm c f G J=>?_,λm b f g=>?_,λm N b h1 h2=>?_,λm b u g hu=>.inl<|r.st.tl ?_ b u g hu⟩,lx:=λm b f=>?_,nw:=λm b f=>r.nw m b (back m b f).2,bd:=r.bd,sz:=by rw[aN];exact r.sz,xt:=r.xt.trans x,sb:=λb g=>?_,len:=by rw[aj];exact r.len,vr:=λj z O=>?_}
     .obtain⟨I,z2⟩:=back m b f;obtain⟨c,D,l⟩:=r.st.at' m b z2;exact⟨c,by rw[ao (bK I)];exact D,l.out x y (cl c (a9 D))⟩
     .by_cases z:n=m
      .subst z;rw[aB P]at f;cases f;exact absurd rfl G
      .rw[ao z]at f;obtain⟨b,k⟩:=r.st.has m c f G J;exact⟨b,by show(if m=n then none else lo m)=some b;rw[aA<|bK z];exact k⟩
     .obtain⟨I,z2⟩:=back m b f;rcases g with g|rfl;.exact r.st.na m b z2 g
      .exact I (r.st.inj m n _ z2 F)
     .exact r.st.inj m N b (back m b h1).2 (back N b h2).2
     .by_cases z:n=0
      .subst z;rw[aB P]at m;cases m
      .rw[ao z]at m;exact m
     .have:=r.bd m b f;show(if m=n then none else lo m)=some b;rw[aA<|by lia];exact r.lx m b f
     .rcases g with g|rfl;.exact r.sb b g
      .exact .inr hB
     .rw[aC]at O;obtain⟨o,D,l⟩:=ay.mp O;cases o with
      |none=>cases l
      |some L=>
       obtain⟨u,T,A⟩:=r.vr j L D;refine⟨u,T,?_⟩;cases L with
       |d x0=>cases l;exact Rep.mv x A
       |tk U=>cases l;obtain⟨Q,j1,Y,V⟩:=A;obtain⟨i1,i2⟩:=x Q (.tup<|U.map kV) (λ_ h=>nomatch h) j1 Y;exact⟨Q,i1,i2,V⟩
       |loc m=>
        have l:(if m=n then some (Z.d<|.lst ds)else some (Z.loc m))=some z:=l;by_cases t:m=n
        .rw[aq t]at l;cases l;obtain⟨b,C,rfl⟩:=A;rw[t,F]at C;cases C;exact .lst (.inl ⟨.inr rfl,.inl g1⟩) (ja.mv x g2.toD)
        .rw[aA t]at l;cases l;obtain⟨b,C,rfl⟩:=A;exact⟨b,by dsimp only;rw[aA t];exact C,rfl⟩
    .cases h
   .cases h
  .cases h
 .cases h;exact⟨al,lo,r,.refl,λ_ _ _ _ _ h=>h⟩
 .cases h
variable{sts:aa Stmt}{st:Stmt}{g:ji}
def qq(b i:Nat)(g:ji):ji:=λρ S=>match vq b i ρ S with
 |some (mx,S')=>g mx S'
 |none=>.bad
def abI(i)(h:ZS X E b st g):ZS X E b st (qq b i g):=by
 obtain⟨t,p,r⟩:=h;refine⟨t,p,λ{B _ _ _ _ _ _ _} a s h=>?_⟩;unfold qq at h;split at h
 .rename_i mx S' q;rw[<-a]at q;obtain⟨f,d,c,x,_⟩:=s.freeze q;exact r a c (j2.ext h x)
 .exact h.elim
end P2
namespace L2
open PySem PySem.Spec PyProof.Rows
section
variable{c:Type}[DecidableEq c]
def lz(a:aa<|c×V)(k:c):i0 V:=(a.find? λd=>decide<|d.1=k).map (·.2)
def putK(a:aa<|c×V)(k:c)(v:V):aa (c×V):=
 if(a.any λd=>decide<|d.1=k)=true then a.map (λd=>if d.1=k then(d.1,v)else d)else a++[(k,v)]
def Er{p:c×V}{k}(e:p.1=k):lz (p::r) k=some p.2:=by simp[lz,cR,e]
def Ep{p:c×V}{k}(e:¬p.1=k):lz (p::r) k=lz r k:=by simp[lz,cR,e]
theorem Lr(k):∀a:aa (c×V),(a.any λd=>decide<|d.1=k)=(lz a k).isSome
 |[]=>rfl
 |p::r=>by
  rw[ec];by_cases e:p.1=k;.simp only[Er e,aR e,Bool.true_or,Option.isSome_some]
  .rw[Ep e,aG e,Bool.false_or];exact Lr k r
def C0(kvs)(k:c)(v):(putK kvs k v).length<=kvs.length+1:=by
 unfold putK;split;.rw[aj];simp
 .rw[ag,au,cy];walk_at "l"
def mU.CJ(r:mU o u):o.isSome=u.isSome:=by
 cases o with
 |none=>cases u with
  |none=>rfl
  |some _=>exact(show False from r).elim
 |some _=>cases u with
  |none=>exact(show False from r).elim
  |some _=>rfl
def mU.getD(r:mU o u)(a:RelV d d'):RelV (o.getD d) (u.getD d'):=by
 cases o with
 |none=>cases u with
  |none=>exact a
  |some _=>exact(show False from r).elim
 |some _=>cases u with
  |none=>exact(show False from r).elim
  |some _=>exact r
def KV.val{a}{i:aa<|c×iT}(r:KV a i)(k):mU (lz a k) (valueAt i k):=by
 unfold KV at r;induction r with
 |nil=>exact True.intro
 |@cons p q n d h t l=>
  obtain⟨j,m⟩:=h;by_cases e:p.1=k
  .have f:q.1=k:=j.symm.trans e;have b:valueAt (q::d) k=some q.2:=by simp[valueAt,cR,f]
   rw[Er e,b];exact m
  .have f:¬q.1=k:=λz=>e (j.trans z);have b:valueAt (q::d) k=valueAt d k:=by simp[valueAt,cR,f]
   rw[Ep e,b];exact l
def KV.any{a}{f:aa<|c×iT}(r:KV a f)(k):(a.any λd=>decide<|d.1=k)=f.any λd=>decide (d.1=k):=by
 unfold KV at r;induction r with
 |nil=>rfl
 |cons h t i=>rw[ec,ec,i,h.1]
def KV.DX(r:KV kvs vs)(k:c)(f:RelV y u):
    KV (kvs.map λa=>if a.1=k then(a.1,y)else a) (vs.map λa=>if a.1=k then(a.1,u)else a):=by
 unfold KV at r⊢;induction r with
 |nil=>exact .nil
 |@cons p q m l h t i=>
  rw[aD,aD];refine .cons ?_ i;obtain⟨d,j⟩:=h;by_cases e:p.1=k;.rw[aq e,aq<|d.symm.trans e];exact⟨d,f⟩
  .rw[aA e,aA<|λz=>e<|d.trans z];exact⟨d,j⟩
def KV.put{a}{d:aa<|c×iT}(r:KV a d)(k){y}{u}(f:RelV y u):KV (putK a k y) (stored d k u):=by
 unfold putK stored;rw[r.any k];by_cases e:(d.any λh=>decide<|h.1=k)=true;.rw[aq e,aq e];exact r.DX k f
 .rw[aA e,aA e];exact Paired.snoc r ⟨rfl,f⟩
def KV.length(r:KV kvs vs):kvs.length=vs.length:=Paired.length r
end
def oE{k}(r:RelV (kV k) u):(jP P w).is k u=true:=by
 cases k with
 |inl i=>obtain⟨t,e⟩:=(show∃t,u=Value.int i t from r);subst e;exact T8 P w i t
 |inr x=>obtain⟨t,e⟩:=(show∃t,u=Value.str x t from r);subst e;exact T9 P w x t
abbrev _root_.oo:=aa Key
theorem CM:∀{a:oo} {c},Vals (a.map kV) c->ItemsAre (jP P w) a c
 |[],_,r=>by rw[dg]at r;cases r;exact .nil
 |k::a,_,r=>by
  rw[aD]at r;cases r with
  |cons h t=>exact .cons (oE h) (CM t)
abbrev KT(H:Hp):aa (aa Key×V)->aa (aa Key×iR×iT)->Prop:=Paired λp q=>p.1=q.1/\H q.2.1=some (.tup<|p.1.map kV)/\RelV p.2 q.2.2
def KT.val(r:KT H kvs xs)(k):mU (lz kvs k) ((atKey xs k).map (·.2)):=by
 induction r with
 |nil=>exact True.intro
 |@cons p q j a h t f=>
  obtain⟨d,_,i⟩:=h;by_cases e:p.1=k
  .have c:q.1=k:=d.symm.trans e;have b:atKey (q::a) k=some q.2:=by simp[atKey,cR,c]
   rw[Er e,b];exact i
  .have c:¬q.1=k:=λz=>e (d.trans z);have b:atKey (q::a) k=atKey a k:=by simp[atKey,cR,c]
   rw[Ep e,b];exact f
def KT.DX(r:KT H kvs xs)(k)(f:RelV y u):
    KT H (kvs.map λc=>if c.1=k then(c.1,y)else c) (xs.map<|putAt k u):=by
 induction r with
 |nil=>exact .nil
 |@cons p q m l h t i=>
  rw[aD,aD];refine .cons ?_ i;obtain⟨a,d,j⟩:=h;unfold putAt;by_cases e:p.1=k;.rw[aq e,aq<|a.symm.trans e];exact⟨a,d,f⟩
  .rw[aA e,aA<|λz=>e<|a.trans z];exact⟨a,d,j⟩
def KT.put(r:KT H kvs xs)(k)(d:H b=some (.tup<|k.map kV))(a:RelV y u):
    KT H (putK kvs k y) (storedH xs k b u):=by
 have e:(kvs.any λc=>decide<|c.1=k)=(atKey xs k).isSome:=by rw[Lr,(r.val k).CJ,Option.isSome_map]
 unfold putK storedH;rw[e];by_cases q:(atKey xs k).isSome=true;.rw[aq q,aq q];exact r.DX k a
 .rw[aA q,aA q];exact Paired.snoc r ⟨rfl,d,a⟩
def KT.keeps(r:KT H kvs xs)(c:∀b a,H b=some (.tup a)->H' b=some (.tup a)):KT H' kvs xs:=
 Paired.C8 r λ_ _ z=>⟨z.1,c _ _ z.2.1,z.2.2⟩
section
variable{P:jE}{w:jz}{H:Hp}{h:jb}{a:iR}
def Kn(ok:kG P w H h)(e:Rd H a u):kH P w H h a u:=e.ok ok
def tZ(ok:kG P w H h)(e:Rd H a<|.dK kvs):kvs.length<=sizeLine/\(a==sysModules)=false/\∃c,KV kvs c/\h.DictOf (jP P w) a c:=
 show kH P w H h a (.dK kvs)from Kn ok e
def Gw(ok:kG P w H h)(e:H a=some (.dK kvs)):kvs.length<=sizeLine/\(a==sysModules)=false/\∃c,KV kvs c/\h.DictOf (jP P w) a c:=tZ ok (.inl e)
def uh(ok:kG P w H h)(e:H a=some (.tup (ks.map kV))):(tupleKind (jP P w)).is h ks a:=by obtain⟨_,c,r,o,i,f,n,d⟩:=(show kH P w H h a (.tup<|ks.map kV)from ok a _ e);exact⟨o,c.toArray,n,i,f,d,by simpa using CM r⟩
abbrev _root_.tJ:=aa (aa Key×iR×iT)
def sP(ok:kG P w H h)(e:Rd H a<|.dT kvs):kvs.length<=sizeLine/\(a==sysModules)=false/\
    ∃d,KT H kvs d/\h.DictOfH (tupleKind<|jP P w) a d:=by
 obtain⟨z,y,d,r,o,v,A,u,s,n,k,j⟩:=(show kH P w H h a (.dT kvs)from Kn ok e);refine⟨z,y,d,r,o,v,A,u,s,n,k,λx c=>?_,j⟩;have all:∀{l:aa<|aa Key×V} {m:tJ},KT H l m->∀x∈m,(tupleKind<|jP P w).is h x.1 x.2.1:=by
  intro l m q;induction q with
  |nil=>intro x c;exact nomatch c
  |@cons p q D C f t i=>
   intro x c;rcases aI.mp c with e|c
   .subst e;exact uh ok (by rw[<-f.1];exact f.2.1)
   .exact i x c
 exact all r x c
def BJ(ok:kG P w H h)(e:H a=some (.dT kvs)):kvs.length<=sizeLine/\(a==sysModules)=false/\
    ∃c,KT H kvs c/\h.DictOfH (tupleKind<|jP P w) a c:=sP ok (.inl e)
end
def oN(H:Hp)(a:iR)(y:V)(r:i0 V):Prop:=
 (∃c k,Rd H a (.dK c)/\y=kV k/\r=lz c k)\/∃c k b,Rd H a (.dT c)/\y=.ref b/\H b=some (.tup<|k.map kV)/\r=lz c k
def uJ(H:Hp)(a:iR)(y v:V)(H':Hp):Prop:=
 (∃c k,H a=some (.dK c)/\y=kV k/\c.length<sizeLine/\H'=upd H a (.dK<|putK c k v))\/
 ∃c k b,H a=some (.dT c)/\y=.ref b/\H b=some (.tup<|k.map kV)/\c.length<sizeLine/\H'=upd H a (.dT<|putK c k v)
def oN.k{H:Hp}{k}(e:H a=some (.dK kvs)):oN H a (kV k) (lz kvs k):=.inl ⟨kvs,k,.inl e,rfl,rfl⟩
def oN.t{H}{k:oo}(e:H a=some (.dT kvs))(c:H b=some (.tup<|k.map kV)):oN H a (.ref b) (lz kvs k):=.inr ⟨kvs,k,b,.inl e,rfl,c,rfl⟩
def uJ.k{H:Hp}{k}(e:H a=some (.dK kvs))(c:kvs.length<sizeLine):uJ H a (kV k) v (upd H a<|.dK<|putK kvs k v):=.inl ⟨kvs,k,e,rfl,c,rfl⟩
def uJ.t{H}{k:oo}(e:H a=some (.dT kvs))(d:H b=some (.tup<|k.map kV))(c:kvs.length<sizeLine):
    uJ H a (.ref b) v (upd H a<|.dT<|putK kvs k v):=.inr ⟨kvs,k,b,e,rfl,d,c,rfl⟩
section
variable{X:Cx}{i:kv}{j:St}{H:Hp}{s:i7}{a:iR}{y v:V}{u r:iT}{o:i0 V}{A:jY}{E:j0}
def Inv.big(I:Inv X i j H s):sysModules<s.heap.objs.size:=by have h:mainGlobals<s.heap.objs.size:=(I.mod.glob.keeps I.bk).lt;exact eM (by decide) h
def Nq(F:A.units+1<cLine)(I:Inv X i j H s)(g:oN H a y<|some v)(x:RelV y u)(h:∀f w,Inv X i j H w->RelV v f->Q f w):
    wpAny (model X.prog X.w) A (getItem (.ref a) u) Q E s:=by
 rcases g with⟨m,k,e,t,l⟩|⟨m,k,b,e,t,L,l⟩
 .subst t;obtain⟨z,J,D,d,dd⟩:=tZ I.hok e;obtain⟨f,n,c⟩:=mU.some_of (v:=v) (o:=valueAt D k) (by rw[l];exact d.val k);exact wpAny_getItem_of (oE x) dd.mapOf n (h f _ (I.tok _) c)
 .subst t;cases(show u=Value.ref b from x);obtain⟨z,J,C,d,dd⟩:=sP I.hok e;obtain⟨f,n,c⟩:=mU.some_of (v:=v) (o:=(atKey C k).map (·.2)) (by rw[l];exact d.val k);obtain⟨p,G,q⟩:=ay.mp n;refine wpAny_getItem_heap (cJ F) (uh I.hok L) dd G ?_;rw[q];exact h f _ (I.tok _) c
def Nr(t:A.units+1<cLine)(I:Inv X i j H s)(g:oN H a y o)(p:RelV y u)(h:∀n,Inv X i j H n->Q (.bool<|!o.isSome) n):
    wpAny (model X.prog X.w) A (compareOp .NotIn u<|.ref a) Q E s:=by
 rcases g with⟨d,k,e,m,l⟩|⟨d,k,b,e,m,w,l⟩
 .subst m;obtain⟨z,f,C,c,dd⟩:=tZ I.hok e;refine wpAny_notIn_of (oE p) f dd.mapOf ?_;rw[<-(c.val k).CJ,<-l];exact h _ (I.tok _)
 .subst m;cases(show u=Value.ref b from p);obtain⟨z,f,x,c,dd⟩:=sP I.hok e;refine wpAny_notIn_heap (cJ t) (uh I.hok w) f dd ?_;have q:=(c.val k).CJ;rw[Option.isSome_map]at q;rw[<-q,<-l];exact h _ (I.tok _)
def BI{c:Nat}(I:Inv X i j H s)(d:wo<|H a)(f:Heap.SameBut a s.heap h')(h:∃q,h'.get? a=some q)(new:kH X.prog X.w (upd H a ob) h' a ob):
    Inv X i j (upd H a ob) {s with heap:=h',toks:=c}:=
 I.write (x:=a) (e:=a) d (.inl rfl) (λb q k z=>(f.2 b k).trans z) h new
def Gu{c}(z:c.length<=sizeLine)(f:(a==sysModules)=false)(d:KV c vs)(dd:h'.DictOf (jP P w) a vs):
    kH P w H' h' a (.dK c):=⟨z,f,vs,d,dd⟩
def Nu{H':Hp}(R:A.units+1<cLine)(I:Inv X i j H s)(g:uJ H a y v H')(G:RelV y u)(J:RelV v r)(h:∀F,Inv X i j H' F->Q () F):
    wpAny (model X.prog X.w) A (setItem (.ref a) u r) Q E s:=by
 rcases g with⟨f,k,e,C,l,D⟩|⟨f,k,b,e,C,N,l,D⟩
 .subst C D;obtain⟨z,x,P,d,dd⟩:=Gw I.hok e;have p:P.length<=sizeLine:=by rw[<-d.length];exact z
  have w:(putK f k v).length<=sizeLine:=by have:=C0 f k v;walk_at "l"
  refine wpAny_setItem_pairs (hsz:=p) (oE G) dd λL m t=>h _ ?_;have T:∃q,L.get? a=some q:=let⟨q,_,_,n,_⟩:=m;⟨q,n⟩;exact BI I (by rw[e];exact True.intro) t T (Gu w x (d.put k J) m)
 .subst C D;cases(show u=Value.ref b from G);obtain⟨z,x,O,d,dd⟩:=BJ I.hok e;have p:O.length<=sizeLine:=by rw[<-Paired.length d];exact z
  have w:(putK f k v).length<=sizeLine:=by have:=C0 f k v;walk_at "l"
  refine wpAny_setItem_heap (hsz:=p) (cJ R) (uh I.hok N) dd λL m t=>h _ ?_;obtain⟨q,es,ep,n,h2,Z,Y,_,U⟩:=m;refine BI I (by rw[e];exact True.intro) t ⟨q,n⟩ ⟨w,x,_,(d.put k N J).keeps λc ys M=>?_,q,es,ep,n,h2,Z,Y,U⟩;rw[jw<|I8 M e<|λz=>nomatch z];exact M
end
def uO(i:jf):Prop:=∀a c,subscripted i false a c=operate [a,c] (getItem a c)
def K4{w}{A}{E}{s}{a}{pos}{n}
 (q:typeLookup (.type T) "__getitem__"=pure (some<|.builtin n))(p:uO slice)
 (h:wpAny (model prog w) A (eval a env) (λo j=>wpAny (model prog w) A (eval slice env) (λi c=>c.TypeIs o T/\wpAny (model prog w) A (getItem o i) Q E c) E j) E s):
   wpAny (model prog w) A (eval (.Subscript a slice pos) env) Q E s:=by
  refine Subscript_ (br h (λo j m=>br m (λi c d=>?_) λ_ _ x=>x) λ_ _ x=>x);obtain⟨hT,d⟩:=d;unfold subscriptTail;refine ae ?_;rw[getitemInPython_of_ne hT.not_modules];refine ae (g9 hT q ?_);have k:wpAny (model prog w) A (subscripted slice false o i) (λr f=>wpAny (model prog w) A (letTemporaryGo a o r>>=λ_=>pure r) Q E f) E c:=by rw[p o i];exact wpAny_operating (br d (λr f l=>ae<|wpAny_letTemporaryGo<|ah l) λ_ _ x=>x)
  first
   |exact ah (ae k)
   |exact ae (ah<|ae k)
   |exact ae k
def NY(I:Inv X pins σ H s)(g:oN H a y o):s.TypeIs (.ref a) "dict":=by
 rcases g with⟨c,k,e,_,_⟩|⟨c,k,b,e,_,_,_⟩
 .obtain⟨_,_,f,_,dd⟩:=tZ I.hok e;exact dd.typeIs
 .obtain⟨_,_,d,_,dd⟩:=sP I.hok e;exact dd.typeIs
def ZJ(d ty:TE):TE:=λσ H Q=>d σ H λx f=>ty σ f λy c=>∃a v,x=.ref a/\oN c a y (some v)/\Q v c
def ZO(ty d:TE):TE:=λσ H Q=>ty σ H λy f=>d σ f λx c=>∃a o,x=.ref a/\oN c a y o/\Q (.bl<|!o.isSome) c
def Yv(f ty d:TE):TS:=λD σ H=>d σ H λv j=>f σ j λx i=>ty σ i λy h=>∃a c,x=.ref a/\uJ h a y v c/\D.nx σ c
section
variable{X:Cx}{o i e b:jf}{c j z:Pos}{l ty m:TE}
def V2(A:X.A.units+1<cLine)(D:PE X o l)(F:PE X i ty)(C:uO i):PE X (.Subscript o i c) (ZJ l ty):=by intro d s σ H Q I h;refine K4 PySem.F.slot_dict_getitem.lookup C (je (D d s σ H _ I h) λu p f=>?_);obtain⟨x,M,J,r,w⟩:=f;refine je (F d p σ M _ J w) λR P f=>?_;obtain⟨y,L,n,q,a,v,ex,g,t⟩:=f;subst ex;obtain rfl:u=Value.ref a:=r;exact⟨NY n g,Nq A n g q λN O G k=>⟨v,L,G,k,t⟩⟩
def VU(v:X.A.units+1<cLine)(A:PE X i ty)(w:PE X o l):PC X .NotIn i o (ZO ty l):=by intro d s σ H Q I h;refine je (A d s σ H _ I h) λN k f=>?_;obtain⟨y,J,F,n,r⟩:=f;refine je (w d k σ J _ F r) λu M f=>?_;obtain⟨x,G,D,p,a,t,ex,g,q⟩:=f;subst ex;obtain rfl:u=Value.ref a:=p;exact Nr v D g n λL C=>⟨.bl<|!t.isSome,G,C,rfl,q⟩
def JS(F:X.A.units+1<cLine)(J:PE X o l)(L:PE X i ty)(hv:PE X b m)(G:swapsWith b (some<|.Subscript o i j) c.line X.env=pure false):
    PS X (.Assign [.Subscript o i j] b c) (Yv l ty m):=by
 intro d s σ H D I h;refine wpAny_Assign_Subscript (je (hv d s σ H _ I h) λr n f=>?_) G;obtain⟨v,T,P,t,C⟩:=f;refine je (J d n σ T _ P C) λu k f=>?_;obtain⟨x,R,O,q,A⟩:=f;refine je (L d k σ R _ O A) λY V f=>?_;obtain⟨y,Z,N,p,a,Q,ex,g,w⟩:=f;subst ex;obtain rfl:u=Value.ref a:=q;exact Nu F N g p t λU M=>⟨σ,Q,M,w⟩
def NZ(h:jb)(a:sysModules<h.objs.size):kH P w H (h.push {cls:=.type "dict",data:=.dict #[]}) h.objs.size (.dK []):=
 ⟨bI _,cT.mpr<|bK<|aV a,[],.nil,Heap.DictOf.new h⟩
def Oq(h:jb)(a:sysModules<h.objs.size):kH P w H (h.push {cls:=.type "dict",data:=.dict #[]}) h.objs.size (.dT []):=
 ⟨bI _,cT.mpr<|bK<|aV a,[],.nil,_,#[],0,aJ _ rfl,⟨rfl,rfl,rfl⟩,rfl,rfl,List.nodup_nil⟩
def ZM:TE:=λ_ H Q=>∀p,H p=none->Q (.ref p) (upd H p<|.dK [])
def ZN:TE:=λ_ H Q=>∀p,H p=none->Q (.ref p) (upd H p<|.dT [])
def V5:PE X (.Dict [] [] c) ZM:=λd s σ H Q I h=>wpAny_Dict_empty ⟨.ref s.heap.objs.size,_,I.laid (a:=s.heap.objs.size) (o:=.dK []) (t':=s.toks) (λ_ _ q=>ai _ q) (af _)<|NZ s.heap I.big,rfl,h _<|I.hok.fresh<|af _⟩
def V6:PE X (.Dict [] [] c) ZN:=λd s σ H Q I h=>wpAny_Dict_empty ⟨.ref s.heap.objs.size,_,I.laid (a:=s.heap.objs.size) (o:=.dT []) (t':=s.toks) (λ_ _ q=>ai _ q) (af _)<|Oq s.heap I.big,rfl,h _<|I.hok.fresh<|af _⟩
end
structure M1(X:Cx)(o:jf)(m:iS)(apos:Pos)(e:jf)(cpos:Pos):Prop where
 base:attributeBase o m X.env (eval o X.env)=eval o X.env
 few:((backTo cpos (starEach [e] X.env)).all (λx=>!x.1)&&(backToKw cpos (keywordEach [] X.env)).all (λx=>x.1.isSome)
  &&decide (([e]:aa jf).length+([]:aa Keyword).length+(if([]:aa Keyword).isEmpty then 0 else 1)<30))=true
 line:(apos.endLine==cpos.line)=true
 trees:backTo cpos (starEach [e] X.env)=[(false,eval e X.env)]
structure M2(X:Cx)(o:jf)(m:iS)(apos:Pos)(e f:jf)(cpos:Pos):Prop where
 base:attributeBase o m X.env (eval o X.env)=eval o X.env
 few:((backTo cpos (starEach [e,f] X.env)).all (λx=>!x.1)&&(backToKw cpos (keywordEach [] X.env)).all (λx=>x.1.isSome)
  &&decide (([e,f]:aa jf).length+([]:aa Keyword).length+(if([]:aa Keyword).isEmpty then 0 else 1)<30))=true
 line:(apos.endLine==cpos.line)=true
 trees:backTo cpos (starEach [e,f] X.env)=[(false,eval e X.env),(false,eval f X.env)]
def ya(H:Hp)(a:iR):Prop:=(∃c,Rd H a<|.dK c)\/∃c,Rd H a (.dT c)
def zr(I:Inv X pins σ H s)(d:ya H a):
    s.TypeIs (.ref a) "dict"/\(∀b,Value.ref a=.ref b->∃ob,s.heap.get? b=some ob/\ob.dict=none)/\(a==sysModules)=false:=by
 rcases d with⟨c,e⟩|⟨c,e⟩
 .obtain⟨_,f,k,_,dd⟩:=tZ I.hok e;refine⟨dd.typeIs,λb q=>?_,f⟩;cases q;obtain⟨ob,_,_,i,h,_⟩:=dd;exact⟨ob,i,h.2.1⟩
 .obtain⟨_,f,j,_,dd⟩:=sP I.hok e;refine⟨dd.typeIs,λb q=>?_,f⟩;cases q;obtain⟨ob,_,_,i,h,_⟩:=dd;exact⟨ob,i,h.2.1⟩
variable{X:Cx}{B:kv}{C:St}{H:Hp}{s:i7}{a:iR}{y d:V}{u r:iT}{o:i0 V}{A:jY}{E:j0}
def Nn(t:A.units+1<cLine)(I:Inv X B C H s)(g:oN H a y o)(p:RelV y u)(h:∀m n,Inv X B C H n->RelV (o.getD .non) m->Q m n):
    wpAny (model X.prog X.w) A (call (.builtin "dict.get") [.ref a,u]) Q E s:=by
 rcases g with⟨f,k,e,j,l⟩|⟨f,k,b,e,j,v,l⟩
 .subst j;obtain⟨z,i,w,c,dd⟩:=tZ I.hok e;refine eN cD dd.typeIs dH (gG _ _) (meets_dict_get (jP X.prog X.w) a (oE p) i) ⟨_,dd.mapOf,h _ _ (I.tok _) ?_⟩;rw[l];exact(c.val k).getD rfl
 .subst j;cases(show u=Value.ref b from p);obtain⟨z,i,q,c,dd⟩:=sP I.hok e;refine eN cD dd.typeIs dH (gG _ _) (meetsH_dict_get (tupleKind<|jP X.prog X.w) a b i) ⟨cJ t,k,q,uh I.hok v,dd,h _ _ (I.tok _) ?_⟩;rw[l];exact(c.val k).getD rfl
def Np(v:A.units+1<cLine)(I:Inv X B C H s)(g:oN H a y o)(p:RelV y u)(q:RelV d r)(h:∀m n,Inv X B C H n->RelV (o.getD d) m->Q m n):
    wpAny (model X.prog X.w) A (call (.builtin "dict.get") [.ref a,u,r]) Q E s:=by
 rcases g with⟨f,k,e,j,l⟩|⟨f,k,b,e,j,w,l⟩
 .subst j;obtain⟨z,i,x,c,dd⟩:=tZ I.hok e;refine eN cD dd.typeIs dH (gH _ _ _) (meets_dict_get_default (jP X.prog X.w) a (oE p) i r) ⟨_,dd.mapOf,h _ _ (I.tok _) ?_⟩;rw[l];exact(c.val k).getD q
 .subst j;cases(show u=Value.ref b from p);obtain⟨z,i,t,c,dd⟩:=sP I.hok e;refine eN cD dd.typeIs dH (gH _ _ _) (meetsH_dict_get_default (tupleKind<|jP X.prog X.w) a b i r) ⟨cJ v,k,t,uh I.hok w,dd,h _ _ (I.tok _) ?_⟩;rw[l];exact(c.val k).getD q
def ZK(h ty:TE):TE:=λC H Q=>h C H λx f=>∃a,x=.ref a/\ya f a/\ty C f λy c=>∃o,oN c a y o/\Q (o.getD .non) c
def ZL(i ty h:TE):TE:=λC H Q=>i C H λx f=>∃a,x=.ref a/\ya f a/\ty C f λy j=>h C j λz c=>∃o,oN c a y o/\Q (o.getD z) c
variable{o e f:jf}{J F:Pos}{K ty L:TE}
def V3(w:X.A.units+1<cLine)(z:PE X o K)(D:PE X e ty)(m:M1 X o "get" J e F):PE X (.Call (.Attribute o "get" J) [e] [] F) (ZK K ty):=by intro B s C H Q I h;refine gg m.base m.few m.line dr cD hI (je (z B s C H _ I h) λu n c=>?_);obtain⟨x,O,j,q,a,ex,d,v⟩:=c;subst ex;obtain rfl:u=Value.ref a:=q;obtain⟨l,k,_⟩:=zr j d;refine⟨l,k,?_⟩;rw[m.trees];refine ck rfl (dR<|cF<|je (D B n C O _ j v) λY T c=>?_);obtain⟨y,N,M,p,U,g,t⟩:=c;refine dJ ?_;exact Nn w M g p λP R G i=>⟨_,N,G,i,t⟩
def V4(M:X.A.units+1<cLine)(N:PE X o K)(O:PE X e ty)(hf:PE X f L)(m:M2 X o "get" J e f F):PE X (.Call (.Attribute o "get" J) [e,f] [] F) (ZL K ty L):=by intro B s C H Q I h;refine gg m.base m.few m.line dr cD hI (je (N B s C H _ I h) λu p c=>?_);obtain⟨x,Z,j,v,a,ex,d,G⟩:=c;subst ex;obtain rfl:u=Value.ref a:=v;obtain⟨l,k,_⟩:=zr j d;refine⟨l,k,?_⟩;rw[m.trees];refine ck rfl (dR<|cF<|je (O B p C Z _ j G) λiv n c=>?_);obtain⟨y,Y,T,t,D⟩:=c;refine cF (je (hf B n C Y _ T D) λfv s3 c=>?_);obtain⟨z,U,R,q,ov,g,w⟩:=c;refine dJ ?_;exact Np M R g t q λw' s4 P i=>⟨_,U,P,i,w⟩
end L2
namespace P2
open PySem L2
section
variable{i:Type}[DecidableEq i]{K:i9}{j:ko}{lo:Lo}{H:Hp}
def valZ(a:aa<|i×Z)(k:i):i0 Z:=(a.find? λc=>decide<|c.1=k).map (·.2)
noncomputable def jL(a:aa<|i×Z)(k:i)(v:Z):aa (i×Z):=
 if(a.any λc=>decide<|c.1=k)=true then a.map λc=>if c.1=k then(c.1,v)else c else a++[(k,v)]
def j4.val(r:j4 K j lo H us zs){k:i}(h:valZ zs k=some z):∃v,lz us k=some v/\jS K j lo H v z:=by
 induction r with
 |nil=>cases h
 |@cons c v f l zs a _ d=>
  unfold valZ at h;unfold lz;rw[cR]at h⊢;by_cases e:c=k;.simp_all
  .simp only[e,eP]at h⊢;exact d h
def j4.none(r:j4 K j lo H us zs){k:i}(h:valZ zs k=Option.none):lz us k=Option.none:=by
 induction r with
 |nil=>rfl
 |@cons c v f l zs a _ d=>
  unfold valZ at h;unfold lz;rw[cR]at h⊢;by_cases e:c=k;.simp_all
  .simp only[e,eP]at h⊢;exact d h
def j4.length(r:j4 K j lo H us zs):us.length=zs.length:=by
 induction r with
 |nil=>rfl
 |cons _ _ a=>simp_all
def j4.any(r:j4 K j lo H us zs)(k:i):(us.any λa=>decide<|a.1=k)=zs.any λa=>decide (a.1=k):=by
 induction r with
 |nil=>rfl
 |cons _ _ c=>simp_all
def j4.put(r:j4 K j lo H us zs)(k:i){v:V}(q:jS K j lo H v z):j4 K j lo H (putK us k v) (jL zs k z):=by
 unfold putK jL;rw[r.any k];split
 .rename_i d;clear d;induction r with
  |nil=>exact .nil
  |@cons f m h l zs a _ c=>
   rw[aD,aD];by_cases e:f=k
   .simp only[e,df];exact .cons q c
   .simp only[e,cj];exact .cons a c
 .rename_i d;clear d;induction r with
  |nil=>exact .cons q .nil
  |cons a _ c=>exact .cons a c
end
def ml:D->i0 Key
 |.int i=>some (.inl i)
 |.str x=>some (.inr x)
 |_=>none
def w8{d k}(r:Rep K al H v d)(h:ml d=some k):v=kV k:=by
 cases r with
 |int i=>cases h;rfl
 |str i=>cases h;rfl
 |_=>cases h
def v8(fo:jd)(f:jx):jd:=λρ S=>(fo ρ S).bind λz h=>(kR (f<|j6 ρ) h).bind λd c=>match z,ml d with
 |.loc n,some k=>(match c[n]? with
  |some (.dk a)=>(match valZ a k with
   |some z=>.ok z c
   |none=>.bad)
  |_=>.bad)
 |_,_=>.bad
def As(fo:jd)(h:jx)(f:jd):ji:=λρ S=>toZ (f ρ S) λv j=>toZ (fo ρ j) λz i=>toZ (kR (h<|j6 ρ) i) λd c=>match z,ml d with
 |.loc n,some k=>(match c[n]? with
  |some (.dk a)=>if a.length<sizeLine then .nx ρ (c.set n<|.dk<|jL a k v)else .bad
  |_=>.bad)
 |_,_=>.bad
section
variable{X:Cx}{E:XK}{b:Nat}{o k e:jf}{fo f:jd}{C:jx}{B:Pos}
def Df:NT (.dK l):=λ_ h=>nomatch h
def Dg:NT (.dT l):=λ_ h=>nomatch h
def LR(hu:X.A.units+64<cLine)(G:ZE X E o fo)(J:DE X E k C)(F:autoParam (uO k) aZ7):ZE X E (.Subscript o k B) (v8 fo C):=by
 obtain⟨to,A,x⟩:=G;obtain⟨tk,pk,y⟩:=J;refine⟨_,V2 (by lia) A pk F,λs h=>x s<|iU.mono (iU.split h) λ{_ l i _ _} d V U L v r=>y d.rs<|Aft.mono (iU.toAft d<|iU.split L) λ{_ R} p c u t=>?_⟩;have m:=d.grow p;split at c
 .rename_i n Z j;split at c
  .rename_i D q;split at c
   .rename_i T z;obtain⟨a,I,rfl⟩:=r;have O:=w8 t j;subst O;obtain⟨Y,N,M⟩:=m.cell I q;obtain⟨w,Q,P⟩:=M.val z;refine⟨a,w,rfl,?_,c l i R m .refl .refl w P⟩;rw[<-Q];exact .k N
   .exact c.elim
  .exact c.elim
 .exact c.elim
def abE{d:Pos}(hu:X.A.units+64<cLine)(ho:ZE X E o fo)(hk:DE X E k C)(hv:ZE X E e f)(hs:autoParam (swapsWith e (some<|.Subscript o k d) B.line X.env=pure false) aZ0):
    ZS X E b (.Assign [.Subscript o k d] e B) (As fo C f):=by
 obtain⟨to,po,V⟩:=ho;obtain⟨tk,pk,Y⟩:=hk;obtain⟨tv,pv,T⟩:=hv;refine⟨_,JS (by lia) po pk pv hs,λF s h=>T s<|iU.mono (j2.mq h) λ{y _ _ _ _} R x0 y0 h0 m r0=>V R<|iU.mono (j2.mq h0) λ{z j v _ _} r P M h1 v1 Z=>Y r.rs<|Aft.mono (iU.toAft r<|j2.mq h1) λ{_ G} J i u U=>?_⟩;have p:=r.grow J;split at i
 .rename_i n l D;split at i
  .rename_i x q;split at i
   .rename_i hl;obtain⟨a,A,rfl⟩:=Z;have ek:=w8 U D;subst ek;obtain⟨I,g1,L⟩:=p.cell A q;have t:jS X.K j v G m y:=(r0.mv P M).mv (.of J) .refl;have O:Xt j G j (upd G a (.dK (putK I l m))):=λb o _ F eb=>⟨F,by rw[jw λz=>p.st.na n a A (by rw[<-z];exact F)];exact eb⟩;obtain⟨Q,N⟩:=p.write A (o:=.dK (putK I l m)) (c:=.dk (jL x l y)) Df (λq w=>by unfold lG at w;cases w) ⟨_,j7,j4.mv O .refl (L.put l t)⟩ nofun;exact⟨a,_,rfl,.k g1 (by rw[L.length];exact hl),i _ _ _ _ N Q⟩
   .exact i.elim
  .exact i.elim
 .exact i.elim
variable{P:jE}{w:jz}{K:i9}{p:km}{i:jb}{f:iR}{r:m8}{x:iS}{j:jy}
def O3{k}:my P w K p i k f r j (rS j.length K λ_=>.bad):=
 ⟨λd H Q E h=>h.1,λA a s H c l d Q E _ _ _ _ h=>by obtain⟨_,_,_,_,_,_,h⟩:=h;exact h.elim⟩
def O4{k}:my P w K p i k f r j (mR j.length K λ_ _=>.bad):=
 ⟨λd H Q E h=>h.1,λA a s H c l d Q E _ _ _ _ h=>by obtain⟨_,_,_,_,_,_,_,_,_,h⟩:=h;exact h.elim⟩
noncomputable def oA(a:(jg)->jg):Nat->jg
 |0=>λ_=>.bad
 |m+1=>a (oA a m)
noncomputable def lD(a:(jh)->jh):Nat->jh
 |0=>λ_ _=>.bad
 |m+1=>a (lD a m)
theorem DU{n}{F0:(jg)->jg}(hn:n=j.length)
 (a:∀{k c},my P w K p i k f r j c->pQ P w K p i k x j c)
 (step:∀d k,k0<=k->pQ P w K p i k x j (rS n K d)->my P w K p i (k+st) f r j (rS n K<|F0 d)):∀m:Nat,my P w K p i (k0+m*st) f r j (rS n K<|oA F0 m)
  |0=>by subst hn;exact O3
  |m+1=>by have:=step (oA F0 m) (k0+m*st) (cK _ _) (a<|DU hn a step m);rw[Nat.succ_mul,<-Nat.add_assoc];exact this
theorem xB{n}{F0:(jh)->jh}(hn:n=j.length)
 (a:∀{k} {c},my P w K p i k f r j c->pQ P w K p i k x j c)
 (step:∀d k,k0<=k->pQ P w K p i k x j (mR n K d)->my P w K p i (k+st) f r j (mR n K<|F0 d)):∀m:Nat,my P w K p i (k0+m*st) f r j (mR n K<|lD F0 m)
  |0=>by subst hn;exact O4
  |m+1=>by have:=step (lD F0 m) (k0+m*st) (cK _ _) (a<|xB hn a step m);rw[Nat.succ_mul,<-Nat.add_assoc];exact this
end
def uA(f:iS)(v:Z):aa (iS×Z)->aa (iS×Z)
 |[]=>[(f,v)]
 |(g,x)::r=>if g=f then(g,v)::r else(g,x)::uA f v r
section
variable{K:i9}{i:ko}{lo:Lo}{H:Hp}
def j4.look(r:j4 K i lo H us zs){f:iS}(h:zs.lookup f=some z):∃v,us.lookup f=some v/\jS K i lo H v z:=by
 induction r with
 |nil=>cases h
 |@cons k v c d a q _ j=>
  rw[gI]at h⊢;cases e:f==k with
  |true=>simp_all
  |false=>simp_all
def j4.Uq(r:j4 K i lo H us zs){f:iS}(h:zs.lookup f=Option.none):us.lookup f=Option.none:=by
 induction r with
 |nil=>rfl
 |@cons k v c d a q _ j=>
  rw[gI]at h⊢;cases e:f==k with
  |true=>simp_all
  |false=>lia
def j4.mr(r:j4 K i lo H us zs)(f)(q:jS K i lo H v z):j4 K i lo H (L2.mr f v us) (uA f z zs):=by
 induction r with
 |nil=>exact .cons q .nil
 |@cons k m j l a d c h=>
  unfold L2.mr uA;by_cases e:k=f;.rw[aq e,aq e];exact .cons q c
  .rw[aA e,aA e];exact .cons d h
def Je:NT (.ins C dx us):=λ_ h=>nomatch h
end
def qr(C:iR)(fo:jd)(f:iS):jd:=λρ S=>(fo ρ S).bind λz a=>match z with
 |.loc n=>(match a[n]? with
  |some (.ob c fs)=>if c=C then(match fs.lookup f with
   |some z=>.ok z a
   |none=>.bad)else .bad
  |_=>.bad)
 |_=>.bad
def xK(C:iR)(fo:jd)(f:iS)(d:jd):ji:=λρ S=>toZ (d ρ S) λv h=>toZ (fo ρ h) λz a=>match z with
 |.loc n=>(match a[n]? with
  |some (.ob c fs)=>if c=C/\fs.length<1000 then .nx ρ (a.set n<|.ob c<|uA f v fs)else .bad
  |_=>.bad)
 |_=>.bad
def wc(C:iR)(m:iS)(F:jh)(f:jD)(fo:jd)(fs:nM):jd:=λρ S=>(fo ρ S).bind λz a=>match z with
 |.loc n=>(match a[n]? with
  |some (.ob i d)=>if i=C/\d.lookup m=none then(fs ρ a).bind λc h=>F (.loc n::(c++f.map .d)) h else .bad
  |_=>.bad)
 |_=>.bad
def wb(C:iR)(F:jh)(fs:nM):jd:=λρ S=>(fs ρ S).bind λf d=>match F (.loc d.length::f) (d++[.ob C []])with
 |.ok (.d .non) a=>.ok (.loc d.length) a
 |.ex c ns ds a=>.ex c ns ds a
 |_=>.bad
def pR(P:jE)(w:jz)(K:i9)(i:km)(c:jb)(k:Nat)(C:iR)(m:iS)(d:jy)(j:jD)(h:Sp):Prop:=
 ∃(f:iR) (fd:m8) (ds:kn) (a:aa V),my P w K i c k f fd d h/\Binds K fd d ds/\Vals a ds/\(∀al H,ja K al H a j)/\Meth K C m f
def pR.up{w k}(G:pR P w K mg base j C m ps dz sp)(h:j<=k):pR P w K mg base k C m ps dz sp:=
 let⟨f,c,d,a,fo,r⟩:=G;⟨f,c,d,a,fo.mono h,r⟩
def qy(P:jE)(w:jz)(K:i9)(h:km)(a:jb)(k:Nat)(C:iR)(c:jy)(d:Sp):Prop:=
 ∃(f:iR) (fd:m8),my P w K h a k f fd c d/\Binds K fd c []/\Mk K C f
def qy.up{w k}(G:qy P w K mg base j C ps sp)(h:j<=k):qy P w K mg base k C ps sp:=
 let⟨f,a,fo,r⟩:=G;⟨f,a,fo.mono h,r⟩
section
variable{X:Cx}{E:XK}{b:Nat}{o e l:jf}{A:kK}{i p I J M:Pos}{fo O:jd}{fs:nM}{f m x:iS}{C:iR}{k n:Nat}{N:jy}{L:jD}{F:jh}
def AE(c:o9 X.K C)(Q:qB X.K C f)(R:ZE X E o fo)(V:autoParam (attributeBase o f X.env (eval o X.env)=eval o X.env) aZ0):ZE X E (.Attribute o f i) (qr C fo f):=by
 obtain⟨to,P,z⟩:=R;refine⟨_,V8 P V,λs h=>z s<|iU.mono (iU.split h) λ{_ r j H1 _} t x1 y1 d v y=>?_⟩;split at d
 .rename_i n;split at d
  .rename_i C' us q;split at d
   .rename_i U;subst U;split at d
    .rename_i z0 G;obtain⟨a,T,rfl⟩:=y;obtain⟨dx,u,g1,Y⟩:=t.cell T q;obtain⟨w,e1,e2⟩:=Y.look G;exact⟨a,_,dx,u,w,rfl,g1,c,Q,e1,d r j H1 t .refl .refl w e2⟩
    .exact d.elim
   .exact d.elim
  .exact d.elim
 .exact d.elim
def L5(c:o9 X.K C)(na:qB X.K C f)(ho:ZE X E o fo)(hv:ZE X E l O)(hs:autoParam (swapsWith l (some<|.Attribute o f J) i.line X.env=pure false) aZ0):ZS X E b (.Assign [.Attribute o f J] l i) (xK C fo f O):=by
 obtain⟨to,po,ro⟩:=ho;obtain⟨tv,pv,rv⟩:=hv;refine⟨_,WI po pv hs,λR s h=>rv s<|iU.mono (j2.mq h) λ{y _ _ _ _} s0 x0 y0 h0 t r0=>ro s0<|iU.mono (j2.mq h0) λ{z j G U _} u x1 y1 d v1 r1=>?_⟩;split at d
 .rename_i n;split at d
  .rename_i V us q;split at d
   .rename_i Q;obtain⟨Q,hl⟩:=Q;subst Q;obtain⟨a,P,rfl⟩:=r1;obtain⟨T,r,g1,Y⟩:=u.cell P q;have v:jS X.K j G U t y:=r0.mv x1 y1;have x2:Xt j U j (upd U a (.ins V T (L2.mr f t r))):=λb o _ R eb=>⟨R,by rw[jw λz=>u.st.na n a P (by rw[<-z];exact R)];exact eb⟩;obtain⟨s4,x4⟩:=u.write P (o:=.ins V T (L2.mr f t r)) (c:=.ob V (uA f y us)) Je (λq w=>by unfold lG at w;cases w) ⟨_,_,j7,j4.mv x2 .refl (Y.mr f v)⟩ nofun;exact⟨a,_,T,r,rfl,g1,c,na,by rw[Y.length];exact hl,d _ _ _ _ x4 s4⟩
   .exact d.elim
  .exact d.elim
 .exact d.elim
def Yi{lo}(r:jU K al lo H vs zs)(q:ja K al H ws ds):jU K al lo H (vs++ws) (zs++ds.map .d):=r.append (.ofD q)
def T6{lo}(s:RZ X.K B al lo H σ ρ S)(G:jU X.K al lo H vs zs)(P:vs.length=n)
 (h:iU X.K B E al lo H σ ρ (F zs S) (λz u t H' _=>∀v,jS X.K u t H' v z->Q v H')):mR n X.K F vs H Q E:=by
  refine⟨P,s.tt,al,lo,zs,S,s.fresh,s.st,G,?_⟩;cases r:F zs S with
  |bad=>rw[r]at h;exact h.elim
  |ex c U V T=>rw[r]at h;exact λd a w R j y=>h d a w R (s.toEZ.trans j) y
  |ok z T=>rw[r]at h;exact λd a w v j q=>h d a w (s.after j) j.xt j.lx v q
def LW{pl}(G:pR X.prog X.w X.K X.mg X.base k C m N L<|mR n X.K F)(c:o9 X.K C)(hr:kz k X.A)(hx:Passes (j8 X.prog X.w) X E)(ho:ZE X E o fo)(ha:ZA X E (e::A) fs)(hn:(e::A).length+1+L.length=n)
 (y:autoParam (X.se e A) aZ0)(z:autoParam (X.bk i A) aZ0)
 (ht:autoParam (eval (.Call (.Attribute o m I) (e::A) [] i) X.env=(do
 let V<-eval o X.env
 standAt I.atName
 let(f,first)<-holding [V] (getMethod V m pl)
 callWith i f first (backTo i (starEach (e::A) X.env)) (backToKw i (keywordEach [] X.env)))) aZ0):
  ZE X E (.Call (.Attribute o m I) (e::A) [] i) (wc C m F L fo fs):=by
  obtain⟨to,po,ro⟩:=ho;obtain⟨ta,pa,ra,lb⟩:=ha;obtain⟨f,fd,ds,dvs,Q,bi,va,U,me⟩:=G;refine⟨_,Wb po c me Q hr bi va hx pa y z ht,λ{_ _ _ _ _ ρ _ _} s h=>ro s<|iU.mono (iU.split h) λ{_ _ _ _ S1} T x1 y1 d v rv=>?_⟩;split at d
  .rename_i j;split at d
   .rename_i C' us q;split at d
    .rename_i P;obtain⟨P,hl⟩:=P;subst P;obtain⟨a,t,rfl⟩:=rv;obtain⟨dx,vs,g1,g2⟩:=T.cell t q;refine⟨a,dx,vs,rfl,g1,g2.Uq hl,ra T ?_⟩;cases w:fs ρ S1 with
     |bad=>rw[w]at d;exact d.elim
     |ex c ns ds S2=>rw[w]at d;exact d
     |ok zs S2=>
      rw[w]at d;have ll:=lb _ _ _ _ w;intro u xj Y s2 x2 R ws r;refine T6 s2 (zs:=.loc j::(zs++L.map .d)) (.cons ⟨a,R _ _ t,rfl⟩<|Yi r<|U u Y) ?_ (iU.up d x2 R);have:=(U u Y).length;rw[au,ag,r.length,this,ll,<-hn]
      lia
    .exact d.elim
   .exact d.elim
  .exact d.elim
def TV{lo}{Q:VK}(s:RZ X.K B al lo H σ ρ S)(rv:jU X.K al lo H vs zs)(hl:vs.length+1=n)
 (h:iU X.K B E al lo H σ ρ (match F (.loc S.length::zs) (S++[.ob C []])with
 |.ok (.d .non) u=>RX.ok (Z.loc S.length) u
 |.ex c ns ds u=>.ex c ns ds u
 |_=>.bad) (λz R P H' _=>∀v,jS X.K R P H' v z->Q v H'))(hy:H y=none)(hd:H dx=none)(ne:dx≠y):mR n X.K F (.ref y::(vs++[])) (upd (upd H dx (.own y)) y (.ins C dx [])) (λv H2=>v=.non/\Q (.ref y) H2) E:=by
  have Y:=s.grow (lV (K:=X.K) (o:=.own y) hd);have t:(upd H dx<|.own y) y=none:=by rw[jw<|bK ne];exact hy
  have hc:lQ X.K (λb=>al b/\b≠y) (kF lo S.length y) (upd (upd H dx<|.own y) y<|.ins C dx []) y (.ob C []):=⟨dx,[],j7,.nil⟩;have r:=Y.new t Je hc nofun;have V:Xt al H (λb=>al b/\b≠y) (upd (upd H dx<|.own y) y<|.ins C dx []):=(Xt.of<|lV (K:=X.K) (o:=.own y) hd).trans (o5 t);have U:=n6 Y.st y;have hn:kF lo S.length y S.length=some y:=by unfold kF;rw[aq rfl]
  refine⟨by rw[aU,au];exact hl,r.tt,_,_,.loc S.length::zs,S++[.ob C []],r.fresh,r.st,.cons ⟨y,hn,rfl⟩<|by rw[aU];exact rv.mv V U,?_⟩;cases G:F (.loc S.length::zs) (S++[.ob C []])with
  |bad=>rw[G]at h;exact h.elim
  |ex c ns ds u=>rw[G]at h;exact λj a T dx q xr=>h j a T dx (r.toEZ.trans q) xr
  |ok z u=>
   rw[G]at h;cases z with
   |d d=>
    cases d with
    |non=>
     intro j a T v q w;have ev:v=.non:=by cases w;rfl
     exact⟨ev,h j a T (r.after q) (V.trans q.xt) (U.trans q.lx) _ ⟨y,q.lx _ _ hn,rfl⟩⟩
    |_=>exact h.elim
   |_=>exact h.elim
def abf(G:qy X.prog X.w X.K X.mg X.base k C N<|mR n X.K F)(V:kz (k+1) X.A)(hg:Gl X x)(hm:X.mg x=some (.ref C))(U:Passes (j8 X.prog X.w) X E)(ha:ZA X E (e::A) fs)(Y:(e::A).length+1=n)
 (d:autoParam (lL x) aZ1)(he:autoParam (X.se e A) aZ0)(a:autoParam (X.bk i A) aZ0):
   ZE X E (.Call (.Name x p) (e::A) [] i) (wb C F fs):=by
  obtain⟨ta,z,w,R⟩:=ha;obtain⟨f,fd,j,bi,mk⟩:=G;refine⟨_,Wa mk j V hg hm bi .nil U z d he a,λ{_ _ _ _ _ ρ S _} s h=>w s ?_⟩;unfold wb at h;cases q:fs ρ S with
  |bad=>rw[q]at h;exact h.elim
  |ex c ns ds S1=>rw[q]at h;exact h
  |ok zs S1=>rw[q]at h;intro qE P H1 v u t vs r y dx T hd ne;have Q:=R _ _ _ _ q;exact TV v r (by rw[r.length,Q];exact Y) (iU.up h u t) T hd ne
end
abbrev _root_.yw:=jZ (i0 iT)
structure sA(K:i9)(x qual:iS)(st:Stmt)(dV:iT)(f:iR)(fd:m8):Prop where
 ex:∃(oc:iT) (od:mf) (kV doc pm:iT) (an:mf) (cdv ct:iT) (osl:yw),
  fd=W.fnOf x qual (oy st) (mh st) (jQ st) dV kV doc pm an cdv ct/\K.lookup f=some ⟨oc,od,.func fd,osl⟩/\W.codeIn K cdv qual=true
 kp:W.keepIn K (.ref f)=true
section
variable{P:jE}{w:jz}{K:i9}{j:km}{i:jb}
def Pg{x}{st}{f}{dV kV}(l:K.lookup f=some ⟨oc,od,.func<|W.fnOf x qual (oy st) (mh st) (jQ st) dV kV doc pm an cdv ct,osl⟩)
 (c:W.codeIn K cdv qual=true)(k:W.keepIn K (.ref f)=true):sA K x qual st dV f (W.fnOf x qual (oy st) (mh st) (jQ st) dV kV doc pm an cdv ct):=⟨⟨oc,od,kV,doc,pm,an,cdv,ct,osl,rfl,l,c⟩,k⟩
def O7{x}{st}{dV}{f}{o}{k}{g:Nat->ji}(F:sA K x qual st dV f fd)(S:tw N o<|jQ st)
 (l:∀(b:Nat) (d:iT) (A:jY) (a:mL) (s:i7) (H:Hp) (E:XK),kz k (kC (j8 P w) P w K j i N qual (jQ st) f d A a s H E).A->oq (kC (j8 P w) P w K j i N qual (jQ st) f d A a s H E) E b (mh st) (g b)):
   my P w K j i (k+1) f fd o (mR o.length K λn S=>jc<|g S.length (jR N.length n) S):=by
  obtain⟨Y,V,kV,T,U,an,d,ct,M,rfl,O,v⟩:=F.ex;refine G0 O v S (λG H Q E h=>h.1) λA a s H G Q E R h=>?_;obtain⟨hl,I,al,lo,n,m,fr,st,L,h⟩:=h;obtain⟨t,p,r⟩:=l m.length d A a s H E R;dsimp only at h;refine⟨t,p,r (B:=⟨H,al,lo,m.length⟩) rfl (Ky I fr st L) ?_⟩;cases q:g m.length (jR N.length n) m with
  |nx ρ C=>rw[q]at h;exact λy u H' D _ J=>h y u H' .non J.toEZ .non
  |rt z C=>rw[q]at h;exact h
  |ex c Z es C=>rw[q]at h;exact h
  |_=>rw[q]at h;exact h.elim
def sA.binds{x}{st}{dV}{f}{k}(F:sA K x qual st dV f fd)
 (h:∀(kV a l:iT) (m:mf) (c ct:iT) (d:kn),d.length=k.length->bindArgs (W.fnOf x qual (oy st) (mh st) (jQ st) dV kV a l m c ct) ⟨d,[]⟩=pure (k.zip d)):Binds K fd k []:=by obtain⟨q,p,kV,a,l,m,c,ct,n,rfl,r,o⟩:=F.ex;exact .all (h kV a l m c ct)
end
def lE:aa D->i0 (aa Key)
 |[]=>some []
 |d::r=>(ml d).bind λk=>(lE r).map (k:: ·)
theorem vC:∀{c} {d} {a},ja K al H c d->lE d=some a->c=a.map kV
 |_,_,_,.nil,h=>by cases h;rfl
 |_,_,_,.cons r q,h=>by obtain⟨k,j,i⟩:=aL.mp h;obtain⟨a,f,rfl⟩:=ay.mp i;rw[w8 r j,vC q f];rfl
def uH(fs:nM):jd:=λρ S=>(fs ρ S).bind λc d=>match(lU c).bind lE with
 |some a=>if a.length<=sizeLine then .ok (.tk a) d else .bad
 |none=>.bad
def LK(d fo:jd):jk->iZ->RX i6:=λρ S=>(d ρ S).bind λy f=>(fo ρ f).bind λz c=>match z,y with
 |.loc n,.tk k=>(match c[n]? with
  |some (.dt a)=>.ok (valZ a k).isSome c
  |_=>.bad)
 |_,_=>.bad
def rZ(fo d f:jd):ji:=λρ S=>toZ (f ρ S) λv i=>toZ (fo ρ i) λz h=>toZ (d ρ h) λy c=>match z,y with
 |.loc n,.tk k=>(match c[n]? with
  |some (.dt a)=>if a.length<sizeLine then .nx ρ (c.set n<|.dt<|jL a k v)else .bad
  |_=>.bad)
 |_,_=>.bad
def qY:jd:=λ_ S=>.ok (.loc S.length) (S++[.dt []])
section
variable{X:Cx}{E:XK}{b:Nat}{o k e:jf}{l:kK}{fo j f:jd}{fs:nM}{i:Pos}
def Ez{q}(A:ZA X E l fs):ZE X E (.Tuple l q i) (uH fs):=by
 obtain⟨J,y,x,_⟩:=A;refine⟨_,DB y,λs h=>x s<|iU.mono (iU.split h) λ{_ n d _ _} r q I a v w=>?_⟩;split at a
 .rename_i t D;obtain⟨L,G,F⟩:=aL.mp D;have:=sI G;subst this;have c:=w.toD;have C:=vC c F;subst C;split at a
  .rename_i z;refine⟨by rw[aj];exact z,λp m=>?_⟩;have u:=r.grow (lV (K:=X.K) (o:=.tup<|t.map kV) m);exact a n d _ u (Xt.of<|lV (K:=X.K) (o:=.tup<|t.map kV) m) .refl (.ref p) ⟨p,r.fresh p m,j7,rfl⟩
  .exact a.elim
 .exact a.elim
def xX:ZE X E (.Dict [] [] i) qY:=by
 refine⟨_,V6,λ{_ al lo H _ _ S _} s h=>λp a=>?_⟩;have m:lQ X.K (λb=>al b/\b≠p) (kF lo S.length p) (upd H p<|.dT []) p (.dt []):=⟨[],j7,.nil⟩;have c:=s.new a Dg m nofun;have d:kF lo S.length p S.length=some p:=by unfold kF;rw[aq rfl]
 exact h _ _ _ c (o5 a) (n6 s.st p) _ ⟨p,d,rfl⟩
def abF(hu:X.A.units+64<cLine)(ho:ZE X E o fo)(hk:ZE X E k j)(hv:ZE X E e f)(hs:autoParam (swapsWith e (some<|.Subscript o k pos') i.line X.env=pure false) aZ0):
    ZS X E b (.Assign [.Subscript o k pos'] e i) (rZ fo j f):=by
 obtain⟨to,po,Y⟩:=ho;obtain⟨tk,pk,rk⟩:=hk;obtain⟨tv,pv,U⟩:=hv;refine⟨_,JS (by lia) po pk pv hs,λD s h=>U s<|iU.mono (j2.mq h) λ{y _ _ _ _} T x0 y0 h0 t r0=>Y T<|iU.mono (j2.mq h0) λ{z _ _ _ _} R P L h1 v1 r1=>rk R<|iU.mono (j2.mq h1) λ{_ p A F _} v O G m u V=>?_⟩;split at m
 .rename_i n r;split at m
  .rename_i C q;split at m
   .rename_i hl;obtain⟨a,hn,rfl⟩:=r1;obtain⟨c,ha,hc,rfl⟩:=V;have d:=G _ _ hn;obtain⟨I,g1,J⟩:=v.cell d q;have x:jS X.K p A F t y:=(r0.mv P L).mv O G;have N:Xt p F p (upd F a (.dT (putK I r t))):=λb o _ D eb=>⟨D,by rw[jw λz=>v.st.na n a d (by rw[<-z];exact D)];exact eb⟩;obtain⟨Q,M⟩:=v.write d (o:=.dT (putK I r t)) (c:=.dt (jL C r y)) Dg (λq w=>by unfold lG at w;cases w) ⟨_,j7,j4.mv N .refl (J.put r x)⟩ nofun;exact⟨a,_,rfl,.t g1 hc (by rw[J.length];exact hl),m _ _ _ _ M Q⟩
   .exact m.elim
  .exact m.elim
 .exact m.elim
abbrev _root_.lR:=aa (aa Key×Z)
def j4.isSome{K:i9}{al:ko}{lo:Lo}{H:Hp}{c:aa<|aa Key×V}{a:lR}(r:j4 K al lo H c a)(k:oo):(lz c k).isSome=(valZ a k).isSome:=by
 cases e:valZ a k with
 |none=>rw[r.none e];rfl
 |some z=>obtain⟨v,d,_⟩:=r.val e;rw[d];rfl
end
def Am(K:i9)(f:jd):TE:=λσ H Q=>∃B al lo ρ S,RZ K B al lo H σ ρ S/\iU K B (λ_ _ _=>False) al lo H σ ρ (f ρ S) (λz c a H' _=>∀v,jS K c a H' v z->Q v H')
def xI(K:i9)(f:mV):TT:=λσ H Q=>∃B al lo ρ S,RZ K B al lo H σ ρ S/\iU K B (λ_ _ _=>False) al lo H σ ρ (f ρ S) (λb _ _ H' _=>Q b H')
def ZE.w(h:ZE X (λ_ _ _=>False) e f):PE X e (Am X.K f):=by obtain⟨t,p,r⟩:=h;intro c s σ H Q I i;obtain⟨B,al,lo,ρ,S,d,a⟩:=i;exact p c s σ H Q I (r d a)
def ZT.w(h:ZT X (λ_ _ _=>False) e f):PT X e (xI X.K f):=by obtain⟨t,p,r⟩:=h;intro c s σ H Q I i;obtain⟨B,al,lo,ρ,S,d,a⟩:=i;exact p c s σ H Q I (r d a)
def tN(X:Cx)(a:kK)(f:mV):Prop:=PF X a (xI X.K f)
def qu:jk->iZ->RX i6:=λ_ S=>.ok true S
def EA:tN X [] qu:=λc s σ H Q I h=>by obtain⟨B,al,lo,ρ,S,d,a⟩:=h;exact JF c s σ H Q I (a al lo H d .refl .refl)
def abq(h:ZT X (λ_ _ _=>False) c f):tN X [c] f:=JG h.w
abbrev _root_.yx:=jk->iZ->RX (aa D)
structure ZI(X:Cx)(E:XK)(tg iter:jf)(f:yx):Prop where
 w_::
 o_:∃wi:TI,PI X tg iter wi/\
 ∀{B al lo H σ ρ S} {R:It->Hp->Prop},RZ X.K B al lo H σ ρ S->iU X.K B E al lo H σ ρ (f ρ S) (λds kh mm H' _=>∀J,Wk X.K kh H' J ds->R J H')->wi σ H R
def xQ(f:jd):jk->iZ->RX (aa D):=λρ S=>(f ρ S).bind λz a=>match z with
 |.d (.lst ds)=>.ok ds a
 |_=>.bad
section
variable{X:Cx}{E:XK}{i e:jf}{f:jd}
def abw(q:ZE X E e f):ZI X E i e (xQ f):=by
 obtain⟨t,p,r⟩:=q;refine⟨_,DF p,λs h=>r s<|iU.mono (iU.split h) λ{_ c j m _} o z y k v l=>?_⟩;split at k
 .rename_i x;have d:Rep X.K c m v (.lst x):=l;obtain⟨a,n,w,u,A⟩:=d.oU;subst w;exact⟨a,rfl,⟨n,u⟩,k c j m o .refl .refl _<|LD l⟩
 .exact k.elim
end
def mM(a:lC)(ρ:jk):jk:=none::a.map λi=>(ρ[i]?).getD none
def Kx(s:RZ K B qE lo1 H1 σ ρ S1)(l:EZ K B yF xj H2 S2)(x:Xt qE H1 yF H2)(y:Lx lo1 xj)(ci):RZ K B yF xj H2 (mX 1 ci σ) (mM ci ρ) S2 where
 toEZ:=l
 len:=by unfold mX mM;simp
 vr:=λj z h=>by
  unfold mM at h;cases j with
  |zero=>cases h
  |succ k=>
   rw[eH,aC]at h;cases q:ci[k]? with
   |none=>rw[q]at h;cases h
   |some i=>
    rw[q]at h;have a:(ρ[i]?).getD none=some z:=Option.some.inj h;cases w:ρ[i]? with
    |none=>rw[w]at a;cases a
    |some o=>rw[w]at a;have c:o=some z:=a;subst c;obtain⟨v,f,d⟩:=s.vr i z w;refine⟨v,?_,d.mv x y⟩;unfold mX;show(none::(ci.map λi=>(σ[i]?).getD none))[k+1]?=_;rw[eH,aC,q];show some ((σ[i]?).getD none)=_;rw[f];rfl
noncomputable def sd(c:mV)(e:jd)(a:jk)(f:Nat):aa D->iZ->RX Z
 |[],S=>.ok (.loc f) S
 |d::r,S=>match c (a.set 0<|iM d) S with
  |.ok b j=>if b=true then(match e (a.set 0 (iM d)) j with
   |.ok z i=>(match i[f]? with
    |some (.li h)=>if h.length<sizeLine then sd c e a f r (i.set f<|.li<|h++[z])else .bad
    |_=>.bad)
   |_=>.bad)else sd c e a f r j
  |_=>.bad
def v7(d:yx)(h:lC)(c:mV)(e:jd):jd:=λρ S=>(d ρ S).bind λf a=>sd c e (mM h ρ) a.length f (a++[.li []])
structure u6(X:Cx)(E:XK)(e:jf)(f:jd):Prop where
 w_::
 o_:∃t:TE,PE X e t/\yk X e t/\∀{B al lo H σ ρ S} {Q:VK},RZ X.K B al lo H σ ρ S->iU X.K B E al lo H σ ρ (f ρ S) (λz kh mm H' _=>∀v,jS X.K kh mm H' v z->Q v H')->t σ H Q
def abM{X}{pos}(i)(hN:X.N.Nodup)(n:X.N[i]?=some x)(l:Loc X.env.scope x)(o:u6 X E e f)(m:autoParam (swapsWith e (some<|.Name x pos') pos.line X.env=pure true) aZ0)(hf:autoParam (X.hf x) aZ5):
    ZS X E b (.Assign [.Name x pos'] e pos) (i4 i f):=by
 obtain⟨t,_,p,r⟩:=o;refine⟨_,JV hN n l p m hf,λ{_ _ _ _ _ ρ _ _} z s h=>r s<|iU.mono (j2.mq h) λ{_ d c q _} j y u a v k=>?_⟩;by_cases w:i<ρ.length
 .simp only[w,df]at a;exact a d c q _ .refl (j.set w k)
 .simp only[w,cj]at a;exact a.elim
section
variable{X:Cx}{E:XK}{A N:jf}{M:kK}{l:Scope}{P T:Pos}{U:yx}{L:mV}{K:jd}{I:tL}{O:jy}{F:lC}{x:iS}
def abm(hc:X.calm=true)(hi:ZI X E (.Name x T) A U)(hg:∀Z V n C,PG (X.comp l ([x]++O) I Z V n C) (.Name x T)<|qL 0)(hf:∀Z V n C,tN (X.comp l ([x]++O) I Z V n C) M L)
 (he:∀Z V n C,ZE (X.comp l ([x]++O) I Z V n C) (λ_ _ _=>False) N K)
 (t:closureFor l X.env=pure I)(r:l.kind=.function)(G:qh l)(k:qP l)(qM:nH X I O F)
 (hsub:∀x c,I.lookup x=some c->X.env.cells.lookup x=some c)(hhas:∀x,((relabel l X.env).names.lookup x=some .cell\/(relabel l X.env).names.lookup x=some .free)->∃c,I.lookup x=some c)
 (rE:∀x∈O,(relabel l X.env).names.lookup x=some .cell\/(relabel l X.env).names.lookup x=some .free)
 (hs:∀x,foldedSetIterable A X.env x=pure x):u6 X E (.ListComp N [⟨.Name x T,A,M,0⟩] l P) (v7 U F L K):=by
  obtain⟨wi,pi,ri⟩:=hi;refine⟨_,Dw (Nt:=[x]) (tn:=1) (te:=Am X.K K) (tc:=xI X.K L) (g:=qL 0) hc pi hg hf (λZ V n C=>(he Z V n C).w) t r G k qM rfl hsub hhas rE hs,J2 (Nt:=[x]) (tn:=1) (te:=Am X.K K) (tc:=xI X.K L) (g:=qL 0) hc pi hg hf (λZ V n C=>(he Z V n C).w) t r G k qM rfl hsub hhas rE hs,λ{B _ _ _ σ ρ _ Q} s h=>ri s<|iU.mono (iU.split h) λ{R qE Y H1 S1} s1 x1 y1 h1 J wk=>?_⟩;intro p hp;have vy:lQ X.K (λb=>qE b/\b≠p) (kF Y S1.length p) (upd H1 p<|.lst []) p (.li []):=⟨[],j7,.nil⟩;have e0:=s1.toEZ.new hp nc vy nofun;have CA:kF Y S1.length p S1.length=some p:=by unfold kF;rw[aq rfl]
  refine⟨λi m H2=>∃f d S2,EZ X.K B f d H2 S2/\Xt qE H1 f H2/\Lx Y d/\d S1.length=some p/\iU X.K B E qE Y H1 σ ρ (sd L K (mM F ρ) S1.length (R.drop i) S2) (λz kh mm H' _=>∀v,jS X.K kh mm H' v z->Q v H')/\m=R.length - i,⟨_,_,_,_,e0,o5 hp,n6 s1.st p,CA,h1,rfl⟩,?_⟩
  rintro i m H2 ⟨f,d,S2,e2,x2,y2,n2,a,rfl⟩ _
  obtain⟨w1,w2⟩:=wk f H2 x2 e2.fresh;have BD:=Kx s1 e2 x2 y2 F;by_cases hi:i<R.length
  .right;have ed:R[i]?=some R[i]:=ax hi;obtain⟨go,yl⟩:=w1 i _ ed;refine⟨go,λv n y=>?_⟩;obtain⟨rfl,rx⟩:=yl v n y;rw[bV hi]at a;unfold sd at a;have c1:RZ X.K B f d n ((mX 1 F σ).set 0 (some v)) ((mM F ρ).set 0 (some (.d R[i]))) S2:=BD.set (by unfold mM;simp) rx;refine⟨⟨by rw[aN,wK],λj hj=>ao<|by walk_at "l"⟩,B,f,d,_,S2,c1,?_⟩;cases qc:L ((mM F ρ).set 0 (some<|.d R[i])) S2 with
   |ok b S3=>
    rw[qc]at a;intro wz xk H4 c3 x3 y3;dsimp only at a;cases b with
    |false=>rw[aA av]at a⊢;exact⟨R.length - (i+1),by grind,wz,xk,S3,c3.toEZ,x2.trans x3,y2.trans y3,y3 _ _ n2,a,rfl⟩
    |true=>
     rw[aq rfl]at a⊢;refine⟨B,wz,xk,_,S3,c3,?_⟩;cases qe:K ((mM F ρ).set 0 (some<|.d R[i])) S3 with
     |ok z S4=>
      rw[qe]at a;dsimp only at a;split at a
      .rename_i zs q4;split at a
       .rename_i hz;intro tQ C3 H5 c4 x4 y4 u ru;have n4:=y4 _ _ (y3 _ _ n2);obtain⟨ws,g1,g2⟩:=c4.cell n4 q4;have xx:Xt tQ H5 tQ (upd H5 p (.lst (ws++[u]))):=λb o _ hb eb=>⟨hb,by rw[jw λz=>c4.st.na _ p n4 (by rw[<-z];exact hb)];exact eb⟩;obtain⟨e5,x5⟩:=c4.toEZ.write n4 (o:=.lst (ws++[u])) (c:=.li (zs++[z])) nc (λq w=>by unfold lG at w;cases w) ⟨_,j7,jU.mv xx .refl (g2.append (.cons ru .nil))⟩ nofun;exact⟨ws,g1,by rw[g2.length];exact hz,R.length - (i+1),by lia,tQ,C3,_,e5,((x2.trans x3).trans x4).trans x5,(y2.trans y3).trans y4,n4,a,rfl⟩
       .exact a.elim
      .exact a.elim
     |_=>rw[qe]at a;exact a.elim
   |_=>rw[qc]at a;exact a.elim
  .left;rw[cm<|by simp_all]at a;exact⟨w2 i<|by simp_all,a f d H2 ⟨e2,s1.len,λi z e=>let⟨v,k1,k2⟩:=s1.vr i z e;⟨v,k1,k2.mv x2 y2⟩⟩ x2 y2 _ ⟨p,n2,rfl⟩⟩
def pE(n:Nat):i0 Z->i6
 |some z=>mF n z
 |none=>false
noncomputable def pN(f:jd):jd:=λρ S=>match f ρ S with
 |.ok z a=>(match z with
  |.loc n=>(match a[n]? with
   |some (.li h)=>(match lU h with
    |some d=>if S.length<=n/\a.any (j9 n)=false/\ρ.any (pE n)=false then .ok (.d<|.lst d) (a.set n .no)else .bad
    |none=>.bad)
   |_=>.bad)
  |_=>.bad)
 |.ex c ns d a=>.ex c ns d a
 |.bad=>.bad
variable{e:jf}{f:jd}
def aai{n d o}(h:pE n o=false):oK n d o=o:=by
 cases o with
 |none=>rfl
 |some z=>
  cases z with
  |loc m=>
   have a:decide (m=n)=false:=h;have:m≠n:=by simpa using a
   show(if m=n then some (Z.d d)else some (Z.loc m))=_;rw[aA this]
  |_=>rfl
def Ha{t:TE}(r:∀{B al lo H σ ρ S} {Q:VK},RZ X.K B al lo H σ ρ S->iU X.K B E al lo H σ ρ (f ρ S) (λz C k H' _=>∀v,jS X.K C k H' v z->Q v H')->t σ H Q){lo}{Q:VK}(s:RZ X.K B al lo H σ ρ S)(h:iU X.K B E al lo H σ ρ (pN f ρ S) (λz C k H' _=>∀v,jS X.K C k H' v z->Q v H')):t σ H Q:=by
 refine r s ?_;unfold pN at h;cases q:f ρ S with
 |bad=>rw[q]at h;exact h.elim
 |ex c ns y S1=>rw[q]at h;exact h
 |ok z S1=>
  rw[q]at h;intro qE lo1 H1 j x1 y1 v rv;dsimp only at h;split at h
  .rename_i n;split at h
   .rename_i zs q0;split at h
    .rename_i y qd;split at h
     .rename_i w;obtain⟨w1,w2,w3⟩:=w;obtain⟨a,hn,rfl⟩:=rv;have Yu:RZ X.K B qE lo1 H1 (σ++[some (.ref a)]) (ρ++[ba n]) S1:=⟨j.toEZ,by rw[ag,ag,j.len];rfl,λi z d=>by
       by_cases G:i<ρ.length
       · rw[aw G]at d;obtain⟨u,o,V⟩:=j.vr i z d;exact⟨u,by rw[aw (by rw[<-j.len];exact G)];exact o,V⟩
       · rw[aK<|by simp_all]at d;have e0:i - ρ.length=0:=by
          have:=(az.mp d).1;simp at this;omega
         rw[e0]at d;cases d;refine⟨.ref a,?_,a,hn,rfl⟩;rw[aK (by rw[<-j.len];simp_all),<-j.len,e0];rfl⟩
      have p:(ρ++[some<|Z.loc n])[ρ.length]?=some (ba n):=by simp
      have fz:vq B.n ρ.length (ρ++[ba n]) S1=some ((ρ++[some<|Z.loc n]).map (oK n<|.lst y),S1.set n .no):=by unfold vq;rw[p];dsimp only;rw[q0];dsimp only;rw[qd];dsimp only;rw[aq ⟨aW s.sz w1,w2⟩]
      obtain⟨Y,J,s2,x2,y2⟩:=Yu.freeze fz;have ids:∀i z,ρ[i]?=some (some z)->((ρ++[some<|Z.loc n]).map (oK n<|.lst y))[i]?=some (some z):=λi z d=>by have G:=(az.mp d).1;rw[aC,aw G,d];have:=bX.mp w3 (some z) (a9 d);show some (oK n (.lst y)<|some z)=_;rw[aai<|by simpa using this]
      have s3:RZ X.K B Y J H1 σ ρ (S1.set n .no):=⟨s2.toEZ,j.len,λi z d=>by obtain⟨u,o,V⟩:=s2.vr i z (ids i z d);have G:=(az.mp d).1;rw[aw (by rw[<-j.len];exact G)]at o;exact⟨u,o,V⟩⟩
      have R:((ρ++[some<|Z.loc n]).map (oK n<|.lst y))[ρ.length]?=some (iX y):=by rw[aC,p];show some (if n=n then some (Z.d<|.lst y)else some (Z.loc n))=_;rw[aq rfl]
      obtain⟨u,o,V⟩:=s2.vr _ _ R;rw[j.len,aK<|af _,eQ]at o;cases o;refine h Y J H1 s3 (x1.trans x2) (λm b hm=>?_) _ V;obtain⟨c,g1,_⟩:=s.st.at' m b hm;have hm2:=(az.mp g1).1;exact y2 n p m b (by lia) (y1 m b hm)
     .exact h.elim
    .exact h.elim
   .exact h.elim
  .exact h.elim
def abb(a:ZE X E e f):ZE X E e (pN f):=let⟨t,p,r⟩:=a;⟨t,p,Ha r⟩
def abn(a:u6 X E e f):u6 X E e (pN f):=let⟨t,p,u,r⟩:=a;⟨t,p,u,Ha r⟩
end
open PySem.Spec PySem.Calls PySem.W
open PyProof.Rows hiding St K
def wt(h:jb)(d:iR)(a:jZ DictEntry)(c:Nat):Prop:=∃o,h.get? d=some o/\o.ExactDict/\o.data=.dict a c
def wt.typeIs{s:i7}{d}(x:wt s.heap d es ep):s.TypeIs (.ref d) "dict":=let⟨o,a,c,_⟩:=x;⟨o,a,c.1⟩
def CV(b:i6):String:=bif b then"dict_keyiterator" else"dict_valueiterator"
def xc(b:i6)(e:DictEntry):iT:=bif b then e.key else e.val
def yb(b:i6)(h:jb)(a d:iR)(i n c:Nat):Prop:=∃o,h.get? a=some o/\o.cls=.type (CV b)/\o.data=.fields #[.ref d,.int i 0,.int n 0,.int c 0]
section
variable{B:jE}{w:jz}{A:jY}{E:j0}{s:i7}{j d:iR}{i C:Nat}{q:jZ DictEntry}
def Yb{Q:j0}(h:(d==sysModules)=false)(f:wt s.heap d q C)
 (k:Q (.ref s.heap.objs.size) {s with heap:=s.heap.push {cls:=.type "dict_keyiterator",data:=.fields #[.ref d,.int 0 0,.int q.size 0,.int C 0]}}):wpAny (model B w) A (pyIter (.ref d)) Q E s:=by obtain⟨o,c,l,a⟩:=id f;have hT:=f.typeIs;refine eR hT gX (bE gX hT PySem.F.entry_dict_iter ?_ (PySem.F.args_dict_iter_1 _));unfold Builtin.«dict.__iter__»;refine ae ?_;unfold Builtin.Dict.dictSlotNone;refine ae (fA hT ?_);refine ah ?_;show wpAny _ _ (Builtin.Dict.showsAll d>>=_) _ _ s;unfold Builtin.Dict.showsAll;rw[aA (by rw[h];exact av)];refine ae (ah ?_);refine ae (gh c a ?_);refine ae (hA c a ?_);refine ae (bc<|ah ⟨_,rfl,"dict_keyiterator",_,⟨_,aJ _ rfl,rfl⟩,PySem.F.slot_dict_keyiterator_next.lookup,?_⟩);simpa [rawInt]using k
def Km{b:i6}{Q:sE}(hit:yb b s.heap j d i q.size C)(F:wt s.heap d q C)
 (y:∀(_:i<q.size) k,yb b k j d (i+1) q.size C->Heap.SameBut j s.heap k->Q (some<|xc b q[i]) {s with heap:=k})
 (L:q.size<=i->A.handled=none/\∀k,Heap.ExtBut j s.heap k->Q none {s with heap:=k}):wpAny (model B w) A (pyNext<|.ref j) Q E s:=by
  obtain⟨o,p,u,t⟩:=id hit;obtain⟨M,l,J,r⟩:=id F;have c:s.TypeIs (.ref j) (CV b):=⟨o,p,u⟩;unfold pyNext;refine ae (fK ?_);cases b
  refine bR (name:=Str.ofString "__next__") c d5
   (bE d5 c PySem.F.entry_dict_valueiterator_next ?_ (PySem.F.args_dict_valueiterator_next_1 _))
  rotate_left
  refine bR (name:=Str.ofString "__next__") c eC
   (bE eC c PySem.F.entry_dict_keyiterator_next ?_ (PySem.F.args_dict_keyiterator_next_1 _))
  all_goals
   refine ae (ah ?_);refine ae (ae ?_);first|refine ae (dw c<|ah ?_)|refine ae (dB c<|ah ?_)
   refine ae (eS p t ?_);refine ae (ah<|ae<|gh l r ?_);rw[aA<|by simp];refine ae (ah<|ae<|hA l r ?_);rw[aA<|by simp];refine ah ?_;rcases fU i q.size with hl|hl
   .simp only[show¬((i:Int)<0)from by simp,cj,bC,aO hl];refine ae ?_
    have G (b) (u:o.cls=.type (CV b)):yb b (s.heap.update j (Obj.mapFields (·.setIfInBounds 1 (rawInt<|(i:Int)+1)))) j d (i+1) q.size C:=
     ⟨_,bf _ p<|bP<|bu t _,(dM ..).trans u,by rw[bu t];simp[rawInt]⟩
    have D:=G _ u;obtain⟨z,x,f,-⟩:=id D;first|refine ae (dw c<|ah ?_)|refine ae (dB c<|ah ?_)
    first|refine ae (wpAny_isOneOf_keyiter c ?_)|refine ae (fC c ?_)
    show wpAny _ _ (setField (.ref j) 1 (rawInt<|(i:Int)+1)>>=_) _ _ s;refine ae (bZ p t (by simp)<|ae<|bH ?_);have v (n) (h:z.cls=.type n):Shared.TypeIs {s with heap:=s.heap.update j (Obj.mapFields (·.setIfInBounds 1 (rawInt<|(i:Int)+1)))} (.ref j) n:=⟨z,x,h⟩;first|refine ae (wpAny_isOneOf_keyiter (v _ f) ?_)|refine ae (fC (v _ f)<|ae<|fC (v _ f) ?_)
    exact ah (ah ⟨_,rfl,ah<|y hl _ D<|bD ..⟩)
   .obtain⟨I,y⟩:=L hl;simp only[show¬((i:Int)<0)from by simp,cj,bC,cV hl];refine ae ?_;first|refine ae (dw c<|ah ?_)|refine ae (dB c<|ah ?_)
    show wpAny _ _ (setField (.ref j) 0 .none>>=_) _ _ s;refine ae (bZ p t (by simp)<|ae ?_);simp only[newExc,newTuple];refine ae (bc ?_ (by size_fits));refine ae (m:=firstArgMember _ _) (ig (a:=Value.none) rfl ?_);refine bc ?_ (by size_fits);simp only[raiseNew];refine ae (wpAny_handled ?_);rw[show A.in1.handled=none from I];refine ae (ah<|wpAny_throw ?_);exact ae (fH (T:="StopIteration") (b:=true) ⟨_,aJ _ rfl,rfl⟩ ik<|ah<|y _<|((bD ..).extBut.push _).push _)
def kD:Key->D
 |.inl i=>.int i
 |.inr x=>.str x
theorem z9:∀k:aa Key,ja K al H (k.map kV) (k.map kD)
 |[]=>.nil
 |.inl i::r=>.cons (.int i) (z9 r)
 |.inr x::r=>.cons (.str x) (z9 r)
theorem Lv:∀a:aa (aa Key×iR×iT),Vals (a.map λx=>V.ref x.2.1) (a.map λx=>Value.ref x.2.1)
 |[]=>.nil
 |_::r=>.cons rfl (Lv r)
variable{X:Cx}{E:XK}{e o k:jf}{L J ty:TE}{M F:Pos}
def Sm{s}(I:Inv X pins σ H s){c:oo}(h:mJ X.K H b (c.map kV)):(tupleKind (jP X.prog X.w)).is s.heap c b:=by obtain⟨a,r,⟨o,m,l,n,f⟩,_⟩:=I.tuple h;exact⟨o,a.toArray,n,m,l,f,by simpa using CM r⟩
def Jw(hu:X.A.units+1<cLine)(ho:PE X o J)(hi:PE X k ty)(hs:uO k):PE X (.Subscript o k F) (λσ H Q=>J σ H λx O=>ty σ O λy r=>∃a b f n v,x=.ref a/\y=.ref b/\Rd r a (.dT f)/\mJ X.K r b (n.map kV)/\lz f n=some v/\Q v r):=by intro c s σ H Q I h;refine K4 PySem.F.slot_dict_getitem.lookup hs (je (ho c s σ H _ I h) λu R m=>?_);obtain⟨x,O,I1,U,Y⟩:=m;refine je (hi c R σ O _ I1 Y) λZ s2 m=>?_;obtain⟨y,r,N,T,a,b,f,n,v,ex,ey,e,hb,l,V⟩:=m;subst ex ey;obtain rfl:u=Value.ref a:=U;obtain rfl:Z=Value.ref b:=T;obtain⟨z,hd,P,D,dd⟩:=sP N.hok e;refine⟨dd.typeIs,?_⟩;obtain⟨w',hw,t⟩:=mU.some_of (v:=v) (o:=(atKey P n).map (·.2)) (by rw[<-l];exact D.val n);obtain⟨p,hp,G⟩:=ay.mp hw;refine wpAny_getItem_heap (cJ hu) (Sm N hb) dd hp ?_;rw[G];exact⟨v,r,N.tok _,t,V⟩
end
def pO(fo d:jd):jd:=λρ S=>(fo ρ S).bind λz f=>(d ρ f).bind λy c=>match z,y with
 |.loc n,.d (.tup ds)=>(match lE ds,c[n]? with
  |some k,some (.dt a)=>(match valZ a k with
   |some z=>.ok z c
   |none=>.bad)
  |_,_=>.bad)
 |_,_=>.bad
def xJ(f:jd):ji:=λρ S=>toZ (f ρ S) λz a=>match z with
 |.loc n=>(match a[n]? with
  |some (.li _)=>.nx ρ (a.set n<|.li [])
  |_=>.bad)
 |_=>.bad
def Av(a b:jd):jd:=λρ S=>(a ρ S).bind λx h=>match x with
 |.d d=>(kR (tT d) h).bind λc f=>if c=true then b ρ f else .ok (.d d) f
 |_=>.bad
variable{X:Cx}{E:XK}{b:Nat}{o k e a c:jf}{rest:kK}{fo fk f fa fb:jd}{Y p1:Pos}
def aa9(hu:X.A.units+64<cLine)(M:ZE X E o fo)(O:ZE X E k fk)(L:autoParam (uO k) aZ7):ZE X E (.Subscript o k Y) (pO fo fk):=by
 obtain⟨to,G,A⟩:=M;obtain⟨tk,pk,C⟩:=O;refine⟨_,Jw (by lia) G pk L,λs h=>A s<|iU.mono (iU.split h) λx x1 y1 Q v y=>C x<|iU.mono (iU.split Q) λ{_ i l p _} m x2 r d u z=>?_⟩;split at d
 .rename_i n ds;split at d
  .rename_i J I D q;split at d
   .rename_i z0 F;obtain⟨a,N,rfl⟩:=y;obtain⟨b,vs,rfl,P,j⟩:=Rep.o4 (show Rep X.K i p u (.tup ds)from z);have U:=vC j D;subst U;obtain⟨t,T,R⟩:=m.cell (r _ _ N) q;obtain⟨w,Z,V⟩:=R.val F;exact⟨a,b,t,J,w,rfl,rfl,.inl T,P,Z,d i l p m .refl .refl w V⟩
   .exact d.elim
  .exact d.elim
 .exact d.elim
def L3{i d:Pos}(I:ZE X E o fo)
    (l:autoParam (attributeBase o "clear" X.env (eval o X.env)=eval o X.env) aZ0)(j:autoParam ((i.endLine==d.line)=true) aZ0)
    (v:autoParam (swapsWith (.Call (.Attribute o "clear" i) [] [] d) none Y.line X.env=pure false) aZ0):
    ZS X E b (.Expr (.Call (.Attribute o "clear" i) [] [] d) Y) (xJ fo):=by
 obtain⟨t,p,r⟩:=I;refine⟨_,zY (VZ du PySem.F.slot_list_clear PySem.F.type_list_clear Ub p l j) v,λN s h=>r s<|iU.mono (j2.mq h) λy M L m u F=>?_⟩;split at m
 .rename_i n;split at m
  .rename_i J G;obtain⟨a,z,rfl⟩:=F;obtain⟨x,A,O⟩:=y.cell z G;obtain⟨D,C⟩:=y.write z (o:=.lst []) (c:=.li []) nc (λq w=>by unfold lG at w;cases w) ⟨_,j7,.nil⟩ nofun;exact⟨.inl ⟨rfl,x,.inl<|.inl A⟩,a,x,rfl,rfl,A,m _ _ _ _ C D⟩
  .exact m.elim
 .exact m.elim
def VW(y:PE X a ta)(w:PE X (.BoolOp .And (c::rest) Y) tb):PE X (.BoolOp .And (a::c::rest) Y) (λσ H Q=>ta σ H λx j=>∃k,wx X.K x j k/\if k=true then tb σ j Q else Q x j):=by
 intro d s σ H Q I h;refine BoolOp_and (je (y d s σ H _ I h) λv r i=>?_);obtain⟨x,j,C,m,t⟩:=i;obtain⟨k,u,q⟩:=t;refine je (El d r σ j x v (λc l=>c=k/\l=j) C m ⟨k,u,rfl,rfl⟩) λc p i=>?_;obtain⟨l,n,A,z⟩:=i;subst A z;cases c with
 |false=>exact⟨x,l,n,m,by simpa using q⟩
 |true=>exact w d p σ l Q n (by simpa using q)
def aa2(y:ZE X E a fa)(x:ZE X E (.BoolOp .And (c::rest) Y) fb):ZE X E (.BoolOp .And (a::c::rest) Y) (Av fa fb):=by
 obtain⟨F,u,r⟩:=y;obtain⟨D,t,p⟩:=x;refine⟨_,VW u t,λs h=>r s<|iU.mono (iU.split h) λ{_ m j z _} i C A l v n=>?_⟩;split at l
 .rename_i d;obtain⟨k,w,q⟩:=xD n (iU.toAft i<|iU.split l);refine⟨k,w,?_⟩;cases k with
  |false=>rw[aA<|by simp]at q⊢;exact q m j z i .refl .refl v n
  |true=>rw[aq rfl]at q⊢;exact p i q
 .exact l.elim
def LY(i:ZE X E a fa):ZE X E (.BoolOp op [a] Y) fa:=let⟨t,p,r⟩:=i;⟨t,λd s σ H Q I h=>BoolOp_one<|p d s σ H Q I h,r⟩
end P2
namespace P2
open PySem
def mz(a:nJ):Prop:=a.toList.Pairwise (· < ·)
def mz.lt(h:mz xs)(a:i<j)(c:j<xs.size):xs[i]<xs[j]:=by have:=f9.mp h i j (by simpa using eM a c) (by simpa using c) a;simpa using this
theorem Bs(xs j)(h:mz xs):∀a lo c,lo<=c->c<=xs.size->c - lo<=a->(∀i,(d:i<xs.size)->i<lo->xs[i]<j)->(∀i,(d:i<xs.size)->c<=i->j<=xs[i])->
 SetTable.below.go xs j a lo c<=xs.size/\(∀i,(d:i<xs.size)->i<SetTable.below.go xs j a lo c->xs[i]<j)/\∀i,(d:i<xs.size)->SetTable.below.go xs j a lo c<=i->j<=xs[i]
 |0,lo,c,s,m,r,l,k=>by
  have e:lo=c:=by grind
  subst e;show lo<=xs.size/\_;exact⟨m,l,k⟩
 |a+1,lo,c,s,m,r,l,k=>by
  unfold SetTable.below.go;by_cases o:lo<c
  .rw[aq o];have n:(lo+c)/2<xs.size:=by lia
   have t:xs.getD ((lo+c)/2) j=xs[(lo+c)/2]:=by simp[Array.getD,n]
   dsimp only;rw[t];by_cases f:xs[(lo+c)/2]<j
   .rw[aq f];refine Bs xs j h a _ c (by lia) m (by omega) (λi d p=>?_) k;by_cases e:i=(lo+c)/2;.subst e;exact f
    .exact eM (h.lt (show i<(lo+c)/2 by lia) n) f
   .rw[aA f];refine Bs xs j h a lo _ (by lia) (by walk_at "l") (by omega) l λi d q=>?_;by_cases e:i=(lo+c)/2;.subst e;simp_all
    .have:=h.lt (show(lo+c)/2<i by lia) d
     lia
  .rw[aA o];have e:lo=c:=by lia
   subst e;exact⟨m,l,k⟩
def yJ(h:mz xs)(j):SetTable.below xs j<=xs.size/\(∀i,(a:i<xs.size)->i<SetTable.below xs j->xs[i]<j)/\∀i,(a:i<xs.size)->SetTable.below xs j<=i->j<=xs[i]:=
 Bs xs j h xs.size 0 xs.size (bI _) (af _) (af _) (λi _ h=>absurd h<|cS _) λi a h=>absurd a (gY.mpr h)
def ME(h:mz xs)(c:i<xs.size):SetTable.below xs (xs[i]+1)=i+1:=by
 obtain⟨l,f,d⟩:=yJ h (xs[i]+1);generalize SetTable.below xs (xs[i]+1)=b at*;rcases eU b (i+1)with q|q|q;.have:=d i c (by walk_at "l");lia
 .exact q
 .have a:i+1<xs.size:=by walk_at "l"
  have k:=f (i+1) a q;have j:xs[i]<xs[i+1]:=h.lt (show i<i+1 by simp) a
  lia
def MF(h:mz xs):SetTable.below xs 0=0:=by
 obtain⟨d,a,c⟩:=yJ h 0;generalize SetTable.below xs 0=b at*;cases b with
 |zero=>rfl
 |succ b=>exact absurd (a 0 (by lia)<|by simp) (cS _)
def Kr(h:mz xs)(p:xs[SetTable.below xs j]?≠some j):mz (SetTable.insertAt xs (SetTable.below xs j) j):=by
 obtain⟨u,s,r⟩:=yJ h j;generalize t:SetTable.below xs j=b at*;have f:∀i,(c:i<xs.size)->b<=i->j<xs[i]:=λi c n=>by
  rcases fU j xs[i]with q|q;.exact q
  .have v:=r b (by walk_at "l") (af _);have:xs[b]<=xs[i]:=by
    by_cases e:b=i;.subst e;exact af _
    .exact dD (h.lt (show b<i by lia) c)
   exact absurd (by rw[aO<|show b<xs.size by walk_at "l"];exact bG some (by lia)) p
 unfold mz;have e:(SetTable.insertAt xs b j).toList=xs.toList.take b++j::xs.toList.drop b:=by unfold SetTable.insertAt;simp[il];exact eV (by rw[cY,aF];exact af _)
 rw[e];refine ip.mpr ⟨fD (List.take_sublist _ _) h,dG.mpr ⟨λy a=>?_,fD (List.drop_sublist _ _) h⟩,λx m y a=>?_⟩
 .obtain⟨i,d,rfl⟩:=bL a;rw[List.getElem_drop];rw[cY,aF]at d;simpa using f (b+i) (by lia) (by simp)
 .obtain⟨i,d,rfl⟩:=bL m;rw[cX,aF]at d;have l:=s i (by lia) (by simp_all);rw[List.getElem_take];rcases aI.mp a with rfl|a;.simpa using l
  .obtain⟨k,o,rfl⟩:=bL a;rw[List.getElem_drop];rw[cY,aF]at o;have:=f (b+k) (by lia) (by simp);have q:xs[i]<xs[b+k]:=by lia
   simpa using q
structure oj(bt:i6)(t:lr):Prop where
 led:t.led=!bt
 ql:t.plain=true->mz t.place
 pw:t.plain=true->t.dummies=#[]
def aaj(bt):oj bt (.fresh 0 0<|!bt):=⟨rfl,λ_=>by unfold mz;exact .nil,λ_=>rfl⟩
def Ah{a t}(h:oj a t)(n):oj a (t.standIn n):=⟨h.led,λw=>(by cases w),λw=>(by cases w)⟩
def aal{a t}(h:oj a t)(n):oj a (t.orStandIn n):=by
 unfold SetTable.orStandIn;split;.exact h
 .exact Ah h n
theorem JR{t:lr}(k:t.dummies=#[]){h:Int}:∀a (p:SetTable.Probe) j d,p.dummy=none->SetTable.probe.go t f h a p=some (.empty j d)->d=none/\t.slot j=.empty
 |0,p,j,d,_,e=>by cases e
 |a+1,p,j,d,c,e=>by
  unfold SetTable.probe.go at e;cases q:t.slot p.j with
  |empty=>rw[q]at e;cases e;exact⟨c,q⟩
  |dummy=>
   exfalso;unfold SetTable.slot at q;dsimp only at q;split at q;.cases q
   .rw[k]at q;have:SetTable.has #[] p.j=false:=rfl;rw[this]at q;cases q
  |live i=>
   rw[q]at e;dsimp only at e;split at e;.cases e
   .refine JR k a (t.advance p) j d ?_ e;unfold SetTable.advance;split<;>exact c
def aak{l t}(h:oj l t)(es)(k:Int)(x):oj l (layNew t es k x).2.1:=by
 unfold layNew;cases e:t.freeSlot k with
 |none=>exact Ah h _
 |some r=>
  obtain⟨a,wd⟩:=r;dsimp only;refine aal (t:=(t.put a).1) ⟨h.led,λw=>?_,λw=>?_⟩ _
  .have f:=h.pw w;unfold SetTable.freeSlot at e;split at e
   .rename_i j d q;obtain⟨rfl,c⟩:=JR f _ _ _ _ rfl q;cases e;refine Kr (h.ql w) λi=>?_;unfold SetTable.slot at c;dsimp only at c;rw[show(none:i0 Nat).getD j=j from rfl]at i;rw[i]at c;simp at c
   .cases e
  .show(if SetTable.has t.dummies a then SetTable.eraseAt t.dummies (SetTable.below t.dummies a)else t.dummies)=#[];have f:=h.pw w;rw[f];rfl
def aam{i t}(h:oj i t)(es n):oj i (relayAll t es n).2.1:=by
 unfold relayAll;cases e:t.relaid (es.map (·.1)) n with
 |none=>exact Ah h _
 |some r=>
  obtain⟨p,d⟩:=r;dsimp only;split
  .unfold SetTable.relaid SetTable.laid at e;cases q:SetTable.layClean (SetTable.sizeAbove n - 1) (es.map (·.1))with
   |none=>rw[q]at e;cases e
   |some c=>
    rw[q]at e;cases e;refine⟨h.led,λ_=>?_,λ_=>rfl⟩;unfold mz;show((List.map _<|List.filterMap _<|List.range _).toArray).toList.Pairwise _;rw[fS,List.map_filterMap];have sub:∀(l:lC) (g:Nat->i0 Nat),(∀j k,g j=some k->k=j)->(l.filterMap g).Sublist l:=λl g m=>by
     induction l with
     |nil=>exact .slnil
     |cons a l f=>
      rw[dY];cases q:g a with
      |none=>exact f.cons _
      |some k=>rw[m a k q];exact f.cons₂ _
    refine fD (sub _ _ λj k w=>?_) eX;cases z:c.getD j none with
    |none=>rw[z]at w;cases w
    |some o=>rw[z]at w;cases w;rfl
  .exact Ah h _
open L2 PySem.Spec PySem.Calls PySem.W
open PyProof.Rows hiding St K
def vK:iT->Key
 |.int i _=>.inl i
 |.str x _=>.inr x
 |_=>.inl 0
def sv(v:iT):Prop:=RelV (kV<|vK v) v
def Al{k}(h:RelV (kV k) v):vK v=k:=by
 cases k with
 |inl i=>obtain⟨t,rfl⟩:=(show∃t,v=Value.int i t from h);rfl
 |inr x=>obtain⟨t,rfl⟩:=(show∃t,v=Value.str x t from h);rfl
def OZ{k}(h:RelV (kV k) v):sv v:=by unfold sv;rw[Al h];exact h
def D4{k}(h:RelV (kV k) v):v.scannable=true:=by
 cases k with
 |inl i=>obtain⟨t,rfl⟩:=(show∃t,v=Value.int i t from h);rfl
 |inr x=>obtain⟨t,rfl⟩:=(show∃t,v=Value.str x t from h);rfl
abbrev _root_.uX:=aa (Int×iT)
def x8(P:jE)(w:jz)(a:uX):Prop:=∀e∈a,sv e.2/\e.1=(jP P w).hash (vK e.2)
def x8.elems{w}(h:x8 P w es):ElemsOf (jP P w) es:=λe a=>⟨⟨vK e.2,oE (h e a).1,(h e a).2⟩,D4 (h e a).1⟩
def qf(a:uX):aa Key:=a.map λe=>vK e.2
def pj(P:jE)(w:jz)(h:jb)(a:iR)(d:oo)(n:Nat):Prop:=
 ∃o c f t,h.get? a=some o/\o.ExactSet/\o.data=.set c f t/\x8 P w c.toList/\c.size<=n/\t.fits c.size=true/\oj (w.params.followText "set-order") t/\(qf c.toList).Nodup/\∀k,k∈qf c.toList↔k∈d
def pj.keep{w}{c:jb}{n}(x:pj P w h a ks n)(k:∀o,h.get? a=some o->c.get? a=some o):pj P w c a ks n:=let⟨o,f,i,t,d,r⟩:=x;⟨o,f,i,t,k o d,r⟩
section
variable{c:jE}{w:jz}{A:jY}{E:j0}{s:i7}
abbrev _root_.sF:=i6->i7->Prop
def Mr{n k}{Q:sF}(hx:RelV (kV k) x)(hS:pj c w s.heap a ks n)(hroom:n+1<scanBound)
 (h:∀b G,Heap.SameBut a s.heap G->pj c w G a (k::ks) (n+1)->Q b {s with heap:=G}):
   wpAny (model c w) A (setAddHashed a x<|(jP c w).hash k) Q E s:=by
  obtain⟨o,v,ep,t,ho,Y,hd,p,hn,hf,tok,uu,D⟩:=hS;have Hv:=p.elems;have Cu:(jP c w).is k x=true:=oE hx;have Hx:=D4 hx;have hb:v.size<scanBound:=by lia
  unfold setAddHashed setAddHashedIn;refine bH (ae<|bO ho hd hf ?_);dsimp only;rw[byScan_of Hx hb Hv];simp only[↓reduceIte];unfold setAddByScan;refine ae ?_;refine ae (gS ?_);refine ae (wpAny_setScan_of Cu ho hd hf Hv ?_);cases hr:List.findIdx? (λe=>(jP c w).is k e.2) v.toList with
  |some j=>
   dsimp only;obtain⟨hj,Q5,_⟩:=List.findIdx?_eq_some_iff_getElem.mp hr;refine ah (ah ?_);have e:s={s with heap:=s.heap}:=by cases s;rfl
   have hin:k∈qf v.toList:=by have R:=(p v.toList[j] (bU hj)).1;have h2:=(jP c w).inj _ _ _ Q5 (oE R);rw[h2];exact aH.mpr ⟨_,bU hj,rfl⟩
   have:=h false s.heap (Heap.SameBut.refl a s.heap) ⟨o,v,ep,t,ho,Y,hd,p,by walk_at "l",hf,tok,uu,λN=>by rw[D N,aI];exact⟨.inr,λz=>z.elim (λz=>by rw[z];exact(D k).mp hin) id⟩⟩
   rw[e];exact this
  |none=>
   dsimp only;have hnot:k∉qf v.toList:=λhk=>by obtain⟨e,F,ek⟩:=aH.mp hk;have:=List.findIdx?_eq_none_iff.mp hr e F;have R:=oE (P:=c) (w:=w) (p e F).1;rw[ek]at R;rw[R]at this;exact Bool.noConfusion this
   have hgw:∀(b:i6) {C:i7} {Q':uZ},Q' () C->wpAny (model c w) A (match b with|true=>rule "set.scan.the-table-gave-way"|false=>pure ()) Q' E C:=
    λb C Q' hq=>by cases b<;>first|exact ah hq|exact gS hq
   have f:=layNew_perm t v ((jP c w).hash k) x;have i:=layNew_fits t v ((jP c w).hash k) x;have m:=aak tok v ((jP c w).hash k) x;generalize hL:layNew t v ((jP c w).hash k) x=L at f i m⊢;obtain⟨d,t1,u,ab8⟩:=L;dsimp only at f i m⊢;rw[Array.toList_push]at f;have GG:x8 c w d.toList:=λe F=>by
    rcases aY.mp (f.mem_iff.mp F)with F|F;.exact p e F
    .rw[aQ]at F;subst F;exact⟨OZ hx,by rw[Al hx]⟩
   have kp:(qf d.toList).Perm (qf v.toList++[k]):=by have:=f.map λe=>vK e.2;rw[bj]at this;rw[show[k]=List.map (λe=>vK e.2) [((jP c w).hash k,x)]from by rw[aD,dg,Al hx]];exact this
   have J:(qf d.toList).Nodup:=kp.nodup_iff.mpr (eY.mpr ⟨uu,by simp,λy hy z hz w=>hnot<|by rw[aQ]at hz;rw[<-hz,<-w];exact hy⟩);have M:∀N,N∈qf d.toList↔N∈k::ks:=λN=>by rw[kp.mem_iff,aY,aQ,aI,D N];exact or_comm
   have ack:d.size=v.size+1:=by rw[<-aF,f.length_eq,ag,aF];rfl
   have zo:d.size<scanBound:=by lia
   refine ae (hgw _ ?_)
   have I:∀(l:lr),l.fits d.size=true->oj (w.params.followText "set-order") l->wpAny (model c w) A (do
    storeSet a d l
    if(!u&&l.tooFull)=true then do
       (match(relayAll l d<|SetTable.grown d.size).2.2 with|true=>rule "set.scan.the-table-gave-way"|false=>pure ())
       storeSet a (relayAll l d<|SetTable.grown d.size).1 (relayAll l d<|SetTable.grown d.size).2.1
       pure (some true)
     else pure (some true)) (λr s'=>∃G,s'={s with heap:=G}/\r=some true/\Heap.SameBut a s.heap G/\pj c w G a (k::ks) (n+1)) E s:=λl Qs Ej=>by
    refine ae (eZ ho hd ?_ (fits_of_scanBound zo));have U:(s.heap.update a<|Obj.putSet d l).get? a=some {o with data:=.set d (ep+1) l}:=by have:=bf (Obj.putSet d l) ho (by rw[fI d l hd];rfl);rw[fI d l hd]at this;exact this
    have O:=bD s.heap a (Obj.putSet d l);split
    .have hp:=relayAll_perm l d (SetTable.grown d.size);have V:=relayAll_fits l d (SetTable.grown d.size);have T:=aam Ej d (SetTable.grown d.size);generalize PN:relayAll l d (SetTable.grown d.size)=Rl at hp V T⊢;obtain⟨q,Z,ab9⟩:=Rl;dsimp only at hp V T⊢;have hsz:q.size=d.size:=by rw[<-aF,hp.length_eq,aF]
     refine ae (hgw _ ?_);refine ae (eZ U rfl ?_ (fits_of_scanBound<|by rw[hsz];exact zo));have CB:((s.heap.update a<|Obj.putSet d l).update a (Obj.putSet q Z)).get? a=some {o with data:=.set q (ep+1+1) Z}:=by have:=bf (Obj.putSet q Z) U (by rw[fI q Z rfl];rfl);rw[fI q Z rfl]at this;exact this
     exact ah ⟨_,rfl,rfl,O.trans<|bD _ a _,_,q,_,Z,CB,Y,rfl,λe F=>GG e<|hp.mem_iff.mp F,by simp_all,V,T,(hp.map λe:Int×iT=>vK e.2).nodup_iff.mpr J,λN=>by rw[<-M N];exact(hp.map λe:Int×iT=>vK e.2).mem_iff⟩
    .exact ah ⟨_,rfl,rfl,O,_,d,_,l,U,Y,rfl,GG,by simp_all,Qs,Ej,J,M⟩
   split
   .refine ae ?_;rw[hashByValue_scannable 8 Hx];refine ah ?_;refine br (I _ ?_ ?_) (λr s' hr=>?_) λ_ _ z=>z
    .split;.exact i
     .exact SetTable.fits_plain_off i
    .split;.exact m
     .exact⟨m.led,λz=>(by cases z),λz=>(by cases z)⟩
    .obtain⟨G,rfl,rfl,R,h2⟩:=hr;exact ah (h true G R h2)
   .refine ae (ah ?_);simp only[↓reduceIte];refine br (I _ i m) (λr s' hr=>?_) λ_ _ z=>z;obtain⟨G,rfl,rfl,R,h2⟩:=hr;exact ah (h true G R h2)
end
section
variable{y:jE}{w:jz}{A:jY}{R:uY}{I:iR}{L K:nW}{G:jZ GenState->jZ GenState->Prop}{n:Nat}{P:Nat->iT->Prop}{St:u0}
def KI(W:WalksS y w A.in1 I L K G n P St)(S:iR)(D:S∉L){J:u0}(mv:∀i s a,St i s->Moved K G s a->J i s->J i a)
    (step:∀i v s (Q:sF) E,i<n->P i v->J i s->(∀r x tk,s.toks<=tk->Heap.SameBut S s.heap x->J (i+1) {s with heap:=x,toks:=tk}->Q r {s with heap:=x,toks:=tk})->wpAny (model y w) A.in1 (setAdd S v) Q E s):
    ∀(k i:Nat) (s:i7),n - i=k->i<=n->St i s->J i s->(∀a,Moved (S::K) G s a->J n a->R (.ok<|.ret .none) a)->codeAny (model y w) A (.builtin "set.update.loop" ⟨[.ref S,.ref I],[]⟩) R s:=by
 have f:∀b∈K,b∈S::K:=λb t=>bo _ t;intro k;induction k with
 |zero=>
  intro i s T U c N F;have C:i=n:=by grind
  subst C;refine cq d8 ?_;rw[cb cU _];show wpAny _ A.in1 (pyNext (.ref I)>>=_) _ _ s;refine ae (W.done s _ _ c λa d=>?_);show wpAny _ A.in1 (ret Value.none) _ _ a;exact ah (F a (d.mono f)<|mv _ _ _ c d N)
 |succ k O=>
  intro i s T U c N F;have j:i<n:=by omega
  refine cq d8 ?_;rw[cb cU _];show wpAny _ A.in1 (pyNext (.ref I)>>=_) _ _ s;refine ae (W.item i s _ _ j c λv a V m d=>?_);show wpAny _ A.in1 (holding [v] (setAdd S v)>>=_) _ _ a;refine ae (bH<|step i v a _ _ j V (mv _ _ _ c d N) λr x tk l p M=>?_);refine ah ⟨ee cU _,O (i+1) _ (by grind) j (W.frame _ a _ _ m l λb t o e=>?_) M λz q u=>?_⟩;.rw[p.2 b (λh:b=S=>D<|by rw[<-h];exact t)];exact e
  .refine F z (Moved.trans W.gtrans ((d.mono f).then_heap l λb o t e=>?_) q) u;rw[p.2 b (λh:b=S=>t<|by rw[h];exact bT)];exact e
def IV{a:Type}{val:Nat->a}{i:Nat}{c:aa a}(d:∀x,x∈c↔x∈(List.range i).map val)(x:a):x∈val i::c↔x∈(List.range<|i+1).map val:=by rw[List.range_succ,bj,aY,aI,d x];show x=val i\/_↔_\/x∈[val i];rw[aQ];exact or_comm
def YK(W:WalksS y w A.in1 I L K G n P St)(S:iR)(j:S∉L)
    (val:Nat->Key)(f:∀i v,P i v->RelV (kV<|val i) v)(T:n+1<scanBound)(s:i7)(l:St 0 s)(r:pj y w s.heap S [] 0)
      (F:∀c d,Moved (S::K) G s c->pj y w c.heap S d n->(∀x,x∈d↔x∈(List.range n).map val)->R (.ok<|.ret .none) c):
      codeAny (model y w) A (.builtin "set.update.loop" ⟨[.ref S,.ref I],[]⟩) R s:=by
 refine KI W S j (J:=λi s=>∃a,pj y w s.heap S a i/\∀x,x∈a↔x∈(List.range i).map val) (λi s c _ p ⟨a,u,t⟩=>⟨a,u.keep λo e=>p.heap S _ (λh=>j<|W.sub _ h) e,t⟩) (λi v s Q E D N ⟨a,r,C⟩ M=>?_) n 0 s rfl (bI _) l ⟨[],r,λx=>by simp⟩ λc u ⟨a,t,O⟩=>F c a u t O;have z:=f i v N;unfold setAdd;refine bH ?_;refine ae ((jP y w).pyHash (k:=val i) (oE z) ?_);exact Mr (s:={s with toks:=s.toks+1}) z r (by lia) λb U m q=>M _ _ _ (cN _) m ⟨_,q,IV C⟩
variable{E:j0}{s:i7}
abbrev oV(w:jz):lj:={cls:=.type "set",dict:=none,data:=.set #[] 0 (.fresh 0 0<|!(w.params.followText "set-order"))}
def Nj(a){Q₁:j0}(h:Q₁ (.ref s.heap.objs.size) {s with heap:=s.heap.push<|oV w}):
    codeAny (model y w) A (.call (.builtin "set.__new__") ⟨[.type "set",a],[]⟩) (wants Q₁ E) s:=by
 refine codeAny_of_tree ?_;show wpAny _ A.in1 (do checkBuiltinCall "set.__new__" ⟨[.type "set",a],[]⟩;again (.builtin "set.__new__" ⟨[.type "set",a],[]⟩)) _ _ s;refine ae (ig (PySem.F.newCall_set_1 a)<|ah ⟨ee hK _,cq PySem.F.entry_set_new ?_⟩);rw[cb hK _];unfold Builtin.«set.__new__» Builtin.Frozenset.newClass;have c:=sub_set_self;obtain⟨i,g,d,tk,f⟩:=s;dsimp only
 wp_walk
 refine gJ (ah ?_);dsimp only;simp only[newObj];refine ae (wpAny_alloc<|ah ?_);exact ah h
def YF{h:jb}(e:h.get? a=some (oV w)):pj y w h a [] 0:=
 ⟨_,#[],0,_,e,⟨rfl,rfl,rfl⟩,rfl,λe c=>by simp at c,af _,by rfl,aaj _,by unfold qf;exact .nil,λk=>by unfold qf;simp⟩
def FW{F:jb->Prop}{Q:j0}(hh:A.handled=none)(hl:s.heap.IsList l items)
 (t:∀{I} {L K} {G} {St} {R:uY} {z},WalksS y w A.in1.in1.in1 I L K G items.size (λi v=>items[i]?=some v) St->s.heap.objs.size∉L->St 0 z->z.heap.get? s.heap.objs.size=some (oV w)->
 (∀b o,s.heap.get? b=some o->z.heap.get? b=some o)->(∀b∈K,s.heap.objs.size<b)->(∀i s,St i s->∀b∈K,∀o M m,s.heap.get? b=some o->o.data=.seq M m->o.cls=.type "tuple"->False)->(∀C,Moved (s.heap.objs.size::K) G z C->F C.heap->R (.ok<|.ret .none) C)->
 codeAny (model y w) A.in1.in1 (.builtin "set.update.loop" ⟨[.ref s.heap.objs.size,.ref I],[]⟩) R z)
 (h:∀d tk,F d->(∀b o,b<s.heap.objs.size->s.heap.get? b=some o->d.get? b=some o)->Q (.ref s.heap.objs.size) {s with heap:=d,toks:=tk}):
   wpAny (model y w) A (call (.type "set") [.ref l]) Q E s:=by
  obtain⟨c,tl,acg⟩:=PySem.F.called_set.mro;have ace:=PySem.F.called_set.made;have hsub:=PySem.F.called_set.sub;refine wpAny_call (codeAny_of_tree ?_);show wpAny _ _ (callAny (.type "set") _) _ _ _;refine ah ⟨Code.quiet_builtin _<|by decide+kernel,cq PySem.F.entry_type_call ?_⟩;rw[Around.under_plain (weight_type_call_type "set" [.ref l] []) rfl];have h1:=PySem.F.called_set.notType;have h2:=PySem.F.called_set.canCreate;have hct:=PySem.F.typeCall_set_1 (.ref l);repeat(any_goals(first|assumption|wp_step))
  refine eI (Nj (.ref l) (E:=E) (Q₁:=λJ k=>J=.ref s.heap.objs.size/\k={s with heap:=s.heap.push<|oV w}) ⟨rfl,rfl⟩) λr k hr=>?_;cases r with
  |error e=>exact hr
  |ok fl=>
   cases fl with
   |ret J=>
    obtain⟨rfl,rfl⟩:=hr;have hS:(s.heap.push<|oV w).get? s.heap.objs.size=some (oV w):=aJ _ rfl;have hT:Shared.TypeIs {s with heap:=s.heap.push<|oV w} (.ref s.heap.objs.size) "set":=⟨_,hS,rfl⟩;have hli:=PySem.F.called_set.init.lookup;have hbi:=PySem.F.called_set.init.bind (.ref s.heap.objs.size);repeat(any_goals(first|assumption|wp_step))
    refine eI (fL (R:=wants (λr j=>r=.none/\∃d tk,j={s with heap:=d,toks:=tk}/\F d/\
     (∀b o,b<s.heap.objs.size->s.heap.get? b=some o->d.get? b=some o)) E) PySem.F.called_set.init.plain PySem.F.entry_set_init (check_set_init_1 hT ?_)) λD j a=>?_
    .obtain⟨ol,O,vy,nl,Z⟩:=hl;obtain⟨acn,q,aco,f⟩:=ol;simp only at vy Z;subst vy;subst Z;have N:(s.heap.push<|oV w).get? l=some {cls:=.type "list",dict:=q,data:=.seq items nl,slots:=f}:=ai _ O;have acj:=PySem.F.sub_list_set;have aci:=PySem.F.sub_list_frozenset;have hne:(Value.type "list"==Value.type "dict")=false:=by decide
     have Y:(s.heap.push<|oV w).IsList l items:=⟨_,N,rfl,nl,rfl⟩;unfold Builtin.«set.__init__» noKeywords Builtin.Frozenset.updateFrom;generalize PM:pyIter=PI
     wp_walk
     subst PM;refine gf Y ?_;refine ae (wpAny_runValue ?_);have V:l<s.heap.objs.size:=aM O;have Ct:A.in1.in1.in1.handled=none:=by simp[hh]
     have U:l≠(s.heap.push<|oV w).objs.size:=by rw[cg];exact aV (bQ V)
     have hSf:s.heap.objs.size∉[(s.heap.push<|oV w).objs.size,l]:=by rw[cg];simp only[aI,aQ,cH,fZ,not_or];exact⟨aV<|bB _,dE V⟩
     refine t ((Walks.list Ct _ l U items).toS) hSf ⟨⟨_,aJ _ rfl,rfl,rfl⟩,(Y.push _)⟩ (ai _ hS) (λb o e=>ai _<|ai _ e) (λb p=>?hw) ?hnt ?hR;case hw=>rw[aQ]at p;rw[p,cg];exact bB _
     case hnt=>intro i s3 Rb b p o M m ho hd hc;rw[aQ]at p;subst p;obtain⟨⟨o',T,Ht,_⟩,_⟩:=Rb;rw[ho]at T;cases T;rw[hc]at Ht;exact absurd Ht (by simp)
     case hR=>
      intro C hm u;obtain⟨d,g',d',Ei,Ds⟩:=C;have eg:g'=s.gens:=hm.gens;have ed:d'=s.drawn:=hm.drawn;have eo:Ds=s.os:=hm.os;subst eg;subst ed;subst eo;show wpAny _ _ _ _ _ _;refine ah ?_;show wpAny _ _ (ret Value.none) _ _ _;refine ah ⟨rfl,d,Ei,rfl,u,λb o p e=>?_⟩
      .have zo:b≠s.heap.objs.size:=aV p;have Qo:b≠(s.heap.push<|oV w).objs.size:=by
        rw[cg];exact aV (bQ p)
       exact hm.heap b o (by simp only[aI,aQ,cH,fZ,not_or];exact⟨zo,Qo⟩) (ai _<|ai _ e)
    .cases D with
     |error e=>exact a
     |ok x=>
      cases x with
      |ret r=>
       obtain⟨rfl,d,tk,rfl,u,QB⟩:=a;repeat(any_goals(first|assumption|wp_step))
       exact h _ _ u QB
      |_=>exact a.elim
   |_=>exact hr.elim
def MX{ks:oo}{Q:j0}(D:A.handled=none)(C:s.heap.IsList l items)(q:Vals (ks.map kV) items.toList)(J:items.size+1<scanBound)
 (h:∀d tk a,pj y w d s.heap.objs.size a items.size->(∀x,x∈a↔x∈ks)->
 (∀b o,b<s.heap.objs.size->s.heap.get? b=some o->d.get? b=some o)->Q (.ref s.heap.objs.size) {s with heap:=d,toks:=tk}):
   wpAny (model y w) A (call (.type "set") [.ref l]) Q E s:=by
  have c:items.size=ks.length:=by have:=q.length;rw[aj,aF]at this;exact this.symm
  refine FW (F:=λd=>∃a,pj y w d s.heap.objs.size a items.size/\∀x,x∈a↔x∈ks) D C (λW j st T _ _ _ M=>?_) λd tk ⟨a,m,k⟩ N=>h d tk a m k N;refine YK W _ j (λi=>ks.getD i<|.inl 0) (λi v hv=>?_) J _ st (YF T) λr a z m k=>M r z ⟨a,m,λx=>by rw[k x,c,Cc ks<|.inl 0]⟩;have f:i<ks.length:=by rw[<-c];exact(bw.mp hv).1
  have O:(ks.map kV)[i]?=some (kV<|ks.getD i<|.inl 0):=by rw[aC,ax f,bN,ax f];rfl
  obtain⟨u,p,t⟩:=q.get O;rw[bg,hv]at p;cases p;exact t
def qo:Slot "set_iterator" "__next__" "set_iterator.__next__":=
 .of (owner:="set_iterator") (n:="__next__") (by rw[hD,fE];kernel_rfl) (by decide+kernel) (by decide+kernel) (by decide+kernel)
  (by first|exact .inl (by decide+kernel)|exact .inr (by decide+kernel)) (by rw[iq];kernel_rfl)
def yR:entryFor table "set_iterator.__next__"=some Builtin.«set_iterator.__next__»:=entryFor_of_tree (by kernel_rfl)
def yG(a):argsOk "set_iterator.__next__" ⟨[a],[]⟩:=by rfl
def OJ:entryFor table "set.__iter__"=some Builtin.«frozenset.__iter__»:=
 entryFor_alias (id':="frozenset.__iter__") (by kernel_rfl) rfl (by decide+kernel) (by kernel_rfl)
theorem DC{a:Type}:∀(l:aa a) i (h:i<l.length),(l[i]::l.eraseIdx i).Perm l
 |x::l,0,_=>.refl _
 |x::l,i+1,h=>by
  have c:i<l.length:=by simpa using h
  show(l[i]::x::l.eraseIdx i).Perm (x::l);exact(List.Perm.swap _ _ _).trans (List.Perm.cons x<|DC l i c)
def Ao{Q:sF}(h:Q (w.params.followText "set-order") s):wpAny (model y w) A setsByText Q E s:=by unfold setsByText;exact ae (gJ<|ah h)
def wp_choose{n}{Q:u0}(a:n≠0)(h:∀i d,i<n->Q i {s with drawn:=d}):wpAny (model y w) A (choose src n) Q E s:=λf p c=>by show Sem.wp _ _ (.choose src n .pure) _ _ _ _;rw[Sem.wp_choose];refine⟨a,?_⟩;exact h _ _ (eD _<|Nat.pos_of_ne_zero a)
theorem LG{j:Type}:∀n (xs:aa j) {s:i7} {Q:aa j->i7->Prop},xs.length=n->(∀c d,c.Perm xs->Q c {s with drawn:=d})->wpAny (model y w) A (drawOrder n xs) Q E s
 |0,xs,s,Q,a,h=>by have e:xs=[]:=gK.mp a;subst e;unfold drawOrder;exact ah (h [] s.drawn<|.refl _)
 |n+1,[],s,Q,a,h=>by simp at a
 |n+1,x::xs,s,Q,a,h=>by unfold drawOrder;refine ae (wp_choose (by simp) λi d f=>?_);rw[ax f];dsimp only;refine ae (LG n ((x::xs).eraseIdx i) (by rw[ir,aq f];simp_all) λc d2 k=>ah ?_);refine h _ d2 ?_;exact(List.Perm.cons _ k).trans (DC (x::xs) i f)
def mT(h:jb)(c:iR)(first:iT)(i:Nat)(a:iR)(n d:Nat):Prop:=∃o,h.get? c=some o/\o.cls=.type "set_iterator"/\o.data=.fields #[first,.int i 0,.ref a,.int n 0,.int d 0]
abbrev _root_.rj:=jZ (Int×iT)
def nA(h:jb)(a:iR)(c:rj)(d:Nat)(t:lr):Prop:=∃o,h.get? a=some o/\o.ExactSet/\o.data=.set c d t/\t.fits c.size=true
def nA.at'{h':jb}{t}(x:nA h a es ep t)(k:∀o,h.get? a=some o->h'.get? a=some o):nA h' a es ep t:=let⟨o,c,r⟩:=x;⟨o,k o c,r⟩
def mT.at'{h':jb}{n}(x:mT h it first i a n ep)(k:∀o,h.get? it=some o->h'.get? it=some o):mT h' it first i a n ep:=let⟨o,c,r⟩:=x;⟨o,k o c,r⟩
def mT.typeIs{s:i7}{n}(x:mT s.heap it first i a n ep):s.TypeIs (.ref it) "set_iterator":=let⟨o,c,d,_⟩:=x;⟨o,c,d⟩
variable{C a:iR}{i z:Nat}{H:rj}{t:lr}
abbrev _root_.yu:=i0 (iT×Nat)->i7->Prop
def KG{Q:yu}(p:w.params.followText "set-order"=false)(k:nA s.heap a H z t)(f:(!t.plain&&decide (H.size>1))=false)(d:t.led=true)
 (h:Q (match H[SetTable.below t.place slot]?,t.place[SetTable.below t.place slot]? with|some (_,x),some j=>some (x,j+1)|_,_=>none) s):wpAny (model y w) A (setNext a slot i z) Q E s:=by obtain⟨o,l,_,m,hf⟩:=k;unfold setNext;refine ae (bO l m hf ?_);refine ae (Ao ?_);rw[p];refine aX (λc=>absurd c av) (λ_=>?_);refine aX (λc=>absurd (show(!t.plain&&decide (H.size>1))=true from c) (by rw[f];exact av)) (λ_=>?_);refine ae ?_;show wpAny _ _ (if(!t.led&&!H.isEmpty)=true then _ else _) _ _ _;rw[d];refine aX (λc=>absurd (show false=true from c) av) (λ_=>ah ?_);exact ah h
def KH{Q:yu}(j:w.params.followText "set-order"=true)(k:nA s.heap a H z t)
 (h:Q (((pickOrder (w.params.setOrder a z) H)[i]?).map λe=>(e.2,slot)) s):wpAny (model y w) A (setNext a slot i z) Q E s:=by obtain⟨o,d,_,f,hf⟩:=k;unfold setNext;refine ae (bO d f hf ?_);refine ae (Ao ?_);rw[j];refine aX (λ_=>?_) (λc=>absurd rfl c);refine aX (λc=>absurd c<|by simp) (λ_=>?_);refine ae ?_;unfold setWalk;refine ae (bO d f hf ?_);dsimp only;refine ae (Ao ?_);rw[j];refine aX (λ_=>?_) (λc=>absurd rfl c);refine ae (gJ<|ah ?_);exact ah h
def HM{slot nx:Nat}{x:iT}{Q:sE}(hit:mT s.heap C (.int slot 0) i a H.size z)(u:nA s.heap a H z t)
    (v:∀(B:jY) (M:j0) (r:yu),r (some (x,nx)) s->wpAny (model y w) B (setNext a slot i z) r M s)
    (J:∀q,mT q C (.int nx 0) (i+1) a H.size z->Heap.SameBut C s.heap q->Q (some x) {s with heap:=q}):wpAny (model y w) A (pyNext<|.ref C) Q E s:=by
 obtain⟨o,k,F,f⟩:=id hit;obtain⟨N,h,D,m,l⟩:=id u;unfold pyNext
 refine ae (fK (bR (name:=Str.ofString "__next__") hit.typeIs qo
  (bE qo hit.typeIs yR ?_ (yG _))))
 show wpAny _ _ (fieldsOf (.ref C)>>=_) _ _ s;refine ae (eS k f ?_);show wpAny _ _ (setEntries a>>=_) _ _ s;refine ae (di h m l ?_);refine aX (λp=>absurd p<|by simp) (λ_=>?_);show wpAny _ _ (setNext a (Int.toNat slot) (Int.toNat i) (Int.toNat z)>>=_) _ _ s;rw[bC,bC,bC];refine ae (v _ _ _ ?_);show wpAny _ _ (setField (.ref C) 0 (rawInt nx)>>=_) _ _ s;refine ae (bZ k f (by simp) ?_);have d:=bf (Obj.mapFields (·.setIfInBounds 0 (rawInt nx))) k (bP<|bu f _);have c:(Obj.mapFields (·.setIfInBounds 0 (rawInt nx)) o).data=.fields #[rawInt nx,.int i 0,.ref a,.int H.size 0,.int z 0]:=by rw[bu f];simp
 refine ae (bZ d c (by simp) ?_);have j:=bf (Obj.mapFields (·.setIfInBounds 1 (rawInt<|(i:Int)+1))) d (bP<|bu c _);show wpAny _ _ (pure _) _ _ _;exact ah ⟨_,rfl,ah<|J _ ⟨_,j,(dM ..).trans ((dM ..).trans F),by rw[bu c];simp[rawInt]⟩<|(bD ..).trans (bD ..)⟩
def HL{c:Nat}{Q:sE}(v:A.handled=none)(hit:mT s.heap C (.int c 0) i a H.size z)(r:nA s.heap a H z t)
    (u:∀(B:jY) (F:j0) (q:yu),q none s->wpAny (model y w) B (setNext a c i z) q F s)
    (D:∀p,Heap.ExtBut C s.heap p->Q none {s with heap:=p}):wpAny (model y w) A (pyNext<|.ref C) Q E s:=by
 obtain⟨o,k,M,l⟩:=id hit;obtain⟨J,d,x,h,f⟩:=id r;unfold pyNext
 refine ae (fK (bR (name:=Str.ofString "__next__") hit.typeIs qo
  (bE qo hit.typeIs yR ?_ (yG _))))
 show wpAny _ _ (fieldsOf (.ref C)>>=_) _ _ s;refine ae (eS k l ?_);show wpAny _ _ (setEntries a>>=_) _ _ s;refine ae (di d h f ?_);refine aX (λj=>absurd j<|by simp) (λ_=>?_);show wpAny _ _ (setNext a (Int.toNat c) (Int.toNat i) (Int.toNat z)>>=_) _ _ s;rw[bC,bC,bC];refine ae (u _ _ _ ?_);show wpAny _ _ (setField (.ref C) 2 .none>>=_) _ _ s;refine ae (bZ k l (by simp) ?_);refine ae ?_;simp only[newExc,newTuple];refine ae (bc ?_ (by size_fits));refine ae (m:=firstArgMember _ _) (ig (a:=Value.none) (by first|rfl|(simp only[firstArgMember];rfl)) ?_);refine bc ?_ (by size_fits);simp only[raiseNew];refine ae (wpAny_handled ?_);rw[show A.in1.handled=none from v];refine ae (ah<|wpAny_throw ?_);refine ae (fH (T:="StopIteration") (b:=true) ⟨_,aJ _ rfl,rfl⟩ ik ?_);exact ah (D _<|((bD ..).extBut.push _).push _)
def RH{p:iR}{x:lj}{v:rn}{m q:Nat}{tk:Tok}{e:Int×iT}{Q:sE}(J:s.heap.get? p=some x)(k:x.data=.seq v m)(hit:mT s.heap C (.ref p) i a H.size z)(D:nA s.heap a H z t)
    (F:v[i]?=some (.int q tk))(N:H[q]?=some e)
    (T:∀u,mT u C (.ref p) (i+1) a H.size z->Heap.SameBut C s.heap u->Q (some e.2) {s with heap:=u}):wpAny (model y w) A (pyNext<|.ref C) Q E s:=by
 obtain⟨o,r,O,j⟩:=id hit;obtain⟨U,d,M,h,f⟩:=id D;unfold pyNext
 refine ae (fK (bR (name:=Str.ofString "__next__") hit.typeIs qo
  (bE qo hit.typeIs yR ?_ (yG _))))
 show wpAny _ _ (fieldsOf (.ref C)>>=_) _ _ s;refine ae (eS r j ?_);show wpAny _ _ (setEntries a>>=_) _ _ s;refine ae (di d h f ?_);refine aX (λc=>absurd c<|by simp) (λ_=>?_);show wpAny _ _ (seqItems? (.ref p)>>=_) _ _ s;refine ae (fh J k ?_);dsimp only;rw[show(Int.toNat (i:Int))=i from bC i,F];show wpAny _ _ (setNextDrawn a (Int.toNat q) (Int.toNat z)>>=_) _ _ s;rw[bC,bC];refine ae ?_;unfold setNextDrawn;refine ae (bO d h f ?_);dsimp only;refine aX (λc=>absurd c<|by simp) (λ_=>?_);rw[N];refine ah ?_;refine ae (bZ r j (by simp) ?_);have l:=bf (Obj.mapFields (·.setIfInBounds 1 (rawInt<|(i:Int)+1))) r (bP<|bu j _);show wpAny _ _ (pure _) _ _ _;exact ah ⟨_,rfl,ah<|T _ ⟨_,l,(dM ..).trans O,by rw[bu j];simp[rawInt]⟩<|bD ..⟩
def RG{u}{Q:sE}(J:A.handled=none)(F:s.heap.get? p=some op)(d:op.data=.seq u m)(hit:mT s.heap C (.ref p) i a H.size z)(x:nA s.heap a H z t)
 (D:u[i]?=none)(N:∀v,Heap.ExtBut C s.heap v->Q none {s with heap:=v}):wpAny (model y w) A (pyNext<|.ref C) Q E s:=by
  obtain⟨o,j,U,c⟩:=id hit;obtain⟨O,f,M,l,k⟩:=id x;unfold pyNext
  refine ae (fK (bR (name:=Str.ofString "__next__") hit.typeIs qo
   (bE qo hit.typeIs yR ?_ (yG _))))
  show wpAny _ _ (fieldsOf (.ref C)>>=_) _ _ s;refine ae (eS j c ?_);show wpAny _ _ (setEntries a>>=_) _ _ s;refine ae (di f l k ?_);refine aX (λr=>absurd r<|by simp) (λ_=>?_);show wpAny _ _ (seqItems? (.ref p)>>=_) _ _ s;refine ae (fh F d ?_);dsimp only;rw[show(Int.toNat (i:Int))=i from bC i,D];show wpAny _ _ (setField (.ref C) 0 (rawInt 0)>>=_) _ _ s;refine ae (bZ j c (by simp) ?_);have h:=bf (Obj.mapFields (·.setIfInBounds 0 (rawInt 0))) j (bP<|bu c _);have q:(Obj.mapFields (·.setIfInBounds 0 (rawInt 0)) o).data=.fields #[rawInt 0,.int i 0,.ref a,.int H.size 0,.int z 0]:=by rw[bu c];simp
  show wpAny _ _ (setField (.ref C) 2 .none>>=_) _ _ _;refine ae (bZ h q (by simp) ?_);show wpAny _ _ (newExc (.type "StopIteration") []>>=_) _ _ _;refine ae ?_;simp only[newExc,newTuple];refine ae (bc ?_ (by size_fits));refine ae (m:=firstArgMember _ _) (ig (a:=Value.none) (by first|rfl|(simp only[firstArgMember];rfl)) ?_);refine bc ?_ (by size_fits);simp only[raiseNew];refine ae (wpAny_handled ?_);rw[show A.in1.handled=none from J];refine ae (ah<|wpAny_throw ?_);refine ae (fH (T:="StopIteration") (b:=true) ⟨_,aJ _ rfl,rfl⟩ ik ?_);exact ah (N _<|(((bD ..).trans (bD ..)).extBut.push _).push _)
end
def KO:Slot "set_iterator" "__iter__" "set_iterator.__iter__":=
 .of (owner:="set_iterator") (n:="__iter__") (by rw[hD,fE];kernel_rfl) (by decide+kernel) (by decide+kernel) (by decide+kernel)
  (by first|exact .inl (by decide+kernel)|exact .inr (by decide+kernel)) (by rw[iq];kernel_rfl)
def OK:entryFor table "set_iterator.__iter__"=some Builtin.«dict_keyiterator.__iter__»:=
 entryFor_alias (id':="dict_keyiterator.__iter__") (by kernel_rfl) rfl (by decide+kernel) (by kernel_rfl)
def Mw(a):argsOk "set_iterator.__iter__" ⟨[a],[]⟩:=by rfl
def CL{w}{s:i7}{n}{Q:j0}(hit:mT s.heap it first i a n ep)(h:Q (.ref it) s):wpAny (model prog w) A (pyIter<|.ref it) Q E s:=by refine eR hit.typeIs KO (bE KO hit.typeIs OK ?_ (Mw _));exact ah ⟨_,rfl,"set_iterator",_,hit.typeIs,qo.lookup,h⟩
theorem JM{h:Type}(f):∀a k (left:aa h) out,left.length=a->(pickOrder.go f a k left out).toList.Perm (out.toList++left)
 |0,k,left,out,d=>by have e:left=[]:=gK.mp d;subst e;show out.toList.Perm (out.toList++[]);rw[aU]
 |a+1,k,left,out,d=>by unfold pickOrder.go;have c:f k%left.length<left.length:=eD _ (by simp_all);rw[ax c];dsimp only;refine(JM f a (k+1) _ _<|by rw[ir,aq c];simp_all).trans ?_;rw[Array.toList_push,aT];exact List.Perm.append_left _ (DC left _ c)
def DH{c:Type}(f:Nat->Nat)(a:jZ c):(pickOrder f a).toList.Perm a.toList:=by have:=JM f a.size 0 a.toList #[] (by simp);simpa [pickOrder]using this
def slotAt(place:nJ)(i:Nat):Nat:=if i=0 then 0 else place.getD (i - 1) 0+1
def FI{place}(h:mz place):∀i,i<=place.size->SetTable.below place (slotAt place i)=i
 |0,_=>MF h
 |i+1,a=>by
  have e:slotAt place (i+1)=place[i]+1:=by unfold slotAt;simp[Array.getD,show i<place.size by walk_at "l"]
  rw[e];exact ME h (by walk_at "l")
section
variable{C:jE}{w:jz}{A:jY}{E:j0}{s:i7}{a:iR}{F:Nat}{c:rj}{t:lr}
def LC(D:A.handled=none)(d:w.params.followText "set-order"=false)(I)(ne:a≠I)(j:mz t.place)(L:t.place.size=c.size)(m:(!t.plain&&decide (c.size>1))=false)(f:t.led=true):
    Walks C w A I [I,a] [I] c.size (λi v=>(c.toList.map Prod.snd)[i]?=some v) (λi h=>mT h I (.int (slotAt t.place i) 0) i a c.size F/\nA h a c F t) where
 sub:=λb d=>by simp at d;simp[d]
 frame:=λ_ _ _ st y=>⟨st.1.at' λo e=>y I (by simp) o e,st.2.at' λo e=>y a (by simp) o e⟩
 item:=λi s Q E z st n=>by
  have u:i<t.place.size:=by simp_all
  refine HM (slot:=slotAt t.place i) (nx:=slotAt t.place<|i+1) (x:=c[i].2) st.1 st.2 (λB J G q=>KG d st.2 m f ?_) λr l k=>?_
  .rw[FI j i<|by walk_at "l",aO z,aO u];have e:slotAt t.place (i+1)=t.place[i]+1:=by
    unfold slotAt;rw[aA<|by lia,Nat.add_sub_cancel];simp[Array.getD,u]
   rw[e]at q;exact q
  .exact n _ r s.toks (by rw[aC,bg,aO z];rfl) ⟨l,st.2.at' λo e=>k.extBut a o ne e⟩ λb o d e=>k.extBut b o (λh=>d<|by simp[h]) e
 done:=λs Q E st n=>by refine HL D st.1 st.2 (λB J G q=>KG d st.2 m f ?_) λr p=>n r s.toks λb o d e=>p b o (λh=>d<|by simp[h]) e;rw[FI j c.size<|by simp_all,cV<|af _];exact q
 self:=λi s Q E st n=>CL st.1 n
def aaE(u:A.handled=none)(d:w.params.followText "set-order"=true)(I:iR)(ne:a≠I):
    Walks C w A I [I,a] [I] c.size (λi v=>((pickOrder (w.params.setOrder a F) c).toList.map Prod.snd)[i]?=some v) (λi h=>mT h I (.int (0:Nat) 0) i a c.size F/\nA h a c F t) where
 sub:=λb d=>by simp at d;simp[d]
 frame:=λ_ _ _ st r=>⟨st.1.at' λo e=>r I (by simp) o e,st.2.at' λo e=>r a (by simp) o e⟩
 item:=λi s Q E D st k=>by
  have l:(pickOrder (w.params.setOrder a F) c).size=c.size:=by have:=(DH (w.params.setOrder a F) c).length_eq;simpa using this
  have p:i<(pickOrder (w.params.setOrder a F) c).size:=by simp_all
  refine HM (slot:=0) (nx:=0) (x:=(pickOrder (w.params.setOrder a F) c)[i].2) st.1 st.2 (λB z y q=>KH d st.2 ?_) λn j f=>?_
  .rw[aO p];exact q
  .exact k _ n s.toks (by rw[aC,bg,aO p];rfl) ⟨j,st.2.at' λo e=>f.extBut a o ne e⟩ λb o d e=>f.extBut b o (λh=>d<|by simp[h]) e
 done:=λs Q E st k=>by
  have l:(pickOrder (w.params.setOrder a F) c).size=c.size:=by have:=(DH (w.params.setOrder a F) c).length_eq;simpa using this
  refine HL u st.1 st.2 (λB z y q=>KH d st.2 ?_) λn m=>k n s.toks λb o d e=>m b o (λh=>d<|by simp[h]) e;rw[cV<|by walk_at "l"];exact q
 self:=λi s Q E st k=>CL st.1 k
def aaD(P:A.handled=none)(I p)(ne:a≠I)(O:p≠I){d:lC}(j:d.Perm<|List.range c.size):
    Walks C w A I [I,a,p] [I] c.size (λi v=>(d.map λq=>(c.getD q (0,.none)).2)[i]?=some v) (λi h=>mT h I (.ref p) i a c.size F/\nA h a c F t/\∃f m,h.get? p=some f/\f.data=.seq (d.map λ(i:Nat)=>rawInt i).toArray m) where
 sub:=λb n=>by simp at n;simp[n]
 frame:=λ_ _ _ st G=>⟨st.1.at' λo e=>G I (by simp) o e,st.2.1.at' λo e=>G a (by simp) o e,let⟨f,m,u,r⟩:=st.2.2;⟨f,m,G p (by simp) f u,r⟩⟩
 item:=λi s Q E R st y=>by
  obtain⟨D,z,f,m,u,r⟩:=st;have N:d.length=c.size:=by have:=j.length_eq;simpa using this
  have l:i<d.length:=by simp_all
  have M:d[i]<c.size:=by have:=j.mem_iff.mp (bU l);simpa using this
  refine RH (q:=d[i]) (tk:=0) (e:=c[d[i]]) u r D z (by simp[l,rawInt]) (aO M) λL x k=>?_;exact y _ L s.toks (by rw[aC,ax l];simp[Array.getD,M]) ⟨x,z.at' λo e=>k.extBut a o ne e,f,m,k.extBut p f O u,r⟩ λb o n e=>k.extBut b o (λh=>n<|by simp[h]) e
 done:=λs Q E st y=>by
  obtain⟨D,z,f,m,u,r⟩:=st;have N:d.length=c.size:=by have:=j.length_eq;simpa using this
  exact RG P u r D z (by simp[N]) λL J=>y L s.toks λb o n e=>J b o (λh=>n<|by simp[h]) e
 self:=λi s Q E st y=>CL st.1 y
def Wj{f:lC}(d:f.Perm<|List.range c.size):(f.map λq=>(c.getD q (0,.none)).2).Perm (c.toList.map Prod.snd):=by
 refine(d.map _).trans ?_;have:(List.range c.size).map (λq=>(c.getD q (0,.none)).2)=c.toList.map Prod.snd:=by
  apply gF;.simp
  .simp_all
 rw[this]
def YI{Q:j0}(Y:nA s.heap a c F t)(tok:oj (w.params.followText "set-order") t)(hn:c.size<=sizeLine)
    (R:∀(U:jb) (d:Drawn) (J:iR) (fp:nW) (I:kn) (St:Nat->jb->Prop),J∈fp->s.heap.objs.size<=J->(∀b∈fp,(b=a\/s.heap.objs.size<=b)/\b<U.objs.size)->I.Perm (c.toList.map Prod.snd)->
      (∀B:jY,B.handled=none->Walks C w B J fp [J] c.size (λi v=>I[i]?=some v) St)->St 0 U->(∀b o,s.heap.get? b=some o->U.get? b=some o)->Q (.ref J) {s with heap:=U,drawn:=d}):
    wpAny (model C w) A (pyIter<|.ref a) Q E s:=by
 obtain⟨o,D,hex,P,hf⟩:=id Y;have hT:s.TypeIs (.ref a) "set":=⟨o,D,hex.1⟩;have k:a<s.heap.objs.size:=aM D;have L:t.place.size=c.size:=by simp only[SetTable.fits,aS,dP]at hf;exact hf.1
 refine eR hT hU (bE hU hT OJ ?_ (PySem.F.args_set_iter_1 _));unfold Builtin.«frozenset.__iter__»;refine ae (m:=Builtin.Frozenset.slot0 _ _) (ah ?_);refine ae ?_;unfold Builtin.Frozenset.sizeOf;refine ae (di D P hf<|ah ?_);refine ae ?_;unfold setDrawn;refine ae (bO D P hf ?_);dsimp only;refine ae (Ao<|ah ?_);have l:∀(h:(!(w.params.followText "set-order")&&(!t.plain&&decide (c.size>1)))=false),wpAny (model C w) A.in1 (setEpoch a>>=λe=>newFields "set_iterator" [rawInt 0,rawInt 0,.ref a,rawInt c.size,rawInt e]>>=λv=>ret v) (λfin s'=>∃v,fin=.done (.ret v)/\∃T,∃x,s'.TypeIs v T/\typeLookup (.type T) "__next__"=pure (some x)/\Q v s') E s:=λh=>by
  refine ae (wpAny_setEpoch_of D P hf ?_);refine ae (bc ?_);have hit:mT (s.heap.push {cls:=.type "set_iterator",data:=.fields [rawInt 0,rawInt 0,.ref a,rawInt c.size,rawInt F].toArray}) s.heap.objs.size (.int (0:Nat) 0) 0 a c.size F:=⟨_,aJ _ rfl,rfl,rfl⟩;refine ah ⟨_,rfl,"set_iterator",_,mT.typeIs (s:={s with heap:=_}) hit,qo.lookup,?_⟩;have ne:a≠s.heap.objs.size:=aV k;have p:nA (s.heap.push {cls:=.type "set_iterator",data:=.fields [rawInt 0,rawInt 0,.ref a,rawInt c.size,rawInt F].toArray}) a c F t:=Y.at' λo e=>ai _ e;have u:∀b∈[s.heap.objs.size,a],(b=a\/s.heap.objs.size<=b)/\b<(s.heap.push {cls:=.type "set_iterator",data:=.fields [rawInt 0,rawInt 0,.ref a,rawInt c.size,rawInt F].toArray}).objs.size:=λb f=>by
   rw[cg];rcases aI.mp f with rfl|f;.exact⟨.inr<|af _,bB _⟩
   .rw[aQ.mp f];exact⟨.inl rfl,bQ k⟩
  cases f:w.params.followText "set-order" with
  |true=>exact R _ s.drawn _ _ _ _ (.head _) (af _) u ((DH (w.params.setOrder a F) c).map _) (λB q=>aaE q f _ ne) ⟨hit,p⟩ λb o e=>ai _ e
  |false=>
   rw[f]at h;have G:t.led=true:=by rw[tok.led,f];rfl
   by_cases O:t.plain=true;.exact R _ s.drawn _ _ _ _ (.head _) (af _) u (.refl _) (λB q=>LC (t:=t) q f _ ne (tok.ql O) L (by simpa using h) G) ⟨hit,p⟩ λb o e=>ai _ e
   .have h1:c.size<=1:=by
     have Z:t.plain=false:=by simpa using O
     rw[Z]at h;simpa using h
    have V:mz t.place:=by
     unfold mz;match hx:t.place.toList with
     |[]=>exact .nil
     |[x]=>exact eF _ _
     |x::y::r=>
      have:=bG List.length hx;rw[aF]at this;simp at this
      lia
    exact R _ s.drawn _ _ _ _ (.head _) (af _) u (.refl _) (λB q=>LC (t:=t) q f _ ne V L (by simpa using h) G) ⟨hit,p⟩ λb o e=>ai _ e
 refine aX (λN=>?_) (λN=>?_)
 .refine ae (LG c.size (List.range c.size) (by simp) λz d n=>?_);have hl:z.length=c.size:=by have:=n.length_eq;simpa using this
  refine ae (wpAny_newTuple ?_ (by rw[aj,hl];exact hn));have Q2:(s.heap.push<|seqObj "tuple" (z.map λ(i:Nat)=>rawInt i).toArray 0).get? a=some o:=ai _ D;refine ae (wpAny_setEpoch_of (s:={s with heap:=s.heap.push<|seqObj "tuple" (z.map λ(i:Nat)=>rawInt i).toArray 0,drawn:=d}) Q2 P hf ?_);refine ae (bc ?_);have j:(s.heap.push<|seqObj "tuple" (z.map λ(i:Nat)=>rawInt i).toArray 0).objs.size=s.heap.objs.size+1:=size_push' ..;generalize hg:s.heap.push (seqObj "tuple" (z.map λ(i:Nat)=>rawInt i).toArray 0)=g at*;have O:g.get? s.heap.objs.size=some (seqObj "tuple" (z.map λ(i:Nat)=>rawInt i).toArray 0):=by rw[<-hg];exact aJ _ rfl
  have kp:∀b o,s.heap.get? b=some o->g.get? b=some o:=λb o e=>by rw[<-hg];exact ai _ e
  have hit:mT (g.push {cls:=.type "set_iterator",data:=.fields [.ref s.heap.objs.size,rawInt 0,.ref a,rawInt c.size,rawInt F].toArray}) g.objs.size (.ref s.heap.objs.size) 0 a c.size F:=⟨_,aJ _ rfl,rfl,rfl⟩;refine ah ⟨_,rfl,"set_iterator",_,mT.typeIs (s:={s with heap:=_,drawn:=d}) hit,qo.lookup,?_⟩;refine R _ d g.objs.size [g.objs.size,a,s.heap.objs.size] _ _ (.head _) (by rw[j];exact cN _) (λb f=>?_) (Wj n) (λB q=>aaD q _ _ (by rw[j];exact aV (bQ k)) (by rw[j];exact aV (bB _)) n) ⟨hit,Y.at' λo e=>ai _ (kp a o e),_,0,ai _ O,rfl⟩ λb o e=>ai _ (kp b o e);rw[cg,j];simp only[aI,cH,fZ]at f;rcases f with rfl|rfl|rfl;.rw[j];exact⟨.inr<|cN _,bB _⟩
  .exact⟨.inl rfl,bQ<|bQ k⟩
  .exact⟨.inr<|af _,bQ<|bB _⟩
 .have M:(!(w.params.followText "set-order")&&(!t.plain&&decide (c.size>1)))=false:=Bool.eq_false_iff.mpr N;exact ae (ah<|l M)
def MH:bootBuiltins "set"=some (.type "set"):=by decide+kernel
def YH{Q:sF}(hT:s.TypeIs (.ref r) "set")(h:Q false s):wpAny (model C w) A (Builtin.List.listLengthHint<|.ref r) Q E s:=by
 unfold Builtin.List.listLengthHint;refine ae (g9 hT PySem.F.slot_set_len.lookup ?_);generalize d:("set.__len__":String)=id0
 wp_delta
 subst d;refine ae (fH (T:="set") (b:=true) hT (by rw[iq];kernel_rfl) ?_);refine ae (dW hT ?_);exact ah h
def YG{Q:aa iT->i7->Prop}(hh:A.handled=none)(hr:nA s.heap a c F t)(tok:oj (w.params.followText "set-order") t)(hn:c.size<=sizeLine)
 (hQ:∀(h':jb) tk d (us:kn),us.Perm (c.toList.map Prod.snd)->(∀b o,s.heap.get? b=some o->h'.get? b=some o)->s.heap.objs.size<=h'.objs.size->Q us {s with heap:=h',toks:=tk,drawn:=d}):wpAny (model C w) A (collect<|.ref a) Q E s:=by
  obtain⟨o,Z,G,hd,hf⟩:=id hr;have y:a<s.heap.objs.size:=aM Z;unfold collect;refine ae (wpAny_runValue<|cq PySem.F.entry_proto_collect ?_);rw[cb PySem.F.plain_proto_collect _];show wpAny _ A.in1 (newList []>>=λl=>again<|.builtin "list.__iadd__" ⟨[l,.ref a],[]⟩) _ _ s;refine ae (bc ?_);refine ah ⟨ee gL _,cq PySem.F.entry_list_iadd ?_⟩;rw[cb gL _];show wpAny _ A.in1 (Builtin.List.listExtendWith (.ref s.heap.objs.size) (.ref a)<|.ref s.heap.objs.size) _ _ _;have u:(s.heap.push {cls:=.type "list",data:=.seq ([]:aa iT).toArray}).get? s.heap.objs.size=some {cls:=.type "list",data:=.seq #[]}:=aJ _ rfl;have v:(s.heap.push {cls:=.type "list",data:=.seq ([]:aa iT).toArray}).objs.size=s.heap.objs.size+1:=cg ..;have L:∀b o,s.heap.get? b=some o->(s.heap.push {cls:=.type "list",data:=.seq ([]:aa iT).toArray}).get? b=some o:=λb o e=>ai _ e;generalize s.heap.push {cls:=.type "list",data:=.seq ([]:aa iT).toArray}=g at*;have Y:nA g a c F t:=hr.at' λo e=>L a o e;have PU:Shared.TypeIs {s with heap:=g} (.ref a) "set":=⟨o,L a o Z,G.1⟩;unfold Builtin.List.listExtendWith;refine ae (dW (T:="set") PU ?_);have h1:Builtin.List.listSameRef (.ref s.heap.objs.size) (.ref a)=false:=by simp[Builtin.List.listSameRef,dE y]
  rw[aA<|by rw[h1];decide];refine ae (YI (s:={s with heap:=g}) Y tok hn λO d it fp q St acd Qw hfp p W R V=>?_);have n:=V _ _ u;have I:s.heap.objs.size∉fp:=λM=>by
   rcases(hfp _ M).1 with z|z;.exact absurd z (dE y)
   .exact absurd (show g.objs.size<=s.heap.objs.size from z) (by rw[v];exact Nat.not_succ_le_self _)
  have PV:Shared.TypeIs {s with heap:=O,drawn:=d} (.ref a) "set":=⟨o,V a o<|L a o Z,G.1⟩;refine ae (bH<|YH PV ?_);refine aX (λ_=>?_) (λwX=>absurd (by decide) wX);refine ae (gS ?_);refine ae ?_;show wpAny _ _ (updateSeq s.heap.objs.size (·.push .none)>>=λ_=>updateSeq s.heap.objs.size (·.pop)) _ _ _;refine ae (wpAny_updateSeq n rfl ?_);have m:=bf (Obj.mapSeq (·.push Value.none)) n rfl;refine wpAny_updateSeq (hz:=by seq_fits) m rfl ?_;have r:=bf (Obj.mapSeq (·.pop)) m rfl
  have x:∀b o,b≠s.heap.objs.size->O.get? b=some o->((O.update s.heap.objs.size (Obj.mapSeq (·.push Value.none))).update s.heap.objs.size (Obj.mapSeq (·.pop))).get? b=some o:=
   λb o N e=>(bJ _ _<|bK N).trans ((bJ _ _<|bK N).trans e)
  have W1:=W A.in1 hh;have P:St 0 ((O.update s.heap.objs.size (Obj.mapSeq (·.push Value.none))).update s.heap.objs.size (Obj.mapSeq (·.pop))):=W1.frame 0 _ _ R λb N o e=>x b o (λh=>I<|h▸N) e;refine ah ⟨ee PySem.F.plain_extend_loop _,codeAny_extend_loopS W1.toS hn _ I _ c.size 0 _ #[] _ rfl (bI _) P r (ItemsOf.nil _) λU f c' M J k=>?_⟩;show wpAny _ A (load s.heap.objs.size>>=_) _ _ U;refine ae (wpAny_load J ?_);show wpAny _ _ (pure f.toList) _ _ _;have lp:q.length=c.size:=by have:=p.length_eq;simpa using this
  have ea:f.toList=q:=by
   apply List.ext_getElem?;intro j;rw[bg];by_cases hj:j<c.size
   .have h3:j<f.size:=by rw[k.1];exact hj
    rw[k.2 j f[j] (by simp[h3])];simp[h3]
   .rw[cV<|by rw[k.1];simp_all,List.getElem?_eq_none<|by simp_all]
  rw[ea];rw[Moved.eq_with M];refine ah (hQ U.heap U.toks d q p (λb o e=>M.heap b o (λi=>?_)<|x b o (aV<|aM e)<|V b o<|L b o e)<|dD<|aM J);rcases aI.mp i with e'|i;.exact absurd (aM e) (by rw[e'];exact cL _)
  .have e2:=aQ.mp i;have D:g.objs.size<=it:=Qw;exact absurd (aM e) (by rw[e2];exact gY.mpr (aW (by rw[v];exact cN _) D))
def Y3{Gd:aa iT->Prop}{G:yy}{Q:j0}(J:A.handled=none)
 (n:∀(B:jY) (y:aa iT->i7->Prop),B.handled=none->(∀i tk d f,Gd f->(∀b o,s.heap.get? b=some o->i.get? b=some o)->s.heap.objs.size<=i.objs.size->y f {s with heap:=i,toks:=tk,drawn:=d})->wpAny (model C w) B (collect<|.ref l) y E s)
 (z:∀f,Gd f->f.length<=sizeLine)(P:∀f,Gd f->f.length<2->G f.toArray)
 (O:∀f,Gd f->2<=f.length->∀t:i7,(∀b o,s.heap.get? b=some o->t.heap.get? b=some o)->yp C w G f t)
 (k:∀(out:rn) p (i:jb) tk e d,out.size<=sizeLine->G out->s.heap.objs.size<=p->(∀b o,s.heap.get? b=some o->i.get? b=some o)->i.get? p=some (seqObj "list" out e)->Q (.ref p) {s with heap:=i,toks:=tk,drawn:=d}):wpAny (model C w) A (call (.builtin "sorted") [.ref l]) Q E s:=by
  refine call_function_entry kind_sorted plain_sorted entry_sorted (args_sorted1 _) ?_;unfold Builtin.«sorted»;refine ae (m:=checkCount "sorted" 1 1 _) (ah ?_);apply ae;refine n _ _ J λg tk d f v u j=>?_;have h:=z f v;apply ae;refine wpAny_newList ?_ h;have here:(g.push<|seqObj "list" f.toArray 0).get? g.objs.size=some (seqObj "list" f.toArray 0):=aJ _ rfl
  have kp:∀b o,s.heap.get? b=some o->b≠g.objs.size/\(g.push<|seqObj "list" f.toArray 0).get? b=some o:=λb o q=>⟨aV<|aE (aM q) j,ai _<|u b o q⟩
  refine ae (bH<|bE slot_list_sort ⟨_,here,rfl⟩ entry_list_sort (KW (s:={s with heap:=g.push<|seqObj "list" f.toArray 0,toks:=tk,drawn:=d}) here h (P f v) (λN t D=>O f v N t λb o q=>D b o (kp b o q).1 (kp b o q).2) λout I M=>⟨_,rfl,?_⟩)<|args_list_sort _);refine ah ⟨_,rfl,?_⟩;have R:=get?_update_seq here (λ_=>(#[]:jZ iT));have r:∀b o,b≠g.objs.size->(g.push<|seqObj "list" f.toArray 0).get? b=some o->(sortedHeap (g.push<|seqObj "list" f.toArray 0) g.objs.size f out).get? b=some o:=λb o x q=>by show((((((g.push<|seqObj "list" f.toArray 0).update g.objs.size (Obj.mapSeq λ_=>(#[]:jZ iT))).push (seqObj "tuple" f.toArray 0)).push (seqObj "list" #[] 0)).update g.objs.size (Obj.mapSeq λ_=>out))).get? b=some o;rw[dZ _ _ _ _ x];refine ai _ (ai _ ?_);rw[dZ _ _ _ _ x];exact q
  have new:∃e,(sortedHeap (g.push<|seqObj "list" f.toArray 0) g.objs.size f out).get? g.objs.size=some (seqObj "list" out e):=by exact⟨_,get?_update_seq (ai (seqObj "list" #[] 0)<|ai (seqObj "tuple" f.toArray 0) R)<|λ_=>out⟩
  obtain⟨e,L⟩:=new;exact k out g.objs.size _ tk e d (by rw[I];exact h) M j (λb o q=>r b o (kp b o q).1 (kp b o q).2) L
end
def dd:aa Key->aa Key
 |[]=>[]
 |k::r=>if(r.any λj=>decide<|j=k)=true then dd r else k::dd r
def FD{k}{r:oo}:(r.any λj=>decide<|j=k)=true↔k∈r:=by simp
theorem uo(x):∀a:aa Key,x∈dd a↔x∈a
 |[]=>Iff.rfl
 |k::r=>by
  unfold dd;by_cases h:(r.any λj=>decide<|j=k)=true
  .rw[aq h,uo x r,aI];exact⟨.inr,λz=>z.elim (λz=>by rw[z];exact FD.mp h) id⟩
  .rw[aA h,aI,aI,uo x r]
theorem Dd:∀a:aa Key,(dd a).Nodup
 |[]=>.nil
 |k::r=>by
  unfold dd;by_cases h:(r.any λj=>decide<|j=k)=true;.rw[aq h];exact Dd r
  .rw[aA h];exact bA.mpr ⟨λz=>h<|FD.mpr<|(uo k r).mp z,Dd r⟩
theorem Iu:∀a:aa Key,(dd a).length<=a.length
 |[]=>af _
 |k::r=>by
  have d:=Iu r;have c:(k::r).length=r.length+1:=rfl;unfold dd;split;.walk_at "l"
  .rw[au];walk_at "l"
theorem zS{f:Type}[DecidableEq f]:∀{d c:aa f},d.Nodup->c.Nodup->(∀x,x∈d↔x∈c)->d.Perm c
 |[],c,_,_,h=>by
  cases c with
  |nil=>exact .refl _
  |cons y r=>exact absurd ((h y).mpr (.head _)) (by simp)
 |a::l,c,n,i,h=>by
  have o:=(h a).mp (.head _);obtain⟨m,k⟩:=bA.mp n;refine(List.Perm.cons a<|zS k (i.erase a) λx=>?_).trans (iu o).symm;rw[i.mem_erase_iff];constructor
  .intro j;exact⟨λe=>m<|by rw[<-e];exact j,(h x).mp (.tail _ j)⟩
  .rintro ⟨q,p⟩
   rcases aI.mp ((h x).mpr p)with e|e;.exact absurd e q
   .exact e
def vD(v:iT):D:=kD (vK v)
def O0(h:sv v):q8 hp v (vD v):=by
 unfold sv at h;cases v with
 |int i t=>rfl
 |str x t=>rfl
 |_=>obtain⟨t,e⟩:=(show∃t,_=Value.int 0 t from h);cases e
theorem HN:∀a:aa iT,(∀v∈a,sv v)->m6 h a (a.map vD)
 |[],_=>.nil
 |u::a,H=>.cons (O0<|H u<|.head _) (HN a λv hv=>H v<|.tail _ hv)
theorem Ls:∀a:aa iT,(∀v∈a,sv v)->Vals ((a.map vK).map kV) a
 |[],_=>.nil
 |u::a,H=>.cons (H u<|.head _) (Ls a λv hv=>H v<|.tail _ hv)
def R8{d k}(h:ml d=some k):kD k=d:=by
 cases d with
 |int i=>cases h;rfl
 |str x=>cases h;rfl
 |_=>cases h
theorem CQ:∀{c} {a},lE c=some a->a.map kD=c
 |[],_,h=>by cases h;rfl
 |d::r,_,h=>by obtain⟨k,j,i⟩:=aL.mp h;obtain⟨a,f,rfl⟩:=ay.mp i;rw[aD,R8 j,CQ f]
def Q4(h:∀d∈ds,kf d=some sg):nG ds=true:=by
 cases ds with
 |nil=>rfl
 |cons d r=>show((kf d).isSome&&r.all λe=>kf e==kf d)=true;simp_all
def KS{f:jD}(h:f.Perm es)(a:∀d∈es,kf d=some sg):kJ f=kJ es:=
 DZ ((nh _).trans (h.trans (nh _).symm)) (λd c=>a d<|h.mem_iff.mp<|(nh _).mem_iff.mp c) (uF λd c=>a d<|h.mem_iff.mp c) (uF a)
def YY{a:jD}(h:a.length<2):kJ a=a:=by
 match a,h with
 |[],_=>rfl
 |[d],_=>rfl
 |_::_::r,w=>simp at w;lia
noncomputable def oJ:D->R (aa D)
 |.lst ds=>match lE ds with
  |some a=>if nG ds=true/\ds.length<64 then .ok (kJ<|(dd a).map kD)else .bad
  |none=>.bad
 |_=>.bad
variable{X:Cx}{E:XK}{e:jf}{Y:TE}{f:jx}{U O N M:Pos}
def JD{C:V->Hp->VK->Prop}(J:PE X e Y)(G:Gl X "sorted")(F:X.mg "sorted"=none)(o:Gl X "set")(n:X.mg "set"=none)
 (hC:∀a k σ c x u Q,Inv X a σ c k->RelV x u->C x c Q->wpAny (model X.prog X.w) X.A (call (.type "set") [u]) (λv r=>wpAny (model X.prog X.w) X.A (call (.builtin "sorted") [v]) (EP X a σ Q) X.xe r) X.xe k)
 (t:X.se e [])(m:X.bk M [])
 (i:starEach [.Call (.Name "set" O) [e] [] M] X.env=(false,eval (.Call (.Name "set" O) [e] [] M) X.env)::starEach [] X.env)(j:X.bk N []):
   PE X (.Call (.Name "sorted" U) [.Call (.Name "set" O) [e] [] M] [] N) (λσ H Q=>Y σ H λw c=>∃x,[w]=[x]/\C x c Q):=by
  intro a s σ H Q I h;refine cG (ui I G F FQ ?_ (by decide) (by decide));refine dm ?_ i j;rw[i];show wpAny _ _ (spliced<|(false,eval (.Call (.Name "set" O) [e] [] M) X.env)::backTo N (starEach [] X.env)) _ _ s;refine cF ?_;refine cG (ui I o n MH ?_ (by decide) (by decide));have p:PA X [e] (Eg Y Eh):=rO J rP t;refine dI (je (p M a s σ H (λd c=>∃x,d=[x]/\C x c Q) I h) λP k l=>?_) t m;obtain⟨d,c,L,A,D⟩:=l;obtain⟨x,rfl,q⟩:=D;obtain⟨u,rfl,y⟩:=vals1 A;exact br (hC _ _ _ _ _ _ _ L y q) (λv r z=>dJ z) λ_ _ z=>z
abbrev _root_.wy:=iT->Prop
def KY{Q:VK}(hc:X.calm=true)(y:Inv X pins σ H1 s2){t}(R:nA s2.heap a es ep t)(tok:oj (X.w.params.followText "set-order") t)(hz:es.size<=sizeLine)
 {Gd:wy}{dv}(n:∀d∈DD,kf d=some sg)(k:∀c:aa iT,c.Perm (es.toList.map Prod.snd)->(∀v∈c,Gd v)/\(c.map dv).Perm DD/\c.length<64)
 (j:∀c:aa iT,(∀v∈c,Gd v)->Vals (c.map rv) c/\ja X.K al H1 (c.map rv) (c.map dv))(Z:∀t':i7,(∀b o,s2.heap.get? b=some o->t'.heap.get? b=some o)->∀c:aa iT,(∀v∈c,Gd v)->m6 t'.heap c (c.map dv))
 (q:∀p h,H1 p=none->ja X.K al H1 h (kJ DD)->Q (.ref p) (upd H1 p<|.lst h)):wpAny (model X.prog X.w) X.A (call (.builtin "sorted") [.ref a]) (EP X pins σ Q) X.xe s2:=by
  have sl:=dc
  refine Y3 (A:=X.A) (s:=s2) (Gd:=λc=>c.Perm<|es.toList.map Prod.snd) (G:=λout=>∃h,Vals h out.toList/\ja X.K al H1 h (kJ DD)) (y.ok.hd hc)
   (λB Q' hB hq=>YG hB R tok hz λF T d c m e2 s2=>hq F T d c m e2 s2)
   (λc m=>by have:=(k c m).2.2;lia) (λc m F=>?_) (λc m F t' kp B=>?_) λout p h3 z OM d hz3 hG l C Qr=>?_
  .obtain⟨P,L,_⟩:=k c m;obtain⟨g1,g2⟩:=j c P;refine⟨c.map rv,by simpa using g1,?_⟩;rw[<-KS L n,YY (by rw[aj];exact F)];exact g2
  .obtain⟨P,L,V⟩:=k c m;have:=KU (prog:=X.prog) (w:=X.w) (s:=t') (Z t' kp c P) (Q4 λd hd=>n d<|L.mem_iff.mp hd) F V B;refine br this (λW t1 hk=>⟨hk.1,br hk.2 (λr t2 u=>⟨u.1,u.2.1,u.2.2.1,?_⟩) λ_ _ x=>x⟩) λ_ _ x=>x;obtain⟨J,g1,g2,g3⟩:=u.2.2.2;have I:=HC g1;rw[aj]at I;have fo:∀v∈outs c J,Gd v:=λv hv=>by
    unfold outs at hv;obtain⟨i,hi,rfl⟩:=aH.mp hv;have D:=I i hi;rw[bN,ax D,Option.getD_some];exact P _ (bU D)
   obtain⟨v1,v2⟩:=j _ fo;refine⟨(outs c J).map rv,by rw[g2];exact v1,?_⟩;rw[<-KS L n,<-g3];have e9:(outs c J).map dv=outD (c.map dv) J:=by unfold outs outD;simp_all
   rw[<-e9];exact v2
  .obtain⟨h,hw,u⟩:=hG;have lw:h.length<=sizeLine:=by
    have:=hw.length;simp only[aF]at this;simp_all
   have new:kH X.prog X.w (upd H1 p<|.lst h) h3 p (.lst h):=⟨lw,out.toList,OM,hw,by rw[ic];exact Qr⟩
   have I3:Inv X pins σ (upd H1 p<|.lst h) {s2 with heap:=h3,toks:=z,drawn:=d}:=
    Inv.call (s:=s2) (g':=s2.gens) (t':=z) (d':=d) (ch:=[]) y (Un.laid C l<|y.hok.fresh l) (y.hok.laid C l new) y.bare (λb hb=>by simp at hb)
   exact⟨.ref p,_,I3,rfl,q p h (y.hok.fresh l) u⟩
def Wf(hc:X.calm=true)(L:PE X e Y)(hg:Gl X "sorted")(hm:X.mg "sorted"=none)(I:Gl X "set")(F:X.mg "set"=none)
 (hs:X.se e [])(D:X.bk M [])
 (C:starEach [.Call (.Name "set" O) [e] [] M] X.env=(false,eval (.Call (.Name "set" O) [e] [] M) X.env)::starEach [] X.env)(m:X.bk N []):
   PE X (.Call (.Name "sorted" U) [.Call (.Name "set" O) [e] [] M] [] N) (λσ H Q=>Y σ H λx0 h=>∃x,[x0]=[x]/\∃l s j al ks,x=.ref l/\lH X.K h l s/\ja X.K al h s j/\lE j=some ks/\nG j=true/\j.length<64/\∀p V,h p=none->ja X.K al h V (kJ<|(dd ks).map kD)->Q (.ref p) (upd h p<|.lst V)):=by
  refine JD L hg hm I F (λpins s1 σ h x u Q T ru q1=>?_) hs D C m;obtain⟨l,s,j,al,ks,rfl,hl,rv,hk,hh,Ho,q⟩:=q1;obtain rfl:u=Value.ref l:=ru;obtain⟨c,Z,pl,hz⟩:=T.list hl;have ev:=vC rv hk;subst ev;have r:=CQ hk;obtain⟨sg,z⟩:=zq hh;have SA:j.length=ks.length:=by rw[<-r,aj]
  have lits:c.length=ks.length:=by have:=Z.length;rw[aj]at this;exact this.symm
  have sb:scanBound=4096:=rfl;refine MX (A:=X.A) (items:=c.toArray) (ks:=ks) (T.ok.hd hc) pl.isList (by simpa using Z) (by rw[aP];lia) λh' tk js SV y ext=>?_;obtain⟨o,es,ep,t,ho,J,P,el,hn,hf,tok,w,n⟩:=SV;have a:(qf es.toList).Perm (dd ks):=zS w (Dd ks) λx=>by rw[n x,y x,uo]
  have sl:=dc;have Cz:es.size<=c.length:=by simpa using hn
  refine KY hc (T.kept (t':=tk) λb o e=>ext b o (aM e) e) ⟨o,ho,J,P,hf⟩ tok (by lia) (Gd:=sv) (dv:=vD) (rv:=λv=>kV<|vK v) (sg:=sg) (λd P=>?_) (λi hp=>?_) (λi R=>⟨?_,?_⟩) (λ_ _ i R=>HN i R) q
  .obtain⟨k,G,rfl⟩:=aH.mp P;exact z _ (by rw[<-r];exact aH.mpr ⟨k,(uo k ks).mp G,rfl⟩)
  .have U:(i.map vK).Perm (dd ks):=by
    have:=hp.map vK;rw[bh]at this;exact this.trans a
   refine⟨λv hv=>?_,?_,?_⟩
   .obtain⟨e,L,rfl⟩:=aH.mp (hp.mem_iff.mp hv);exact(el e L).1
   .have:=U.map kD;rw[bh]at this;exact this
   .have:=U.length_eq;rw[aj]at this;have:=Iu ks
    lia
  .have:=Ls i R
   rwa [bh]at this
  .have:=z9 (K:=X.K) (al:=al) (H:=h) (i.map vK);rw[bh,bh]at this;exact this
def N4(J:X.calm=true)(G:Gl X "sorted")(C:X.mg "sorted"=none)(m:Gl X "set")(k:X.mg "set"=none)(I:DE X E e f)
 (y:autoParam (X.se e []) aZ0)(j:autoParam (X.bk M []) aZ0)
 (i:autoParam (starEach [.Call (.Name "set" O) [e] [] M] X.env=(false,eval (.Call (.Name "set" O) [e] [] M) X.env)::starEach [] X.env) aZ0)(c:autoParam (X.bk N []) aZ0):
   DN X E (.Call (.Name "sorted" U) [.Call (.Name "set" O) [e] [] M] [] N) (λρ=>(f ρ).bind oJ):=by
  obtain⟨t,p,r⟩:=I;refine⟨_,Wf J p G C m k y j i c,λ{_ _ al _ _ _ _} s h=>r s<|Aft.mono (Aft.split h) λ{_ n} P a v u=>⟨v,rfl,?_⟩⟩;unfold oJ at a;split at a
  .rename_i L;split at a
   .rename_i w F;split at a
    .rename_i z;obtain⟨l,q,rfl,D,d⟩:=u.oU;exact⟨l,q,L,al,w,rfl,D,d,F,z.1,z.2,λp o A x=>a n (.refl n) p o A x⟩
    .exact a.elim
   .exact a.elim
  .exact a.elim
def Uc:A9 X "list.extend" (λx o H Q=>∃l b i d,x=.ref l/\o=[.ref b]/\H l=some (.lst i)/\lH X.K H b d/\i.length+d.length<=sizeLine/\Q .non (upd H l<|.lst<|i++d)):=by
 intro t s σ H x o v P Q I y A h;obtain⟨l,b,i,d,rfl,rfl,w,L,V,q⟩:=h;cases y;obtain⟨u,rfl,C⟩:=A.one;cases C;obtain⟨z,j,n,r,Z,e⟩:=I.C6 w;obtain⟨a,p,D,F⟩:=I.list L;have J:=p.length;obtain⟨ob,c,m,R,k⟩:=D.isList;refine bE gq ⟨_,e,rfl⟩ PySem.F.entry_list_extend ?_ (PySem.F.args_list_extend_2 _ _);show wpAny _ _ (Builtin.List.listExtendWith (.ref l) (.ref b) .none) _ _ s;unfold Builtin.List.listExtendWith;refine ae (dW (T:="list") ⟨ob,c,m⟩ ?_);have G:(Value.type "list"==Value.type "list")=true:=by rfl
 rw[aq<|by rw[G];simp];refine ae (listItems_at c k ?_);refine ae (listItems_at e rfl ?_);rw[aA<|by rw[Ur<|by rw[aP,aP];simp_all,iw];exact av];refine ae (listUpdate_at e rfl ?_ (by rw[aP];simp_all) (by simp only[Array.size_append,aP];lia));refine ah ⟨_,rfl,?_⟩;refine⟨.non,_,I.C5 (its':=j++a) w e (by simp) (r.append p) ?_,rfl,q⟩;rw[ag];omega
def pD(i:Nat)(f:jx):jI:=λρ=>match ρ[i]? with
 |some (.ow c)=>toS (f ρ) λd=>(match d with
  |.lst a=>if c.length+a.length<=sizeLine then .nx (ρ.set i<|.ow<|c++a)else .bad
  |_=>.bad)
 |_=>.bad
def wR(i){c:Pos}(Q:DE X E e f)
 (hN:autoParam (X.N[i]?=some x) aZ0)(hv:autoParam (pT X.env.scope x) aZ4)(R:autoParam (lL x) aZ1)
 (w:autoParam ((x==("__classdict__":iS))=false) aZ1)
 (k:autoParam (attributeBase (.Name x nR) "extend" X.env (eval (.Name x nR) X.env)=eval (.Name x nR) X.env) aZ0)
 (n:autoParam (((backTo cpos (starEach [e] X.env)).all (λx=>!x.1)&&(backToKw cpos (keywordEach [] X.env)).all (λx=>x.1.isSome)
 &&decide ([e].length+([]:aa Keyword).length+(if([]:aa Keyword).isEmpty then 0 else 1)<30))=true) aZ0)
 (j:autoParam ((c.endLine==cpos.line)=true) aZ0)(A:autoParam (X.se e []) aZ0)(d:autoParam ((backTo cpos<|starEach [] X.env).any (·.1)=false) aZ0)
 (u:autoParam (swapsWith (.Call (.Attribute (.Name x nR) "extend" c) [e] [] cpos) none N.line X.env=pure false) aZ0):
   DS X E (.Expr (.Call (.Attribute (.Name x nR) "extend" c) [e] [] cpos) N) (pD i f):=by
  obtain⟨t,p,r⟩:=Q;refine⟨_,zY (Du du gq PySem.F.type_list_extend Uc (ux hN hv R w) (rO p rP A) k n j A d) u,λs h=>?_⟩;unfold pD at h;split at h
  .rename_i G q;obtain⟨a,y,F,D,C,e4,Z⟩:=s.ow i G q;refine⟨_,F,.inl ⟨rfl,y,.inl<|.inl D⟩,r s<|Aft.mono (k6.sU h s) λo l v P=>?_⟩;split at l
   .rename_i V;obtain⟨b,J,rfl,T,m⟩:=P.oU;by_cases z:G.length+V.length<=sizeLine
    .simp only[z,df]at l;obtain⟨L,I⟩:=(s.grow o).write q F ((C.up o).append m);exact⟨a,b,y,J,rfl,rfl,o.at' _ _ nc D,T,by rw[C.length,m.length];exact z,l _ _ _ I L⟩
    .simp only[z,cj]at l;exact l.elim
   .exact l.elim
  .exact h.elim
end P2
set_option maxHeartbeats 1000000
namespace P2
open PySem L2
def wg(f:jd):jd:=λρ S=>(f ρ S).bind λz a=>match z with
 |.d (.bl b)=>.ok (.d<|.bl<|!b) a
 |_=>.bad
def Ax(a b:jd):jd:=λρ S=>(a ρ S).bind λx h=>match x with
 |.d d=>(kR (tT d) h).bind λc f=>if c=true then .ok (.d d) f else b ρ f
 |_=>.bad
def wZ:Z->i6
 |.d .non=>true
 |_=>false
def v9(f:jd):jk->iZ->RX i6:=λρ S=>(f ρ S).bind λz a=>.ok (wZ z) a
def wa(f:jd):jk->iZ->RX i6:=λρ S=>(f ρ S).bind λz a=>.ok (!wZ z) a
variable{X:Cx}{E:XK}{b:Nat}{o k e a c:jf}{rest:kK}{fo B f C F:jd}{i J:Pos}
def LX(u:ZE X E a C):ZE X E (.UnaryOp .Not a i) (wg C):=by
 obtain⟨y,t,r⟩:=u;refine⟨_,Jz t,λs h=>r s<|iU.mono (iU.split h) λ{_ d l n _} p x w m v q=>?_⟩;split at m
 .rename_i b;have j:Rep X.K d n v (.bl b):=q;cases j;exact⟨b,rfl,m d l n p .refl .refl _<|show Rep X.K d n (.bl<|!b) (.bl<|!b)from .bl _⟩
 .exact m.elim
def abi(y:ZE X E a C)(x:ZE X E (.BoolOp .Or (c::rest) i) F):ZE X E (.BoolOp .Or (a::c::rest) i) (Ax C F):=by
 obtain⟨I,u,r⟩:=y;obtain⟨G,t,L⟩:=x;refine⟨_,JB u t,λs h=>r s<|iU.mono (iU.split h) λ{_ m j z _} n D A l v p=>?_⟩;split at l
 .rename_i d;obtain⟨k,w,q⟩:=xD p (iU.toAft n<|iU.split l);refine⟨k,w,?_⟩;cases k with
  |true=>rw[aq rfl]at q⊢;exact q m j z n .refl .refl v p
  |false=>grind
 .exact l.elim
def Ko{lo}(r:jS K al lo H v z):decide (v=.non)=wZ z:=by
 cases z with
 |loc n=>obtain⟨a,_,rfl⟩:=r;rfl
 |tk j=>obtain⟨a,_,_,rfl⟩:=r;rfl
 |d d=>have h:Rep K al H v d:=r;cases h<;>rfl
def EC(u:ZE X E a C)(t:autoParam (behindInMarks .Is (.Constant .none j p2)=false) aZ6):ZT X E (.Compare a [.Is] [.Constant .none j p2] i) (v9 C):=by obtain⟨z,r,q⟩:=u;refine⟨_,z5 UW r Dz t,λs h=>q s<|iU.mono (iU.split h) λ{_ l d w _} n y x m v p=>?_⟩;rw[<-Ko p]at m;exact⟨rfl,_,rfl,m l d w n .refl .refl⟩
def abS(u:ZE X E a C)(t:autoParam (behindInMarks .IsNot (.Constant .none j p2)=false) aZ6):ZT X E (.Compare a [.IsNot] [.Constant .none j p2] i) (wa C):=by obtain⟨z,r,q⟩:=u;refine⟨_,z5 Jp r Dz t,λs h=>q s<|iU.mono (iU.split h) λ{_ l d w _} n y x m v p=>?_⟩;rw[<-Ko p]at m;exact⟨rfl,_,rfl,m l d w n .refl .refl⟩
def uI:jd:=λ_ S=>.ok (.loc S.length) (S++[.dk []])
def Ey:ZE X E (.Dict [] [] i) uI:=by
 refine⟨_,V5,λ{_ al lo H _ _ S _} s h=>λp d=>?_⟩;have m:lQ X.K (λb=>al b/\b≠p) (kF lo S.length p) (upd H p<|.dK []) p (.dk []):=⟨[],j7,.nil⟩;have j:=s.new d Df m nofun;have l:kF lo S.length p S.length=some p:=by unfold kF;rw[aq rfl]
 exact h _ _ _ j (o5 d) (n6 s.st p) _ ⟨p,l,rfl⟩
def xO(fo B:jd):jd:=λρ S=>(fo ρ S).bind λz j=>match z with
 |.loc n=>(match j[n]? with
  |some (.dt _)=>(B ρ j).bind λy h=>(match y,h[n]? with
   |.tk k,some (.dt d)=>.ok ((valZ d k).getD (.d .non)) h
   |_,_=>.bad)
  |_=>.bad)
 |_=>.bad
def LS(hu:X.A.units+64<cLine)(U:ZE X E o fo)(V:ZE X E k B)(m:M1 X o "get" apos k i):ZE X E (.Call (.Attribute o "get" apos) [k] [] i) (xO fo B):=by
 obtain⟨to,R,O⟩:=U;obtain⟨tk,pk,P⟩:=V;refine⟨_,V3 (by lia) R pk m,λs h=>O s<|iU.mono (iU.split h) λz x1 y1 p v M=>?_⟩;split at p
 .rename_i n;split at p
  .rename_i T Q;obtain⟨a,D,rfl⟩:=M;obtain⟨r,g0,_⟩:=z.cell D Q;refine⟨a,rfl,.inr ⟨r,.inl g0⟩,P z<|iU.mono (iU.split p) λ{_ d l y _} t x2 I j u N=>?_⟩;split at j
   .rename_i A x q;obtain⟨c,ha,Y,rfl⟩:=N;obtain⟨L,Z,G⟩:=t.cell (I _ _ D) q;refine⟨lz L A,.t Z Y,?_⟩;cases e:valZ x A with
    |none=>rw[G.none e];rw[e]at j;exact j d l y t .refl .refl .non (show Rep X.K d y .non .non from .non)
    |some z0=>obtain⟨w,e1,e2⟩:=G.val e;rw[e1];rw[e]at j;exact j d l y t .refl .refl w e2
   .exact j.elim
  .exact p.elim
 .exact p.elim
def Nv{s}{a}{k}{u}{E}(I:Inv X pins σ H s)(e:H a=some (.dK kvs))(U:kvs.length<sizeLine)
 (y:RelV (kV k) u)(x:RelV z r)(R:∀v m j,lz kvs k=some v->Inv X pins σ H j->RelV v m->Q m j)(P:lz kvs k=none->∀j,Inv X pins σ (upd H a<|.dK<|putK kvs k z) j->Q r j):
   wpAny (model X.prog X.w) A (call (.builtin "dict.setdefault") [.ref a,u,r]) Q E s:=by
  obtain⟨t,p,n,h,dd⟩:=Gw I.hok e;have D:n.length<=sizeLine:=by rw[<-h.length];exact t
  have M:(putK kvs k z).length<=sizeLine:=by have:=C0 kvs k z;walk_at "l"
  refine eN fR dd.typeIs PySem.F.entry_dict_setdefault (PySem.F.args_dict_setdefault_3 _ _ _) (kt_meets_setdefault (jP X.prog X.w) a (oE y) p r) ⟨n,dd,D,λv hv=>?_,λN T l G=>?_⟩
  .have d:=h.val k;rw[hv]at d;cases q:lz kvs k with
   |none=>rw[q]at d;exact d.elim
   |some w=>rw[q]at d;exact R w v _ q (I.tok _) d
  .have d:=h.val k;rw[N]at d;cases q:lz kvs k with
   |some w=>rw[q]at d;exact d.elim
   |none=>have O:∃q,T.get? a=some q:=let⟨q,_,_,L,_⟩:=l;⟨q,L⟩;exact P q _ (BI I (by rw[e];exact True.intro) G O<|Gu M p (h.put k x) l)
def ZP(m ty l:TE):TE:=λσ H Q=>m σ H λx j=>∃a,x=.ref a/\ya j a/\ty σ j λy n=>l σ n λz h=>∃d k,h a=some (.dK d)/\d.length<sizeLine/\y=kV k/\
 (∀v,lz d k=some v->Q v h)/\(lz d k=none->Q z (upd h a<|.dK<|putK d k z))
def V7{f}(V:PE X o td)(Z:PE X e ty)(hf:PE X f tx)(m:M2 X o "setdefault" apos e f cpos):PE X (.Call (.Attribute o "setdefault" apos) [e,f] [] cpos) (ZP td ty tx):=by intro j s σ H Q I h;refine gg m.base m.few m.line dr fR PySem.F.type_dict_setdefault (je (V j s σ H _ I h) λu L n=>?_);obtain⟨x,H1,t,N,a,ex,d,T⟩:=n;subst ex;obtain rfl:u=Value.ref a:=N;obtain⟨A,w,_⟩:=zr t d;refine⟨A,w,?_⟩;rw[m.trees];refine ck rfl (dR<|cF<|je (Z j L σ H1 _ t T) λiv G n=>?_);obtain⟨y,H2,I2,M,R⟩:=n;refine cF (je (hf j G σ H2 _ I2 R) λfv s3 n=>?_);obtain⟨z,H3,I3,r,U,k,ea,Y,ey,P,O⟩:=n;refine dJ ?_;subst ey;exact Nv I3 ea Y M r (λv w' D l q p=>⟨v,H3,q,p,P v l⟩) λl D q=>⟨z,_,q,r,O l⟩
def tp(fo B f:jd):jd:=λρ S=>(fo ρ S).bind λz l=>match z with
 |.loc n=>(match l[n]? with
  |some (.dk _)=>(B ρ l).bind λy m=>(f ρ m).bind λx j=>(match y,j[n]? with
   |.d d,some (.dk h)=>(match ml d with
    |some k=>if h.length<sizeLine then(match valZ h k with
     |some z=>.ok z j
     |none=>.ok x (j.set n (.dk (jL h k x))))else .bad
    |none=>.bad)
   |_,_=>.bad)
  |_=>.bad)
 |_=>.bad
def LV{g}(ho:ZE X E o fo)(hk:ZE X E k B)(hg:ZE X E g fg)(m:M2 X o "setdefault" apos k g i):ZE X E (.Call (.Attribute o "setdefault" apos) [k,g] [] i) (tp fo B fg):=by
 obtain⟨to,po,ro⟩:=ho;obtain⟨tk,pk,rk⟩:=hk;obtain⟨tg,pg,rg⟩:=hg;refine⟨_,V7 po pk pg m,λs h=>ro s<|iU.mono (iU.split h) λ{z _ _ _ _} T x1 y1 A v rv=>?_⟩;split at A
 .rename_i n;split at A
  .rename_i kv0 q0;obtain⟨a,U,rfl⟩:=rv;obtain⟨I,g0,_⟩:=T.cell U q0;refine⟨a,rfl,.inl ⟨I,.inl g0⟩,rk T<|iU.mono (iU.split A) λ{_ P _ H2 _} s2 x2 y2 h2 u ru=>rg s2<|iU.mono (iU.split h2) λ{x t N Q _} G x3 y3 j w y=>?_⟩;split at j
   .rename_i d l q;split at j
    .rename_i p ek;split at j
     .rename_i hl;have r:=y3 _ _ (y2 _ _ U);obtain⟨L,g1,D⟩:=G.cell r q;have M:Rep X.K P H2 u d:=ru;refine⟨L,p,g1,by rw[D.length];exact hl,w8 M ek,λv' hv=>?_,λhv=>?_⟩
      .cases e:valZ l p with
       |none=>rw[D.none e]at hv;cases hv
       |some Z=>obtain⟨w0,O,Y⟩:=D.val e;rw[O]at hv;cases hv;rw[e]at j;exact j t N Q G .refl .refl _ Y
      .cases e:valZ l p with
       |some Z=>obtain⟨w0,O,Y⟩:=D.val e;rw[O]at hv;cases hv
       |none=>rw[e]at j;have xx:Xt t Q t (upd Q a (.dK (putK L p w))):=λb o _ V eb=>⟨V,by rw[jw λz=>G.st.na n a r (by rw[<-z];exact V)];exact eb⟩;obtain⟨s4,R⟩:=G.write r (o:=.dK (putK L p w)) (c:=.dk (jL l p x)) Df (λq w=>by unfold lG at w;cases w) ⟨_,j7,j4.mv xx .refl (D.put p y)⟩ nofun;exact j _ _ _ s4 R .refl w (jS.mv R .refl y)
     .exact j.elim
    .exact j.elim
   .exact j.elim
  .exact A.elim
 .exact A.elim
end P2
namespace P2
open PySem
namespace yr
def G:Nat->Nat
 |0=>0
 |n+1=>5*G n+1
theorem zW:∀n,5^n=4*G n+1
 |0=>rfl
 |n+1=>by rw[dh,zW n];show _=4*(5*G n+1)+1;lia
theorem EH:∀n,G n%2=n%2
 |0=>rfl
 |n+1=>by have:=EH n;show(5*G n+1)%2=_;lia
theorem AI(a):∀b,G (a+b)=G a+5^a*G b
 |0=>by show G a=G a+5^a*0;simp
 |b+1=>by
  show 5*G (a+b)+1=G a+5^a*(5*G b+1);rw[AI a b,zW a,ix,ix,iI];have e:(4*G a+1)*(5*G b)=5*((4*G a+1)*G b):=by rw[Nat.mul_left_comm]
  rw[e]
  lia
def BG{k}(h:c%2=1):Nat.Coprime (2^k) c:=by apply Nat.Coprime.pow_left;show Nat.gcd 2 c=1;rw[Nat.gcd_rec,h];rfl
theorem EG:∀k b,2^k∣G b->2^k∣b
 |0,b,_=>by rw[Nat.pow_zero];exact Nat.one_dvd b
 |k+1,b,h=>by
  have j:2∣G b:=Nat.dvd_trans ⟨2^k,by rw[dh,gZ]⟩ h;have l:=EH b;have a:b=b/2+b/2:=by have:G b%2=0:=Nat.mod_eq_zero_of_dvd j;lia
  generalize b/2=c at a;subst a;rw[AI,zW]at h;have e:G c+(4*G c+1)*G c=2*(G c*(2*G c+1)):=by
   rw[iy,Nat.one_mul,ix,ix,iI,gs,Nat.mul_left_comm (G c) 2<|G c]
   lia
  rw[e,dh,gZ (2^k) 2]at h;have i:2^k∣G c*(2*G c+1):=Nat.dvd_of_mul_dvd_mul_left (by decide) h;have f:=EG k c (fj (BG<|by simp) i);obtain⟨d,rfl⟩:=f;exact⟨d,by rw[dh];rw[<-Nat.two_mul,gZ (2^k) 2,gs]⟩
def stp(N i:Nat):Nat:=(i*5+1)%N
def qp(N:Nat):Nat->Nat->Nat
 |0,x=>x
 |n+1,x=>stp N (qp N n x)
theorem Af(a:x<N):∀d,qp N d x=(x+G d*(4*x+1))%N
 |0=>by show x=(x+0*_)%N;rw[Nat.zero_mul,Nat.add_zero,Nat.mod_eq_of_lt a]
 |d+1=>by
  show(qp N d x*5+1)%N=(x+(5*G d+1)*(4*x+1))%N;rw[Af a d,Nat.add_mod,Nat.mul_mod,Nat.mod_mod,<-Nat.mul_mod,<-Nat.add_mod]
  congr 1
  rw[iy,iy,gs 5,Nat.one_mul]
  lia
def Y9{k}(c:x<2^k)(h:a<b)(m:b<2^k):qp (2^k) a x≠qp (2^k) b x:=λe=>by
 rw[Af c,Af c]at e;obtain⟨d,rfl⟩:∃d,b=a+d:=⟨b - a,by lia⟩;rw[AI]at e;have f:2^k∣(x+(G a+5^a*G d)*(4*x+1)) - (x+G a*(4*x+1)):=Nat.dvd_of_mod_eq_zero (Nat.sub_mod_eq_zero_of_mod_eq e.symm);have l:(x+(G a+5^a*G d)*(4*x+1)) - (x+G a*(4*x+1))=5^a*G d*(4*x+1):=by rw[iy];omega
 rw[l]at f;have j:2^k∣5^a*G d:=fj (BG<|by lia) f;have i:2^k∣G d:=Nat.Coprime.dvd_of_dvd_mul_left (BG<|by rw[zW];lia) j;have n:=Nat.le_of_dvd (by simp_all) (EG k d i)
 lia
theorem zI:∀{l m:lC},l.Nodup->(∀x∈l,x∈m)->l.length<=m.length
 |[],m,_,_=>bI _
 |a::l,m,h,s=>by
  obtain⟨i,f⟩:=bA.mp h;have d:=s a (.head _);have:=zI (l:=l) (m:=m.erase a) f λx c=>(List.mem_erase_of_ne (λe=>i (by rw[<-e];exact c))).mpr (s x (.tail _ c));rw[List.length_erase_of_mem d]at this;have:=List.length_pos_of_mem d;rw[au]
  lia
def Dc(n):(List.range n).Nodup:=List.nodup_range
def Y8{k}(c:x<2^k)(j:e<2^k):∃d,d<2^k/\qp (2^k) d x=e:=by
 have nd:((List.range<|2^k).map λd=>qp (2^k) d x).Nodup:=by refine gj _ (R:=λa b=>a<b/\b<2^k) (λa b h=>Y9 c h.1 h.2) ?_;refine ez (λ{a b} l f h=>⟨h,bS.mp f⟩) eX
 have lt:∀d,qp (2^k) d x<2^k:=λd=>by rw[Af c];exact eD _ (Nat.two_pow_pos k)
 by_cases h:e∈(List.range<|2^k).map λd=>qp (2^k) d x;.simp_all
 .exfalso;have:=zI (m:=(List.range<|2^k).erase e) nd λy i=>by grind
  grind
def l6(a:Nat):Nat->Nat×Nat->Nat×Nat
 |0,q=>q
 |n+1,q=>SetTable.leap a (l6 a n q).1 (l6 a n q).2
theorem Ip(mask q):∀n,(l6 mask n q).2=q.2/32^n
 |0=>by show q.2=q.2/1;rw[Nat.div_one]
 |n+1=>by show(l6 mask n q).2/32=_;rw[Ip mask q n,Nat.div_div_eq_div_mul,dh]
def SD(mask q):∀n,(l6 mask (n+1) q).1<mask+1:=λn=>eD _ (dX _)
theorem Io(a:q.2<2^64):∀d,(l6 mask (13+d) q).1=qp (mask+1) d (l6 mask 13 q).1
 |0=>rfl
 |d+1=>by
  show(SetTable.leap mask (l6 mask (13+d) q).1 (l6 mask (13+d) q).2).1=stp (mask+1) (qp (mask+1) d (l6 mask 13 q).1);have z:(l6 mask (13+d) q).2=0:=by
   rw[Ip,Nat.div_eq_of_lt]
   grind
  rw[Io a d,z];rfl
def Iq{k}(a:mask+1=2^k)(c:q.2<2^64)(h:e<=mask):∃m,13<=m/\m<=13+mask/\(l6 mask m q).1=e:=by obtain⟨d,i,f⟩:=Y8 (k:=k) (x:=(l6 mask 13 q).1) (e:=e) (by rw[<-a];exact SD mask q 12) (by lia);exact⟨13+d,by simp,by lia,by rw[Io c,a];exact f⟩
open SetTable
def jK(t:lr):Nat->Probe->Probe
 |0,p=>p
 |n+1,p=>jK t n (t.advance p)
theorem rq(t):∀a b p,jK t (a+b) p=jK t b (jK t a p)
 |0,b,p=>by rw[Nat.zero_add];rfl
 |a+1,b,p=>by rw[Nat.succ_add];exact rq t a b (t.advance p)
def Mu(t n p):jK t (n+1) p=t.advance (jK t n p):=rq t n 1 p
def blk(a:Nat)(q:Nat×Nat)(d:i0 Nat):Probe:={j:=q.1,more:=runEnd a q.1 - q.1,i:=q.1,perturb:=q.2,dummy:=d}
def D2(mask i):runEnd mask i - i<=9:=by unfold runEnd;split<;>simp
def D1{a}(h:i<=a):runEnd a i<=a:=by unfold runEnd;split<;>omega
def Kv(mask i):i<=runEnd mask i:=by unfold runEnd;split<;>simp
theorem Bj(t):∀k (p:Probe),k<=p.more->jK t k p={p with j:=p.j+k,more:=p.more - k}
 |0,p,_=>rfl
 |k+1,p,h=>by
  have a:p.more>0:=by lia
  show jK t k (t.advance p)=_;have e:t.advance p={p with j:=p.j+1,more:=p.more - 1}:=by unfold advance;rw[aq a]
  rw[e,Bj t k _<|by show k<=p.more - 1;lia];show({p with j:=p.j+1+k,more:=p.more - 1 - k}:Probe)=_;rw[show p.j+1+k=p.j+(k+1)by lia,show p.more - 1 - k=p.more - (k+1)by lia]
def yE(t)(p):jK t (p.more+1) p=blk t.mask (leap t.mask p.i p.perturb) p.dummy:=by rw[Mu,Bj t p.more p<|af _];unfold advance;rw[aA<|by show¬p.more - p.more>0;simp];rfl
theorem Fu(t):∀m q d,∃n,n<=10*m/\jK t n (blk t.mask q d)=blk t.mask (l6 t.mask m q) d
 |0,q,d=>⟨0,af _,rfl⟩
 |m+1,q,d=>by
  obtain⟨n,c,a⟩:=Fu t m q d;have:=D2 t.mask (l6 t.mask m q).1;refine⟨n+((blk t.mask (l6 t.mask m q) d).more+1),?_,?_⟩;.show n+(runEnd t.mask (l6 t.mask m q).1 - (l6 t.mask m q).1+1)<=_;lia
  .rw[rq,a,yE];rfl
def Ft{t}{k}(c:t.mask+1=2^k)(a:p.perturb<2^64)(j:p.more<=9)(f:e<=t.mask):∃n,n<10*turns t.mask/\(jK t n p).j=e:=by have d:(leap t.mask p.i p.perturb).2<2^64:=b7 (Nat.div_le_self _ _) a;obtain⟨m,q,o,i⟩:=Iq c d f;obtain⟨n,l,h⟩:=Fu t m (leap t.mask p.i p.perturb) p.dummy;refine⟨p.more+1+n,by unfold turns;lia,?_⟩;rw[rq,yE,h];exact i
structure pe(t:lr)(p:Probe):Prop where
 b:p.perturb<2^64
 r:p.more<=9
 j:p.j+p.more<=t.mask
 d:p.dummy=none
def JQ(t)(h):pe t (t.probeStart h) where
 b:=by unfold probeStart;show SetTable.bits h<2^64;unfold SetTable.bits;lia
 r:=by unfold probeStart;exact D2 _ _
 j:=by unfold probeStart;show SetTable.bits h%(t.mask+1)+(runEnd t.mask (SetTable.bits h%(t.mask+1)) - SetTable.bits h%(t.mask+1))<=t.mask;have f:SetTable.bits h%(t.mask+1)<t.mask+1:=eD _ (dX _);have c:=D1 (show SetTable.bits h%(t.mask+1)<=t.mask by walk_at "l");have a:=Kv t.mask (SetTable.bits h%(t.mask+1));simp_all
 d:=by unfold probeStart;rfl
def pe.Mt{t}(h:pe t p):pe t (t.advance p):=by
 obtain⟨a,d,f,c⟩:=h;unfold advance;by_cases w:p.more>0
 .rw[aq w];exact⟨a,by show p.more - 1<=9;lia,by show p.j+1+(p.more - 1)<=t.mask;lia,c⟩
 .rw[aA w];refine⟨b7 (Nat.div_le_self _ _) a,D2 _ _,?_,c⟩;show(leap t.mask p.i p.perturb).1+(runEnd t.mask (leap t.mask p.i p.perturb).1 - (leap t.mask p.i p.perturb).1)<=t.mask;have a:(leap t.mask p.i p.perturb).1<t.mask+1:=eD _ (dX _);have d:=D1 (show(leap t.mask p.i p.perturb).1<=t.mask by walk_at "l")
  lia
theorem pe.jK{t}:∀n {p},pe t p->pe t (jK t n p)
 |0,_,h=>h
 |n+1,_,h=>pe.jK n h.Mt
theorem tO{t a:lr}(h:t.mask=a.mask):∀n p,jK t n p=jK a n p
 |0,_=>rfl
 |n+1,p=>by
  show jK t n (t.advance p)=jK a n (a.advance p);have:t.advance p=a.advance p:=by unfold advance;rw[h]
  rw[this];exact tO h n _
def vS{t a:lr}(h:t.mask=a.mask)(x:Int):t.probeStart x=a.probeStart x:=by unfold probeStart;rw[h]
def slot_mem{t:lr}(c:mz t.place)(h:j∈t.place.toList):∃i,t.slot j=.live i/\t.place[i]?=some j:=by
 obtain⟨o,n,f⟩:=yJ c j;obtain⟨m,d,e⟩:=bL h;have a:m<t.place.size:=by simpa using d
 have k:t.place[m]=j:=by simpa using e
 have l:below t.place j=m:=by
  rcases eU (below t.place j) m with q|q|q
  .have:=f _ (by lia) (af<|below t.place j);have:=c.lt q a
   lia
  .exact q
  .grind
 refine⟨m,?_,by rw[aO a,k]⟩;unfold slot;simp_all
def YW{t:lr}(a:t.dummies=#[])(h:j∉t.place.toList):t.slot j=.empty:=by
 unfold slot;rw[aA,a];.rfl
 .grind
def wu(t:lr)(h:Int)(j:Nat):Prop:=∃m,(jK t m<|t.probeStart h).j=j/\∀a,a<m->(jK t a<|t.probeStart h).j∈t.place.toList
structure Tab(t:lr)(es:uX):Prop where
 k:∃k,3<=k/\t.mask+1=2^k
 ql:mz t.place
 le:∀j∈t.place.toList,j<=t.mask
 pw:t.dummies=#[]
 sz:t.place.size=es.length
 fl:es.length<=t.mask
 reach:∀j e,(j,e)∈List.zip t.place.toList es->wu t e.1 j
variable{t:lr}{v:uX}
def Tab.odd(a:Tab t v):t.gaveWay=false:=by
 obtain⟨k,c,h⟩:=a.k;obtain⟨j,rfl⟩:∃j,k=j+1:=⟨k - 1,by lia⟩;unfold gaveWay
 lia
def Tab.m7(a:Tab t v):7<=t.mask:=by
 obtain⟨k,c,h⟩:=a.k;have:2^3<=2^k:=iz (by decide) c
 lia
def Tab.fits(a:Tab t v):t.fits v.length=true:=by unfold SetTable.fits fill;rw[a.pw,a.sz];have:=a.fl;simp_all
def Tab.room(a:Tab t v):∃e,e<=t.mask/\e∉t.place.toList:=by
 refine bW λw=>?_;have:=zI (m:=t.place.toList) (Dc<|t.mask+1) λx c=>bW λy=>w ⟨x,by have:=bS.mp c;walk_at "l",y⟩;rw[fm,aF,a.sz]at this;have:=a.fl
 lia
theorem Hl(j:Tab t v)(f:Nat->Int)(h:Int):∀a (p:Probe),p.dummy=none->(∃n,n<a/\(jK t n p).j∉t.place.toList)->
 ∃m,m<a/\(∀c,c<m->∃i,t.place[i]?=some (jK t c p).j/\f i≠h)/\(((jK t m p).j∉t.place.toList/\probe.go t f h a p=some (.empty (jK t m p).j none))\/∃i,t.place[i]?=some (jK t m p).j/\t.slot (jK t m p).j=.live i/\f i=h/\probe.go t f h a p=some (.candidate (jK t m p).j i (jK t (m+1) p)))
 |0,p,_,⟨n,q,_⟩=>absurd q (cS _)
 |a+1,p,o,⟨n,q,r⟩=>by
  by_cases d:p.j∈t.place.toList
  .obtain⟨i,l,s⟩:=slot_mem j.ql d;by_cases hf:f i=h
   .refine⟨0,dX _,λc w=>absurd w<|cS _,.inr ⟨i,s,l,hf,?_⟩⟩;unfold probe.go;rw[l];simp[hf];exact⟨rfl,rfl⟩
   .have u:(t.advance p).dummy=none:=by unfold advance;split<;>exact o
    obtain⟨k,rfl⟩:∃k,n=k+1:=⟨n - 1,by cases n with|zero=>exact absurd d r|succ n=>rfl⟩;obtain⟨m,A,y,x⟩:=Hl j f h a (t.advance p) u ⟨k,by walk_at "l",r⟩;have z:probe.go t f h (a+1) p=probe.go t f h a (t.advance p):=by rw[probe.go];rw[l];simp[hf]
    refine⟨m+1,by walk_at "l",λc w=>?_,?_⟩
    .cases c with
     |zero=>exact⟨i,s,hf⟩
     |succ c=>exact y c (by walk_at "l")
    .rw[z];exact x
  .refine⟨0,dX _,λc w=>absurd w<|cS _,.inl ⟨d,?_⟩⟩;unfold probe.go;rw[YW j.pw d];simp[o];rfl
def WD(a:Tab t v)(f:Nat->Int)(h:Int)(c:pe t p):
    ∃m,(∀d,d<m->∃i,t.place[i]?=some (jK t d p).j/\f i≠h)/\(((jK t m p).j∉t.place.toList/\t.probe f h p=some (.empty (jK t m p).j none))\/∃i,t.place[i]?=some (jK t m p).j/\t.slot (jK t m p).j=.live i/\f i=h/\t.probe f h p=some (.candidate (jK t m p).j i (jK t (m+1) p))):=by
 obtain⟨e,r,q⟩:=a.room;obtain⟨k,_,j⟩:=a.k;obtain⟨n,o,l⟩:=Ft j c.b c.r r;obtain⟨m,w,u,s⟩:=Hl a f h (10*turns t.mask) p c.d ⟨n,o,by rw[l];exact q⟩;exact⟨m,u,s⟩
def CI{c:Type}(a:jZ c)(p:Nat)(x:c):(insertAt a p x).toList=a.toList.take p++x::a.toList.drop p:=by unfold insertAt;simp[il];exact eV (by rw[cY,aF];exact af _)
def insertAt_perm{a:Type}(c:jZ a)(p:Nat)(x:a):(insertAt c p x).toList.Perm (x::c.toList):=by rw[CI];refine List.perm_middle.trans ?_;simp
def aby{f d:Type}(a:aa f)(b:aa d)(x y p)(h:a.length=b.length)(q)(c:q∈List.zip (a.take p++x::a.drop p) (b.take p++y::b.drop p)):q=(x,y)\/q∈List.zip a b:=by
 rw[List.zip_append<|by rw[cX,cX,h],f6]at c;rcases aY.mp c with c|c
 .rw[List.zip_eq_zipWith,<-List.take_zipWith]at c;exact .inr (List.mem_of_mem_take c)
 .rcases aI.mp c with c|c;.exact .inl c
  .rw[List.zip_eq_zipWith,<-List.drop_zipWith]at c;exact .inr (List.mem_of_mem_drop c)
def Tab.put{k:rj}(a:Tab t k.toList)(hf:k.size+1<=t.mask){h:Int}(s:j∉t.place.toList)(r:j<=t.mask)(q:wu t h j):
    Tab (t.put j).1 (insertAt k (t.put j).2 (h,x)).toList/\(t.put j).1.mask=t.mask/\(t.put j).1.led=t.led/\(t.put j).1.moves=t.moves:=by
 have A:has t.dummies j=false:=by rw[a.pw];rfl
 have i:(t.put j).1.place=insertAt t.place (below t.place j) j:=rfl;have f:(t.put j).1.mask=t.mask:=rfl;have sub:∀y,y∈t.place.toList->y∈(t.put j).1.place.toList:=λy d=>by rw[i];exact(insertAt_perm _ _ _).mem_iff.mpr (.tail _ d)
 have l:∀{o n},wu t o n->wu (t.put j).1 o n:=λ⟨m,z,u⟩=>⟨m,by rw[tO f,vS f];exact z,λp w=>by rw[tO f,vS f];exact sub _ (u p w)⟩;refine⟨⟨a.k,?_,?_,?_,?_,?_,?_⟩,f,rfl,rfl⟩
 .rw[i];refine Kr a.ql λw=>s (ia.mpr<|Array.mem_of_getElem? w)
 .intro y d;rcases aI.mp ((insertAt_perm _ _ _).mem_iff.mp d)with rfl|d;.exact r
  .exact a.le y d
 .show(if has t.dummies j=true then _ else t.dummies)=#[];rw[A,aA<|by decide];exact a.pw
 .rw[i,<-aF,(insertAt_perm _ _ _).length_eq,(insertAt_perm _ _ _).length_eq,au,au,aF,a.sz]
 .rw[(insertAt_perm _ _ _).length_eq,au,aF];exact hf
 .intro y e c;rw[i,CI,CI]at c;rcases aby _ _ _ _ _ (by rw[aF,a.sz]) _ c with c|c;.cases c;exact l q
  .exact l (a.reach y e c)
def Tab.off(a:Tab t v)(b:i6):Tab {t with plain:=b} v where
 k:=a.k
 ql:=a.ql
 le:=a.le
 pw:=a.pw
 sz:=a.sz
 fl:=a.fl
 reach:=λj e f=>by obtain⟨m,i,h⟩:=a.reach j e f;have c:({t with plain:=b}:lr).mask=t.mask:=rfl;exact⟨m,by rw[tO c,vS c];exact i,λd w=>by rw[tO c,vS c];exact h d w⟩
def aaf(f m l):Tab (.fresh f m l) [] where
 k:=⟨3,af _,rfl⟩
 ql:=by unfold mz;exact .nil
 le:=λj h=>by cases h
 pw:=rfl
 sz:=rfl
 fl:=bI _
 reach:=λj e h=>by cases h
theorem JE:∀{d c:lC},d.Nodup->c.Nodup->(∀x,x∈d↔x∈c)->d.Perm c
 |[],c,_,_,h=>by
  cases c with
  |nil=>exact .refl _
  |cons y r=>exact absurd ((h y).mpr (.head _)) (by simp)
 |a::l,c,m,f,h=>by
  have n:=(h a).mp (.head _);obtain⟨k,j⟩:=bA.mp m;refine(List.Perm.cons a<|JE j (f.erase a) λx=>?_).trans (iu n).symm;rw[f.mem_erase_iff];constructor
  .intro i;exact⟨λe=>k<|by rw[<-e];exact i,(h x).mp (.tail _ i)⟩
  .rintro ⟨p,o⟩
   rcases aI.mp ((h x).mpr o)with e|e;.exact absurd e p
   .exact e
theorem Ir(mask q):∀n,l6 mask (n+1) q=l6 mask n (leap mask q.1 q.2)
 |0=>rfl
 |n+1=>by show leap mask (l6 mask (n+1) q).1 (l6 mask (n+1) q).2=_;rw[Ir mask q n];rfl
abbrev uQ(owner:jZ<|i0 Nat)(j:Nat):Prop:=((owner.getD j<|some 0).isNone)=false
def GX:∀{n},(∀k,(List.range n).find? p=some k->k<n/\p k=true/\∀a,a<k->p a=false)/\((List.range n).find? p=none->∀k,k<n->p k=false)
 |n=>by
  constructor
  .intro k h;rw[List.find?_range_eq_some]at h;refine⟨bS.mp h.2.1,h.1,λa w=>?_⟩;have:=h.2.2 a w;simpa using this
  .intro h k c;have:=List.find?_eq_none.mp h k (bS.mpr c);simpa using this
theorem G9(T:lr)(owner):∀a (q:Nat×Nat),q.1<=T.mask->(∃m,m<a/\¬uQ owner (l6 T.mask m q).1)->
 ∃j n,layClean.free T.mask owner a q.1 q.2=some j/\(jK T n<|blk T.mask q none).j=j/\j<=T.mask/\¬uQ owner j/\∀c,c<n->uQ owner (jK T c<|blk T.mask q none).j
 |0,q,_,⟨m,o,_⟩=>absurd o (cS _)
 |a+1,q,p,⟨m,o,i⟩=>by
  have G:=D1 p;have I:=Kv T.mask q.1;have d:∀k,k<=runEnd T.mask q.1 - q.1->(jK T k<|blk T.mask q none).j=q.1+k:=λk s=>by rw[Bj T k (blk T.mask q none) s];rfl
  unfold layClean.free;cases hf:(List.range<|runEnd T.mask q.1+1 - q.1).find? λk=>(owner.getD (q.1+k)<|some 0).isNone with
  |some k=>obtain⟨l,x,u⟩:=GX.1 k hf;refine⟨q.1+k,k,rfl,d k (by grind),by grind,by unfold uQ;rw[x];decide,λc w=>?_⟩;rw[d c<|by grind];exact u c w
  |none=>
   have l:=GX.2 hf;have r:m≠0:=λe=>by subst e;exact i (l 0<|by omega)
   obtain⟨h,rfl⟩:∃h,m=h+1:=⟨m - 1,by lia⟩;rw[Ir]at i;obtain⟨j,n,F,D,C,A,y⟩:=G9 T owner a (leap T.mask q.1 q.2) (by have:(leap T.mask q.1 q.2).1<T.mask+1:=eD _ (dX _);walk_at "l") ⟨h,by walk_at "l",i⟩;refine⟨j,(blk T.mask q none).more+1+n,F,?_,C,A,λc w=>?_⟩;.rw[rq,yE];exact D
   .by_cases z:c<=(blk T.mask q none).more
    .rw[d c z];exact l c (by have:(blk T.mask q none).more=runEnd T.mask q.1 - q.1:=rfl;grind)
    .obtain⟨f,rfl⟩:∃f,c=(blk T.mask q none).more+1+f:=⟨c - ((blk T.mask q none).more+1),by grind⟩;rw[rq,yE];exact y f (by simp_all)
structure rf(T:lr)(hs:lJ)(owner:jZ<|i0 Nat)(pl:lC):Prop where
 len:pl.length=hs.length
 sz:owner.size=T.mask+1
 own:∀(j k:Nat),owner[j]?=some (some k)↔pl[k]?=some j
 le:∀j∈pl,j<=T.mask
 nd:pl.Nodup
 reach:∀(k:Nat) (h:Int) (j:Nat),hs[k]?=some h->pl[k]?=some j->∃m,(jK T m<|T.probeStart h).j=j/\∀m',m'<m->(jK T m'<|T.probeStart h).j∈pl
def rf.xo{c}(L:rf T hs owner c)(l:j<=T.mask):uQ owner j↔j∈c:=by
 have a:j<owner.size:=by rw[L.sz];walk_at "l"
 have e:owner.getD j (some 0)=owner[j]:=by simp[Array.getD,a]
 unfold uQ;rw[e];constructor
 .intro h;cases q:owner[j]with
  |none=>rw[q]at h;cases h
  |some k=>exact a9 ((L.own j k).mp (by rw[aO a,q]))
 .intro h;obtain⟨k,d,f⟩:=bL h;have:=(L.own j k).mpr (by rw[ax d,f]);rw[aO a]at this;have i:owner[j]=some k:=Option.some.inj this;rw[i];rfl
def rf.step{T:lr}{k}(Q:T.mask+1=2^k){c}(L:rf T hs owner c)(h:Int)(hl:hs.length<=T.mask):
    ∃j,layClean.free T.mask owner (turns T.mask) (SetTable.bits h%(T.mask+1)) (SetTable.bits h)=some j/\rf T (hs++[h]) (owner.setIfInBounds j<|some hs.length) (c++[j]):=by
 have C:SetTable.bits h<2^64:=by unfold SetTable.bits;lia
 have P:SetTable.bits h%(T.mask+1)<=T.mask:=Nat.le_of_lt_succ (eD (SetTable.bits h)<|dX T.mask);obtain⟨e,p,A⟩:∃e,e<=T.mask/\e∉c:=by
  refine bW λw=>?_;have:=zI (m:=c) (Dc<|T.mask+1) λx O=>bW λy=>w ⟨x,by have:=bS.mp O;walk_at "l",y⟩;rw[fm,L.len]at this
  lia
 obtain⟨m,V,U,D⟩:=Iq Q (q:=(SetTable.bits h%(T.mask+1),SetTable.bits h)) C p;obtain⟨j,n,g1,J,I,Z,G⟩:=G9 T owner (turns T.mask) (SetTable.bits h%(T.mask+1),SetTable.bits h) P ⟨m,by unfold turns;lia,by rw[D];exact λz=>A ((L.xo p).mp z)⟩;have F:j∉c:=λz=>Z ((L.xo I).mpr z);have eb:blk T.mask (SetTable.bits h%(T.mask+1),SetTable.bits h) none=T.probeStart h:=rfl;rw[eb]at J G;refine⟨j,g1,⟨?_,?_,?_,?_,?_,?_⟩⟩;.rw[ag,ag,L.len];rfl
 .rw[Array.size_setIfInBounds];exact L.sz
 .intro i d;have u:j<owner.size:=by rw[L.sz];walk_at "l"
  by_cases w:j=i
  .subst w;rw[Array.getElem?_setIfInBounds_self_of_lt u];constructor
   .intro z;cases z;rw[<-L.len,aK<|af _];simp
   .intro z;by_cases y:d<c.length
    .rw[aw y]at z;exact absurd (a9 z) F
    .have:d=c.length:=by
      have:=(az.mp z).1;rw[ag,bY]at this
      lia
     rw[this,L.len]
  .rw[cB w,L.own i d];constructor
   .intro z;rw[aw (az.mp z).1];exact z
   .intro z;by_cases y:d<c.length;.rw[aw y]at z;exact z
    .rw[aK<|by simp_all]at z;have:d - c.length=0:=by
      have:=(az.mp z).1;rw[bY]at this
      lia
     rw[this]at z;simp at z;exact absurd z w
 .intro i o;rcases aY.mp o with o|o;.exact L.le i o
  .rw[aQ.mp o];exact I
 .exact eY.mpr ⟨L.nd,by simp,λa R b C e=>F<|by rw[<-aQ.mp C,<-e];exact R⟩
 .intro d Y i r f;by_cases y:d<c.length
  .rw[aw y]at f;rw[aw (by rw[<-L.len];exact y)]at r;obtain⟨m,N,M⟩:=L.reach d Y i r f;exact⟨m,N,λs w=>b8 _<|M s w⟩
  .have l:d=c.length:=by
    have:=(az.mp f).1;rw[ag,bY]at this
    lia
   rw[l,aK<|af _]at f;rw[l,L.len,aK<|af _]at r;simp at r f;subst r;subst f;refine⟨n,J,λs w=>b8 _<|(L.xo ?_).mp (G s w)⟩;have:=(pe.jK s<|JQ T h).j;walk_at "l"
theorem Im{T:lr}{k}(m:T.mask+1=2^k):∀(more c:lJ) owner pl,rf T c owner pl->c.length+more.length<=T.mask->
 ∃a d,more.foldl (λ(f:i0 (jZ (i0 Nat)×Nat)) h=>do
  let(owner,k)<-f
  let j<-layClean.free T.mask owner (turns T.mask) (SetTable.bits h%(T.mask+1)) (SetTable.bits h)
  pure (owner.setIfInBounds j (some k),k+1)) (some (owner,c.length))=some (a,(c++more).length)/\rf T (c++more) a d
 |[],c,owner,pl,L,_=>⟨owner,pl,by rw[aU];rfl,by rw[aU];exact L⟩
 |h::more,c,owner,pl,L,p=>by
  rw[au]at p;obtain⟨j,r,q⟩:=L.step m h (by walk_at "l");obtain⟨o,n,l,i⟩:=Im m more (c++[h]) _ _ q (by rw[ag,bY];lia);refine⟨o,n,?_,?_⟩
  .rw[aT,hY]at l;rw[<-l,eA]
   congr 1
   show(layClean.free T.mask owner (turns T.mask) (SetTable.bits h%(T.mask+1))<|SetTable.bits h).bind _=_;rw[r,ag,bY];rfl
  .rw[aT,hY]at i;exact i
def Sy{T:lr}{k}(o:T.mask+1=2^k)(c:jZ Int)(n:c.size<=T.mask):∃a i,layClean T.mask c=some a/\rf T c.toList a i:=by
 have p:rf T [] (Array.replicate (T.mask+1) none) []:=by refine⟨rfl,by simp,λj k=>?_,λj h=>(by cases h),List.Pairwise.nil,λk h j e=>(by simp at e)⟩;rw[Array.getElem?_replicate];split<;>simp
 obtain⟨m,l,d,f⟩:=Im o c.toList [] _ _ p (by simpa using n);refine⟨m,l,?_,f⟩;unfold layClean;rw[<-Array.foldl_toList];rw[cy]at d;rw[d];rfl
def KJ(n)(l:n<10^6):∃k,3<=k/\sizeAbove n=2^k/\n<sizeAbove n/\sizeAbove n<=2*n+8:=by
 have m:∀(a size k:Nat),size=2^k->3<=k->(size<=2*n+8)->n<size*2^a->∃h,3<=h/\sizeAbove.go n a size=2^h/\n<sizeAbove.go n a size/\sizeAbove.go n a size<=2*n+8:=by
  intro a;induction a with
  |zero=>intro size k c f d i;exact⟨k,f,c,by show n<size;simp_all,d⟩
  |succ a j=>
   intro size k c f d i;unfold sizeAbove.go;by_cases w:size<=n
   .rw[aq w];refine j (size*2) (k+1) (by rw[c,dh]) (by walk_at "l") (by lia) ?_;rw[gs,gZ 2,<-dh];exact i
   .rw[aA w];exact⟨k,f,c,by walk_at "l",d⟩
 exact m 64 8 3 rfl (af _) (by simp) (aE l<|by decide)
def Yg(t:lr)(c:rj)(n)(hn:n<10^6)(hl:4*c.size<=n):
    ∃G f,t.relaid (c.map (·.1)) n=some (G,f)/\(f.filterMap (c[·]?)).toList.Perm c.toList/\Tab G (f.filterMap (c[·]?)).toList/\G.led=t.led/\G.plain=t.plain/\n<=G.mask/\G.mask<=2*n+7:=by
 obtain⟨k,h3,hk,C,hu⟩:=KJ n hn;obtain⟨T,hT⟩:∃T:lr,T={t with mask:=sizeAbove n - 1}:=⟨_,rfl⟩;have D:T.mask=sizeAbove n - 1:=by rw[hT]
 have M:T.mask+1=2^k:=by rw[D,<-hk];lia
 obtain⟨u,P,e,L⟩:=Sy M (c.map (·.1)) (by rw[Array.size_map,D];lia);have y:P.length=c.size:=by rw[L.len];simp
 unfold relaid laid;rw[<-D,e];generalize p:(List.range<|T.mask+1).filterMap (λj=>(u.getD j none).map (j, ·))=live;have o:∀j i,(j,i)∈live↔P[i]?=some j:=λj i=>by
  rw[<-p,aZ,<-L.own j i];constructor
  .rintro ⟨a,ha,e⟩
   obtain⟨b,C,e2⟩:=ay.mp e;obtain⟨rfl,rfl⟩:=Prod.mk.inj e2;have d:a<u.size:=by rw[L.sz];exact bS.mp ha
   rw[aO d];simp[Array.getD,d]at C;rw[C]
  .intro z;have d:=(bw.mp z).1;refine⟨j,bS.mpr<|by rw[<-L.sz];exact d,?_⟩;rw[aO d]at z;have z':=Option.some.inj z;simp[Array.getD,d,z']
 have I:live.Pairwise λa b=>a.1<b.1:=by rw[<-p];refine List.Pairwise.filterMap (R:=λa b=>a<b) (S:=λ(a b:Nat×Nat)=>a.1<b.1) _ ?_ eX;intro a a' h b C b' Z;obtain⟨_,_,N⟩:=ay.mp C;obtain⟨_,_,e2⟩:=ay.mp Z;subst N;subst e2;exact h
 have Q:(live.map (·.2)).Nodup:=by refine gj _ (R:=λa b=>a.2≠b.2) (λ_ _ h=>h) ?_;refine ez (λ{a b} ha C h w=>?_) I;have s:=(o a.1 a.2).mp ha;have h2:=(o b.1 b.2).mp C;rw[w,h2]at s;have:=Option.some.inj s;simp_all
 have p2:(live.map (·.2)).Perm (List.range c.size):=JE Q (Dc _) λx=>by
  rw[aH,bS];constructor
  .rintro ⟨⟨j,i⟩,s,rfl⟩
   have:=(az.mp<|(o j i).mp s).1;rw[y]at this;exact this
  .intro h;exact⟨(P[x]'(by rw[y];exact h),x),(o _ _).mpr (ax _),rfl⟩
 have F:((live.map (·.2)).toArray.filterMap (c[·]?)).toList=live.map λq=>c.getD q.2 (0,.none):=by
  rw[Array.toList_filterMap,List.filterMap_map];have go:∀l:aa (Nat×Nat),(∀q∈l,q.2<c.size)->l.filterMap ((λx=>c[x]?)∘λx=>x.2)=l.map λq=>c.getD q.2 (0,.none):=by
   intro l;induction l with
   |nil=>intro _;rfl
   |cons q r ih=>
    intro h;have d:=h q (.head _);have N:((λx=>c[x]?)∘λ(x:Nat×Nat)=>x.2) q=some (c.getD q.2 (0,.none)):=by show c[q.2]?=_;rw[aO d];simp[Array.getD,d]
    rw[gu N,ih λx hx=>h x<|.tail _ hx,aD]
  exact go live λq hq=>bS.mp (p2.mem_iff.mp<|aH.mpr ⟨q,hq,rfl⟩)
 have A:((live.map (·.2)).toArray.filterMap (c[·]?)).toList.Perm c.toList:=by
  rw[F];have s:=p2.map λi=>c.getD i (0,.none);rw[bh]at s;refine s.trans ?_;have:(List.range c.size).map (λi=>c.getD i (0,.none))=c.toList:=by
   apply gF;.simp
   .intro i s h2;have:i<c.size:=by simpa using s
    simp[Array.getD,this]
  rw[this]
 have L4:=L.len;refine⟨{mask:=T.mask,place:=(live.map (·.1)).toArray,dummies:=#[],finger:=t.finger,led:=t.led,moves:=t.movedTo T.mask,plain:=t.plain},(live.map (·.2)).toArray,by rw[<-p];rfl,A,⟨⟨k,h3,M⟩,?_,?_,rfl,?_,?_,?_⟩,rfl,rfl,by show n<=T.mask;grind,by show T.mask<=_;simp_all⟩
 .show mz (live.map (·.1)).toArray;unfold mz;rw[fS];exact gj _ (λ_ _ h=>h) I
 .intro j hj;have Y:j∈live.map (·.1):=by simpa using hj
  obtain⟨⟨a,i⟩,s,rfl⟩:=aH.mp Y;exact L.le _ (a9<|(o a i).mp s)
 .rw[F];simp
 .rw[A.length_eq,aF];show c.size<=T.mask
  lia
 .intro j e hz;rw[F]at hz;have J:(j,e)∈List.zip (live.map (·.1)) (live.map λq=>c.getD q.2 (0,.none)):=by simpa using hz
  rw[List.zip_map',aH]at J;obtain⟨⟨a,i⟩,s,N⟩:=J;cases N;have hp:=(o a i).mp s;have hi:i<c.size:=by rw[<-y];exact(az.mp hp).1
  obtain⟨m,r1,r2⟩:=L.reach i (c.getD i (0,.none)).1 a (by simp[Array.getD,hi]) hp;have O:T.mask=(({mask:=T.mask,place:=(live.map (·.1)).toArray,dummies:=#[],finger:=t.finger,led:=t.led,moves:=t.movedTo T.mask,plain:=t.plain}:lr)).mask:=rfl;refine⟨m,by rw[<-tO O,<-vS O];exact r1,λm' w=>?_⟩;rw[<-tO O,<-vS O];obtain⟨k',V,U⟩:=bL (r2 m' w);show _∈(live.map (·.1)).toArray.toList;rw[fS];exact aH.mpr ⟨(_,k'),(o _ _).mpr (by rw[ax V,U]),rfl⟩
end yr
open L2 PySem.Spec PySem.Calls PySem.W yr
open PyProof.Rows hiding St K
def tK(h:jb):iT->aa Key
 |.ref b=>match h.get? b with
  |some o=>match o.data with
   |.seq items _=>items.toList.map vK
   |_=>[]
  |none=>[]
 |_=>[]
variable{prog:jE}{w:jz}{A:jY}{E:j0}{s:i7}
abbrev mK(P:jE)(w:jz)(h:jb)(ks:oo)(b:iR):Prop:=IsTupleKey (jP P w) h ks b
abbrev ly(P:jE)(w:jz)(ks:oo):Int:=tupleKeyHash (jP P w) ks
def CK{k}(h:(jP prog w).is k v=true):RelV (kV k) v:=by
 have a:qb k v=true:=h;cases k with
 |inl i=>
  cases v with
  |int j t=>
   have e:j=i:=by simpa [qb,Value.isInt]using a
   exact⟨t,by rw[e]⟩
  |_=>exact absurd a (by simp[qb,Value.isInt])
 |inr x=>
  cases v with
  |str y t=>
   have e:y=x:=by simpa [qb,Value.isStrOf]using a
   exact⟨t,by rw[e]⟩
  |_=>exact absurd a (by simp[qb,Value.isStrOf])
def RK(h:ItemsAre (jP prog w) ks vs):vs.map vK=ks:=by
 induction h with
 |nil=>rfl
 |cons c _ a=>rw[aD,a,Al<|CK c]
def mK.tK(x:mK prog w h ks b):tK h (.ref b)=ks:=by obtain⟨o,a,n,c,_,f,d⟩:=x;unfold P2.tK;dsimp only;rw[c];dsimp only;rw[f];exact RK d
def TK(P:jE)(w:jz)(h:jb)(v:iT):Prop:=∃b,v=.ref b/\mK P w h (tK h v) b
def mK.at'{h':jb}(x:mK prog w h ks b)(e:∀o,h.get? b=some o->h'.get? b=some o):mK prog w h' ks b:=by obtain⟨o,a,n,c,r⟩:=x;exact⟨o,a,n,e o c,r⟩
def mK.ne{o t}(x:mK prog w h ks b)(j:h.get? a=some o)(k:o.data=.set es ep t):b≠a:=by
 obtain⟨i,c,n,d,_,f,_⟩:=x
 lia
def qx(P:jE)(w:jz)(h:jb)(a:uX):Prop:=∀e∈a,TK P w h e.2/\e.1=ly P w (tK h e.2)
def mG(h:jb)(a:uX):aa (aa Key):=a.map λe=>tK h e.2
abbrev _root_.yz:=aa (aa Key)
def nV(P:jE)(w:jz)(M:wy)(h:jb)(a:iR)(d:yz)(n:Nat):Prop:=
 ∃o c f t,h.get? a=some o/\o.ExactSet/\o.data=.set c f t/\qx P w h c.toList/\(∀e∈c.toList,M e.2)/\c.size<=n/\Tab t c.toList/\c.size*5<t.mask*3/\t.mask<=8100/\t.led=!(w.params.followText "set-order")/\(mG h c.toList).Nodup/\∀k,k∈mG h c.toList↔k∈d
def qx.at'{h':jb}(x:qx prog w h es)(k:∀e∈es,∀b o,e.2=.ref b->h.get? b=some o->h'.get? b=some o):qx prog w h' es/\mG h' es=mG h es:=by
 have eq:∀e∈es,TK prog w h' e.2/\tK h' e.2=tK h e.2:=λe a=>by
  obtain⟨⟨b,d,tk⟩,_⟩:=x e a;have c:=tk.at' (λo i=>k e a b o d i);have f:tK h' e.2=tK h e.2:=by rw[d]at c⊢;exact c.tK
  exact⟨⟨b,d,by rw[f];exact c⟩,f⟩
 refine⟨λe a=>⟨(eq e a).1,by rw[(eq e a).2];exact(x e a).2⟩,?_⟩;unfold mG;exact dj λe a=>(eq e a).2
def nV.keep{h':jb}{n}(x:nV prog w M h a kL n)(k:∀b o,h.get? b=some o->(∀c m,o.data=.seq c m->o.cls=.type "tuple"->True)->(b=a\/∃c m,o.data=.seq c m/\o.cls=.type "tuple")->h'.get? b=some o):nV prog w M h' a kL n:=by
 obtain⟨o,I,J,t,z,f,F,j,v,u,r,q,p,l,nd,d⟩:=x;obtain⟨G,i⟩:=j.at' (h':=h') λe C b ob Q P=>by obtain⟨⟨R,L,tk⟩,_⟩:=j e C;obtain⟨N,c,m,y,O,D,_⟩:=tk;simp_all
 exact⟨o,I,J,t,k a o z (λ_ _ _ _=>True.intro)<|.inl rfl,f,F,G,v,u,r,q,p,l,by rw[i];exact nd,by rw[i];exact d⟩
def Ng(n)(h:carriedByValue v=true):ofAClassStatement n v=pure false:=by
 cases v with
 |ref a=>simp[carriedByValue]at h
 |_=>first|rfl|simp[ofAClassStatement]|(unfold ofAClassStatement;rfl)
def LH{Q:sF}(j:mK prog w s.heap ks b)(h:Q false s):wpAny (model prog w) A (ofAClassStatement 8<|.ref b) Q E s:=by
 have hT:=j.typeIs;obtain⟨o,d,n,k,_,m,l⟩:=j;unfold ofAClassStatement;refine ae (dW hT ?_);dsimp only;rw[aq<|by decide];refine ae (ah ?_);refine ae (fh k m ?_);dsimp only;refine ae ?_;rw[<-Array.forIn_toList];refine gM _ (λrest r c=>r.1=none/\c=s/\∀v∈rest,carriedByValue v=true) _ ?_ ?_ _ _ ⟨rfl,rfl,l.byValue⟩
 .rintro v rest r c ⟨i,rfl,a⟩
  rw[Ng _<|a v bT];refine ae (ah ?_);exact ah ⟨rfl,rfl,λu f=>a u<|bo _ f⟩
 .rintro ⟨q,p⟩ c ⟨i,rfl,_⟩
  simp only at i;subst i;exact ah h
def aaK{Q:sF}(j:mK prog w s.heap ks b)(l:∀y∈ys,TK prog w s.heap y)(h:Q false s):wpAny (model prog w) A (searchCouldBeSeen (.ref b) ys) Q E s:=by
 unfold searchCouldBeSeen;refine ae ?_;refine gM _ (λrest r d=>r.1=none/\d=s/\∀y∈rest,TK prog w s.heap y) _ ?_ ?_ _ _ ⟨rfl,rfl,l⟩
 .rintro y rest r d ⟨i,rfl,a⟩
  obtain⟨c,rfl,k⟩:=a y bT;dsimp only;refine aX (λ_=>ah ⟨rfl,rfl,λu f=>a u<|bo _ f⟩) (λ_=>?_);refine ae (wpAny_eqIsQuiet_tuple j ?_);refine ae (wpAny_eqIsQuiet_tuple k ?_);simp only[Bool.not_true,cI,cj];refine ae (LH j ?_);refine ae (LH k ?_);simp only[cI,cj];exact ah ⟨rfl,rfl,λu f=>a u<|bo _ f⟩
 .rintro ⟨n,m⟩ d ⟨i,rfl,_⟩
  simp only at i;subst i;exact ah h
def aaJ{Q:sF}(j:mK prog w s.heap ks b)(h:∀r,Q r s):wpAny (model prog w) A (hashByValue 8<|.ref b) Q E s:=by
 have hT:=j.typeIs;obtain⟨o,d,n,k,_,m,l⟩:=j;unfold hashByValue;refine ae (g9 hT PySem.F.slot_tuple_hash.lookup ?_);dsimp only;refine ae (fh k m ?_);refine ae ?_;rw[<-Array.forIn_toList];refine gM _ (λrest r c=>r.1=none/\c=s/\∃a,ItemsAre (jP prog w) a rest) _ ?_ ?_ _ _ ⟨rfl,rfl,ks,l⟩
 .rintro v rest r c ⟨f,rfl,a,i⟩
  cases i with
  |cons q p=>
   rw[hashByValue_scannable _<|D4<|CK q];refine ae (ah ?_);cases plainKind v with
   |true=>exact ah ⟨rfl,rfl,_,p⟩
   |false=>exact ah (ah<|h false)
 .rintro ⟨u,t⟩ c ⟨f,rfl,_⟩
  simp only at f;subst f;exact ah (h true)
def RF(h:Q true s):wpAny (model prog w) A (isSame (.ref b)<|.ref b) Q E s:=by unfold isSame;dsimp only;refine aX (λ_=>ah h) (λa=>absurd (gz b) a)
def BL{c:rj}(d:qx prog w h c.toList){i:Nat}(a:c[i]?=some e):TK prog w h e.2/\e.1=ly prog w (tK h e.2):=
 d e (by rw[<-bg]at a;exact a9 a)
def Sf{c:rj}{i:Nat}(a:c[i]?=some e):tK h e.2∈mG h c.toList:=by unfold mG;rw[<-bg]at a;exact aH.mpr ⟨e,a9 a,rfl⟩
def abx{t:lr}{d:rj}{i:Nat}(c:t.place[i]?=some j)(a:d[i]?=some e):(j,e)∈List.zip t.place.toList d.toList:=by rw[<-bg]at c a;exact a9 (i:=i) (by rw[List.getElem?_zip_eq_some];exact⟨c,a⟩)
def YA{d:oo}{o:lj}{t:lr}{Q:SetFound->i7->Prop}(hx:mK prog w s.heap d b)(hu:A.units<cLine)(ho:s.heap.get? a=some o)(hd:o.data=.set es ep t)(el:qx prog w s.heap es.toList)(D:Tab t es.toList)(hm:t.mask<=8100)
 (hin:d∈mG s.heap es.toList->Q (.there none) s)(N:∀j,j∉t.place.toList->j<=t.mask->wu t (ly prog w d) j->d∉mG s.heap es.toList->Q (.free j false) s):
   wpAny (model prog w) A (setSearch a (.ref b) (ly prog w d) true) Q E s:=by
  have hf:t.fits es.size=true:=by have:=D.fits;rw[aF]at this;exact this
  have M:t.place.size=es.size:=by rw[D.sz,aF]
  obtain⟨em,Z,Y⟩:=D.room;obtain⟨kk,_,QE⟩:=D.k;have F:=JQ t (ly prog w d);obtain⟨C,PD,PH⟩:=Ft QE F.b F.r Z;have Hq:(jK t C<|t.probeStart<|ly prog w d).j∉t.place.toList:=by rw[PH];exact Y
  have go:∀(f c:Nat) (r:i0 SetTable.Probe),r.getD (t.probeStart<|ly prog w d)=jK t c (t.probeStart<|ly prog w d)->c<=C->C - c<f->
   (∀m,m<c->∃(i:Nat) (e:Int×iT),t.place[i]?=some (jK t m<|t.probeStart<|ly prog w d).j/\es[i]?=some e/\tK s.heap e.2≠d)->wpAny (model prog w) A (setSearchFrom a (.ref b) (ly prog w d) true f r) Q E s:=by
   intro f;induction f with
   |zero=>intro c st _ _ h;exact absurd h (cS _)
   |succ f ih=>
    intro c r hs hc hfu old;obtain⟨m,g1,g2⟩:=WD D (λi=>(es[i]?.map (·.1)).getD 0) (ly prog w d) (pe.jK c F);have xo:∀k,k<m->∃(i:Nat) (e:Int×iT),t.place[i]?=some (jK t (c+k)<|t.probeStart<|ly prog w d).j/\es[i]?=some e/\tK s.heap e.2≠d:=λk R=>by
     obtain⟨i,I,h2⟩:=g1 k R;rw[<-rq]at I;have P:i<es.size:=by rw[<-M];exact(bw.mp I).1
     have x:=aO P;refine⟨i,es[i],I,x,λz=>h2 ?_⟩;rw[x];show es[i].1=_;rw[(BL el x).2,z]
    have u:∀k,k<c+m->∃(i:Nat) (e:Int×iT),t.place[i]?=some (jK t k<|t.probeStart<|ly prog w d).j/\es[i]?=some e/\tK s.heap e.2≠d:=λk R=>by
     by_cases z:k<c;.exact old k z
     .obtain⟨m2,rfl⟩:∃m2,k=c+m2:=⟨k - c,by simp_all⟩;exact xo m2 (by simp_all)
    have T:∀k,(∃(i:Nat) (e:Int×iT),t.place[i]?=some (jK t k<|t.probeStart<|ly prog w d).j/\es[i]?=some e/\tK s.heap e.2≠d)->(jK t k<|t.probeStart<|ly prog w d).j∈t.place.toList:=λk ⟨i,e,I,_⟩=>by rw[<-bg]at I;exact a9 I
    have hcm:c+m<=C:=Nat.le_of_not_lt λz=>Hq (T C<|u C z);rw[<-rq,<-rq,<-hs]at g2;unfold setSearchFrom;refine ae (bO ho hd hf ?_);dsimp only;refine aX (λwX=>absurd wX (by rw[D.odd];decide)) (λ_=>?_);rcases g2 with⟨J,g4⟩|⟨i,J,g4,g5,g6⟩
    .split
     .rename_i met l;have e:=g4.symm.trans l;cases e;dsimp only;refine ah (N _ J (by have:=(pe.jK (c+m) F).j;walk_at "l") ⟨c+m,rfl,λk R=>T k (u k R)⟩ λhk=>?_);unfold mG at hk;obtain⟨e,x,ek⟩:=aH.mp hk;obtain⟨i,P,ei⟩:=bL x;have Qx:i<es.size:=by simpa using P
      have V:i<t.place.size:=by rw[M];exact Qx
      have O:es[i]?=some e:=by rw[<-bg,ax P,ei]
      have U:t.place[i]?=some t.place[i]:=aO V;obtain⟨m1,r1,r2⟩:=D.reach _ _ (abx U O);have eh:e.1=ly prog w d:=by rw[(BL el O).2,ek]
      rw[eh]at r1 r2;rcases eU m1 (c+m)with q|q|q
      .obtain⟨v,e',I,h2,h3⟩:=u m1 q;rw[r1]at I;have:v=i:=by
        have Qy:=(bw.mp I);obtain⟨l1,l2⟩:=Qy;rcases eU v i with q2|q2|q2;.have:=D.ql.lt q2 V;lia
        .exact q2
        .have:=D.ql.lt q2 l1;lia
       subst this;rw[O]at h2;cases h2;exact h3 ek
      .subst q;exact J (by rw[r1,<-bg]at*;exact a9 U)
      .exact J (r2 _ q)
     .rename_i l;exact(l _ g4).elim
    .split
     .rename_i met l;have e:=g6.symm.trans l;cases e;dsimp only;have P:i<es.size:=by rw[<-M];exact(bw.mp J).1
      have x:es[i]?=some es[i]:=aO P;obtain⟨⟨y,ey,hy⟩,_⟩:=BL el x
      have rest:wpAny (model prog w) A (do
       let n<-holding [es[i].2] (eqBool es[i].2 (.ref b))
       let(es',_,t')<-setState a
       if true&&n then return .there none
       let some D9:=t'.sameMemory t.moves t.mask|unsupported "set.changed-during-lookup:is-the-new-block-at-the-old-address"
       let p<-match(if D9 then t'.slot (jK t (c+m)<|t.probeStart<|ly prog w d).j else .empty)with
        |.live v=>match es'[v]? with
         |some (_,y')=>do pure (if<-isSame y' es[i].2 then some v else none)
         |none=>pure none
        |_=>pure none
       match p with
       |none=>rule "set.search.anew";setSearchFrom a (.ref b) (ly prog w d) true f none
       |some v=>if n then return .there (some v)else setSearchFrom a (.ref b) (ly prog w d) true f (some (jK t (c+(m+1)) (t.probeStart (ly prog w d))))) Q E s:=by
       rw[ey]at hy⊢;refine ae (bH<|wpAny_eqBool_tuple hu hy hx ?_);refine ae (bO ho hd hf ?_);dsimp only;by_cases G:tK s.heap (.ref y)=d
       .rw[aR G];refine aX (λ_=>ah<|hin ?_) (λz=>absurd rfl z);have:=Sf (h:=s.heap) x;rw[ey,G]at this;exact this
       .rw[aG G];refine aX (λz=>absurd z<|by decide) (λ_=>?_);have sm:t.sameMemory t.moves t.mask=some true:=by unfold SetTable.sameMemory;simp
        rw[sm];dsimp only;rw[aq rfl,g4];dsimp only;rw[x];dsimp only;rw[ey];refine ae (RF<|ae<|ah ?_);rw[aq rfl];dsimp only;refine aX (λz=>absurd z<|by decide) (λ_=>?_);have Cy:c+(m+1)<=C:=by
         rcases fU (c+m) C with q|q;.walk_at "l"
         .have:c+m=C:=by lia
          rw[this]at J;rw[<-bg]at J;exact absurd (a9 J) Hq
        refine ih (c+(m+1)) _ rfl Cy (by grind) λk R=>?_;rcases fU k (c+m)with q|q;.exact u k q
        .have:k=c+m:=by lia
         subst this;exact⟨i,es[i],J,x,by rw[ey];exact G⟩
      have L:wpAny (model prog w) A (do
       let some (_,y):=es[i]?|unsupported "internal:set-entry"
       let n<-holding [y] (eqBool y<|.ref b)
       let(es',_,t')<-setState a
       if true&&n then return .there none
       let some D9:=t'.sameMemory t.moves t.mask|unsupported "set.changed-during-lookup:is-the-new-block-at-the-old-address"
       let p<-match(if D9 then t'.slot (jK t (c+m)<|t.probeStart<|ly prog w d).j else .empty)with
        |.live v=>match es'[v]? with
         |some (_,y')=>do pure (if<-isSame y' y then some v else none)
         |none=>pure none
        |_=>pure none
       match p with
       |none=>rule "set.search.anew";setSearchFrom a (.ref b) (ly prog w d) true f none
       |some v=>if n then return .there (some v)else setSearchFrom a (.ref b) (ly prog w d) true f (some (jK t (c+(m+1)) (t.probeStart (ly prog w d))))) Q E s:=by
       rw[x];exact rest
      refine aX (λ_=>?_) (λ_=>L);refine ae (aaK hx (λy' hy'=>?_) ?_)
      .obtain⟨e,Hu,rfl⟩:=aH.mp hy';have:e∈es.toList:=by
        rw[Array.toList_filter]at Hu;exact(bF.mp Hu).1
       exact(el e this).1
      .refine aX (λz=>absurd z<|by decide) (λ_=>L)
     .rename_i l;exact(l _ g6).elim
  unfold setSearch;refine go 100000 0 none rfl (bI _) ?_ λm h=>absurd h (cS _);unfold SetTable.turns at PD
  lia
def GH{h:jb}{o}(i:h.get? a=some o)(k:o.data=.set es0 ep t0)(d:qx prog w h es)(f:Heap.SameBut a h h'):qx prog w h' es/\mG h' es=mG h es:=
 d.at' λe j b ob m l=>by obtain⟨⟨n,c,tk⟩,_⟩:=d e j;rw[m]at c;cases c;rw[f.2 b<|tk.ne i k];exact l
def Yh{o t n}{Q:uZ}(j:s.heap.get? a=some o)(m:o.data=.set es ep t)(hf:t.fits es.size=true)(l:n<10^6)(r:4*es.size<=n)
 (h:∀(c:rj) t',c.toList.Perm es.toList->Tab t' c.toList->t'.led=t.led->n<=t'.mask->t'.mask<=2*n+7->Q () {s with heap:=s.heap.update a<|Obj.putSet c t'}):
   wpAny (model prog w) A (setRelay a n) Q E s:=by
  obtain⟨k,_,y,z,x⟩:=KJ n l;obtain⟨t',d,e,i,p,v,C,u,q⟩:=Yg t es n l r;unfold setRelay;refine ae (bO j m hf ?_);dsimp only;refine aX (λf=>absurd f (by rw[dc];lia)) (λ_=>?_);rw[e];have sz:(d.filterMap (es[·]?)).size=es.size:=by rw[<-aF,i.length_eq,aF]
  refine ae ?_
  show wpAny _ _ (do
   let c:=d.filterMap (es[·]?)
   if c.size !=es.size then unsupported "internal:set-table-lost-an-element"
   pure (c,t')) _ _ s
  dsimp only;refine aX (λf=>absurd f<|by rw[sz];simp) (λ_=>ah ?_);dsimp only;refine eZ j m (h _ t' i p v u q) (by rw[sz,dc];lia)
def Mq{M:wy}{n}{Q:sF}(hx:mK prog w s.heap ks b)(hu:A.units<cLine)(hM:M<|.ref b)(hS:nV prog w M s.heap a kL n)(hroom:n+1<=1000)
 (h:∀r h',Heap.SameBut a s.heap h'->nV prog w M h' a (ks::kL) (n+1)->Q r {s with heap:=h'}):
   wpAny (model prog w) A (setAddHashed a (.ref b)<|ly prog w ks) Q E s:=by
  obtain⟨o,v,ep,t,P,hex,F,el,hin,hn,tb,Y,f,q,uu,m⟩:=hS;have hf:t.fits v.size=true:=by have:=tb.fits;rw[aF]at this;exact this
  have m7:=tb.m7;unfold setAddHashed setAddHashedIn;refine bH (ae<|bO P F hf ?_);dsimp only;refine aX (λwX=>absurd wX<|by unfold byScan;simp[Value.scannable]) (λ_=>?_);refine ae (YA hx hu P F el tb f (λhk=>?_) λj hj hl hr hk=>?_)
  .dsimp only;refine ah ?_;have e:s={s with heap:=s.heap}:=by cases s;rfl
   have:=h false s.heap (Heap.SameBut.refl a s.heap) ⟨o,v,ep,t,P,hex,F,el,hin,by walk_at "l",tb,Y,f,q,uu,λN=>by rw[m N,aI];exact⟨.inr,λz=>z.elim (λz=>by rw[z];exact(m ks).mp hk) id⟩⟩
   rw[e];exact this
  .dsimp only;refine ae (bO P F hf ?_);dsimp only;obtain⟨i,em,G,_⟩:=tb.put (x:=.ref b) (by lia) hj hl hr;generalize ach:t.put j=pt at i em G⊢;obtain⟨t1,p⟩:=pt;dsimp only at i em G⊢;have k:=insertAt_perm v p (ly prog w ks,Value.ref b);generalize aca:SetTable.insertAt v p (ly prog w ks,Value.ref b)=mE at i k⊢;have U:mE.size=v.size+1:=by rw[<-aF,k.length_eq,au,aF]
   have GI:qx prog w s.heap mE.toList:=λe u=>by
    rcases aI.mp (k.mem_iff.mp u)with rfl|u;.exact⟨⟨b,rfl,by rw[hx.tK];exact hx⟩,by rw[hx.tK]⟩
    .exact el e u
   have R:∀e∈mE.toList,M e.2:=λe u=>by
    rcases aI.mp (k.mem_iff.mp u)with rfl|u;.exact hM
    .exact hin e u
   have kp:(mG s.heap mE.toList).Perm (ks::mG s.heap v.toList):=by have:=k.map λe=>tK s.heap e.2;rw[aD,hx.tK]at this;exact this
   have J:(mG s.heap mE.toList).Nodup:=kp.nodup_iff.mpr (bA.mpr ⟨hk,uu⟩);have L:∀N,N∈mG s.heap mE.toList↔N∈ks::kL:=λN=>by rw[kp.mem_iff,aI,aI,m N]
   have I:∀(c:lr),Tab c mE.toList->c.mask=t.mask->c.led=t.led->wpAny (model prog w) A (do
    storeSet a mE c
    if(!false&&c.tooFull)=true then setRelay a (SetTable.grown<|v.size+1)
    return true) Q E s:=λc y OI GF=>by
    refine ae (eZ P F ?_ (by rw[U,dc];lia));have V:(s.heap.update a<|Obj.putSet mE c).get? a=some {o with data:=.set mE (ep+1) c}:=by have:=bf (Obj.putSet mE c) P (by rw[fI mE c F];rfl);rw[fI mE c F]at this;exact this
    have l:=bD s.heap a (Obj.putSet mE c);obtain⟨OF,ka⟩:=GH P F GI l;have Qu:c.fill=v.size+1:=by unfold SetTable.fill;rw[y.pw,y.sz,aF,U];rfl
    have fin:∀(D:¬(c.tooFull=true)),nV prog w M (s.heap.update a<|Obj.putSet mE c) a (ks::kL) (n+1):=λD=>by refine⟨_,mE,_,c,V,hex,rfl,OF,R,by simp_all,y,?_,by rw[OI];exact f,by rw[GF];exact q,by rw[ka];exact J,by rw[ka];exact L⟩;unfold SetTable.tooFull at D;rw[Qu]at D;rw[U];simp at D;omega
    by_cases Z:c.tooFull=true
    .rw[Z];simp only[Bool.not_false,Bool.and_true,df];have g4:SetTable.grown (v.size+1)=4*(v.size+1):=by
      unfold SetTable.grown;rw[aA<|by lia];lia
     rw[g4];refine ae (Yh (s:={s with heap:=s.heap.update a<|Obj.putSet mE c}) V rfl (by have:=y.fits;rw[aF]at this;exact this) (by lia) (by simp_all) λd T C tb3 OE hm3 hm4=>ah ?_);have CB:((s.heap.update a<|Obj.putSet mE c).update a (Obj.putSet d T)).get? a=some {o with data:=.set d (ep+1+1) T}:=by have:=bf (Obj.putSet d T) V (by rw[fI d T rfl];rfl);rw[fI d T rfl]at this;exact this
     have O:=l.trans (bD (s.heap.update a<|Obj.putSet mE c) a<|Obj.putSet d T);have OH:qx prog w s.heap d.toList:=λe u=>GI e (C.mem_iff.mp u);obtain⟨OG,kb⟩:=GH P F OH O;have Ic:(mG s.heap d.toList).Perm (mG s.heap mE.toList):=C.map _;have sz2:d.size=mE.size:=by rw[<-aF,C.length_eq,aF]
     exact h true _ O ⟨_,d,_,T,CB,hex,rfl,OG,λe u=>R e<|C.mem_iff.mp u,by simp_all,tb3,by lia,by lia,by rw[OE,GF];exact q,by rw[kb];exact Ic.nodup_iff.mpr J,λN=>by rw[kb,Ic.mem_iff];exact L N⟩
    .have Qv:c.tooFull=false:=by simpa using Z
     rw[Qv];simp only[iw,cI,cj];exact ae (ah<|ah<|h true _ l<|fin Z)
   refine aX (λhp=>ae<|aaJ hx λr=>?_) (λhp=>ae<|ah ?_)
   .refine I _ ?_ ?_ ?_
    .split;.exact i
     .exact i.off false
    .split<;>exact em
    .split<;>exact G
   .simp only[df];exact I t1 i em G
def nV.kp{prog:jE}{w:jz}{M:wy}{h q:jb}{a:iR}{d:yz}{n:Nat}{j:nW}(x:nV prog w M h a d n)(l:∀b∈j,b≠a/\∀o c m,h.get? b=some o->o.data=.seq c m->o.cls=.type "tuple"->False)(k:∀b o,b∉j->h.get? b=some o->q.get? b=some o):nV prog w M q a d n:=
 x.keep λb o p _ i=>k b o (λf=>by
  rcases i with rfl|⟨c,m,h1,h2⟩;· exact(l _ f).1 rfl
  · exact(l b f).2 o c m p h1 h2) p
variable{R:uY}{I:iR}{fp wr:nW}{G:jZ GenState->jZ GenState->Prop}{n:Nat}{P:Nat->iT->Prop}{St:u0}
def YJ{M:wy}(W:WalksS prog w A.in1 I fp wr G n P St)(S:iR)(t:S∉fp)(hu:A.units+1<cLine)(Y:jb)
    (val:Nat->aa Key)(k:∀i v,P i v->∃b,v=.ref b/\b∉S::wr/\M (.ref b)/\mK prog w Y (val i) b)(a:n+1<=1000)(D:∀i s,St i s->∀b∈wr,∀o u m,s.heap.get? b=some o->o.data=.seq u m->o.cls=.type "tuple"->False)(s:i7)(C:St 0 s)
    (V:∀b o,b∉S::wr->Y.get? b=some o->s.heap.get? b=some o)(O:nV prog w M s.heap S [] 0)
      (hR:∀d j,Moved (S::wr) G s d->nV prog w M d.heap S j n->(∀x,x∈j↔x∈(List.range n).map val)->R (.ok<|.ret .none) d):
      codeAny (model prog w) A (.builtin "set.update.loop" ⟨[.ref S,.ref I],[]⟩) R s:=by
 have L:S∉wr:=λh=>t (W.sub _ h)
 refine KI W S t (J:=λi s=>(∀b o,b∉S::wr->Y.get? b=some o->s.heap.get? b=some o)/\∃c,nV prog w M s.heap S c i/\∀x,x∈c↔x∈(List.range i).map val)
  (λi s d st q ⟨f,c,U,T⟩=>⟨λb o a e=>q.heap b o (λz=>a<|bo _ z)<|f b o a e,c,U.kp (λb a=>⟨λe=>L<|by rw[<-e];exact a,D _ s st b a⟩) q.heap,T⟩) (λi v s Q E Cy hP ⟨f,c,O,hm⟩ hQ=>?_) n 0 s rfl (bI _) C ⟨V,[],O,λx=>by simp⟩ λd f ⟨_,c,U,T⟩=>hR d c f U T
 obtain⟨b,rfl,F,hM,y⟩:=k i v hP;have Z:mK prog w s.heap (val i) b:=y.at' λo e=>f b o F e;unfold setAdd;refine bH ?_;have l:A.in1.units<cLine:=by omega
 refine ae (wpAny_pyHash_tuple l Z ?_);refine Mq (s:={s with toks:=s.toks+((val i).length+1)}) Z l hM O (by lia) λr h' p N=>hQ _ _ _ (cK _ _) p ⟨λb o a e=>?_,_,N,IV hm⟩;rw[p.2 b (λh:b=S=>a<|by rw[h];exact bT)];exact f b o a e
def YE{h:jb}(e:h.get? a=some (oV w)):nV prog w M h a [] 0:=
 ⟨_,#[],0,_,e,⟨rfl,rfl,rfl⟩,rfl,λe c=>(by simp at c),λe c=>(by simp at c),af _,aaf _ _ _,(show 0*5<7*3 by decide),(show 7<=8100 by decide),rfl,by unfold mG;exact .nil,λk=>by unfold mG;simp⟩
def MW{kL:yz}{Q:j0}(J:A.handled=none)(T:A.units+64<cLine)(y:s.heap.IsList l items)(d:items.size=kL.length)(D:∀i v,items[i]?=some v->∃b,v=.ref b/\mK prog w s.heap (kL.getD i []) b)(L:items.size+1<=1000)
 (h:∀c tk a,nV prog w (λv=>v∈items.toList) c s.heap.objs.size a items.size->(∀x,x∈a↔x∈kL)->
 (∀b o,b<s.heap.objs.size->s.heap.get? b=some o->c.get? b=some o)->Q (.ref s.heap.objs.size) {s with heap:=c,toks:=tk}):
   wpAny (model prog w) A (call (.type "set") [.ref l]) Q E s:=by
  refine FW (F:=λc=>∃a,nV prog w (λv=>v∈items.toList) c s.heap.objs.size a items.size/\∀x,x∈a↔x∈kL) J y (λ{I fp wr} {_ _ _ _} W k st O C r j M=>?_) λc tk ⟨a,p,m⟩ N=>h c tk a p m N;refine YJ W _ k (by simp only[gP];lia) s.heap (λi=>kL.getD i []) (λi v hv=>?_) L j _ st (λb o _ e=>C b o e) (YE O) λq a u p m=>M q u ⟨a,p,λx=>by rw[m x,d,Cc kL []]⟩;obtain⟨b,rfl,tk⟩:=D i v hv;have f:b<s.heap.objs.size:=by obtain⟨o,_,_,t,_⟩:=tk;exact aM t
  refine⟨b,rfl,λz=>?_,by rw[<-bg]at hv;exact a9 hv,tk⟩;rcases aI.mp z with z|z;.exact absurd z (aV f)
  .exact absurd f (gY.mpr<|dD<|r b z)
end P2
namespace PySem
open Sem (wp)
def Pq{w}{A:jY}{s:i7}{o k}{Q:sE}
 (q:s.heap.get? a=some o)(t:o.cls=.type "list")(f:o.data=.seq xs k)(r:o.dict=none)(j:typeLookup (.type "list") name=pure none)(i:(["__module__","__name__","__qualname__","__doc__","__annotations__"]:aa iS).contains name=false)(y:A.handled=none)
 (h:∀p tk e,Heap.NewExcOf s.heap p e "AttributeError"->Q none {s with heap:=p,toks:=tk})(n:name.length+100<=sizeLine):
   wpAny (model prog w) A (getAttr? (.ref a) name) Q E s:=by
  obtain⟨c,z,C,u⟩:=o;simp only at t f r;subst t f r;obtain⟨x,g,d,tk,v⟩:=s;have hT:∀l,(⟨x,g,d,l,v⟩:i7).TypeIs (.ref a) "list":=λ_=>⟨_,q,rfl⟩;have N:=sub_AttributeError;have M:=F.slot_list_getattribute.lookup;have L:=F.slot_list_getattribute.bind (.ref a);have J:=am_list_getattr_none;unfold getAttr? getAttrBy? getAttrBy;repeat(any_goals(first|assumption|exact hT _|((with_reducible show wpAny _ _ (call (Value.builtin "list.__getattribute__") _ _) _ _ _);refine call_meets F.slot_list_getattribute (hT _) am_entry_list_getattribute (F.args_list_getattribute_2 _ _) (meets_getattribute_miss_list a xs k u name _ j i n) ⟨q,y,λp l e m=>?_⟩)|wp_step))
  obtain⟨G,D,I⟩:=m.there;show wpAny _ _ (getattributeRaised _ _ _ _ _ _ _) _ _ _;unfold getattributeRaised;repeat(any_goals(first|assumption|wp_step))
  exact h _ _ _ m.of
end PySem
namespace P2
open PySem L2 PySem.Spec PySem.Calls PySem.W yr
open PyProof.Rows hiding St K
def GJ:entryFor table "dict.update.loop"=some Builtin.«dict.update.loop»:=entryFor_of_tree (by kernel_rfl)
def zU:plainId "dict.update.loop"=true:=by decide+kernel
def NW{w}{h f:jb}(x:h.DictOfH (tupleKind (jP prog w)) a xs)(k:∀b o,(b=a\/∃p∈xs,p.2.1=b)->h.get? b=some o->f.get? b=some o):f.DictOfH (tupleKind (jP prog w)) a xs:=by obtain⟨o,z,A,s,r,m,l,j,i⟩:=x;refine⟨o,z,A,k a o (.inl rfl) s,r,m,l,λp d=>?_,i⟩;obtain⟨q,c,n,y,v,u,t⟩:=j p d;exact⟨q,c,n,k _ _ (.inr ⟨p,d,rfl⟩) y,v,u,t⟩
variable{f:jE}{w:jz}{A:jY}{R:uY}{I:iR}{y wr:nW}{G:jZ GenState->jZ GenState->Prop}{n:Nat}{P:Nat->iT->Prop}{St:u0}
def Bb(f:jE)(w:jz)(h:jb)(a:nW)(x:aa Key×iR×iT)(b:iR):Prop:=
 b∉a/\x.2.1∉a/\(∃o m,h.get? b=some o/\o.cls=.type "tuple"/\o.data=.seq #[.ref x.2.1,x.2.2] m)/\(tupleKind<|jP f w).is h x.1 x.2.1
def NX(W:WalksS f w A.in1 I y wr G n P St)(S)(hSf:S∉y)(hu:A.units+1<cLine)(h0){rs}
 (val:Nat->aa Key×iR×iT)(V:∀i v,P i v->∃b,v=.ref b/\Bb f w h0 (S::wr) (val i) b)(r:n<=sizeLine)(J:Nat->aa (aa Key×iR×iT)->Prop)
 (hJ:∀i a,i<n->J i a->J (i+1) (storedH a (val i).1 (val i).2.1 (val i).2.2))(zl:∀i a,J i a->a.length<=i/\∀p∈a,p.2.1∉S::wr):
   ∀k i s t a,n - i=k->i<=n->St i s->(∀b o,b∉S::wr->h0.get? b=some o->s.heap.get? b=some o)->s.heap.DictOfH (tupleKind<|jP f w) S a->J i a->
    (∀d O,Moved (S::wr) G s d->d.heap.DictOfH (tupleKind<|jP f w) S O->J n O->R (.ok<|.ret rs) d)->
    codeAny (model f w) A (.builtin "dict.update.loop" ⟨[.ref S,.ref I,.int (i:Int) t,rs],[]⟩) R s:=by
  have PR:S∉wr:=λh=>hSf (W.sub _ h);have l:∀b∈wr,b∈S::wr:=λb r=>bo _ r;have T:∀{i:Nat} {a:tJ} {s d:i7},J i a->s.heap.DictOfH (tupleKind (jP f w)) S a->Moved wr G s d->d.heap.DictOfH (tupleKind (jP f w)) S a:=λj hd hm=>NW hd λb o r e=>hm.heap b o (λz=>by
   rcases r with rfl|⟨p,hp,rfl⟩;· exact PR z
   · exact(zl _ _ j).2 p hp (l _ z)) e
  intro k;induction k with
  |zero=>
   intro i s t a hk hi C Hn hS M hR;have hin:i=n:=by grind
   subst hin;refine cq GJ ?_;rw[cb zU _];show wpAny _ A.in1 (pyNext (.ref I)>>=_) _ _ s;refine ae (W.done s _ _ C λd u=>?_);show wpAny _ A.in1 (Builtin.Dict.addKeywords S []>>=_) _ _ d;refine ae (ah ?_);exact ah (hR d a (u.mono l) (T M hS u) M)
  |succ k ih=>
   intro i s t a hk hi C Hn hS M hR;have F:i<n:=by lia
   refine cq GJ ?_;rw[cb zU _];show wpAny _ A.in1 (pyNext (.ref I)>>=_) _ _ s;refine ae (W.item i s _ _ F C λv d hP Y u=>?_);obtain⟨b,rfl,Qp,QF,⟨o,m,ho,hc,hd⟩,Cu⟩:=V i v hP;have x:∀b o,b∉S::wr->h0.get? b=some o->d.heap.get? b=some o:=λb o r e=>u.heap b o (λz=>r<|l b z) (Hn b o r e);have Z:=x b o Qp ho;have L:(tupleKind (jP f w)).is d.heap (val i).1 (val i).2.1:=by obtain⟨q,w4,n',g1,g2⟩:=Cu;exact⟨q,w4,n',x _ _ QF g1,g2⟩
   have Cs:=T M hS u;have hT:d.TypeIs (.ref b) "tuple":=⟨o,Z,hc⟩;have hu':A.in1.units<cLine:=by rw[gP];exact hu
   show wpAny _ A.in1 (holding [.ref b] _>>=_) _ _ d;refine ae (bH ?_);refine ae (wpAny_tryCatch ?_);unfold Builtin.Dict.pairItems;refine ae (dW hT ?_);rw[aq<|by decide];refine ae (fh Z hd<|ah ?_);show wpAny _ _ (holding [.ref (val i).2.1,(val i).2.2]<|dictSet S (.ref (val i).2.1) (val i).2.2) _ _ _;refine bH (wpAny_dictSet_heap (hsz:=by have:=(zl _ _ M).1;lia) (cJ hu) L Cs λh' QY D=>?_);have er:rawInt ((i:Int)+1)=.int ((i+1:Nat):Int) 0:=by unfold rawInt;rfl
   rw[er];have Q:∀{c:iR},c∉S::wr->c≠S:=λh z=>h (by rw[z];exact bT);refine ah ⟨ee zU _,ih (i+1) _ 0 _ (by grind) F (W.frame _ d _ _ Y (cK _ _) λb r o e=>?_) (λb o r e=>?_) QY (hJ i a F M) λYt N QZ PQ U=>?_⟩;.rw[D.2 b (λh:b=S=>hSf<|by rw[<-h];exact r)];exact e
   .show h'.get? b=some o;rw[D.2 b<|Q r];exact x b o r e
   .refine hR Yt N (Moved.trans W.gtrans ((u.mono l).then_heap (cK _ _) λb o r e=>?_) QZ) PQ U;rw[D.2 b<|Q r];exact e
def SJ:typeLookup (.type "list") "keys"=pure none:=by rw[hD,fE];kernel_rfl
noncomputable def qK(a:tJ):aa (aa Key×iR×iT):=a.foldl (λc x=>storedH c x.1 x.2.1 x.2.2) []
def Y6{d:tJ}{k:oo}{a:iR}{v:iT}:∀p∈storedH d k a v,p.2.1=a\/∃q∈d,q.2.1=p.2.1:=by
 intro p c;unfold storedH at c;split at c
 .obtain⟨q,i,e⟩:=aH.mp c;right;refine⟨q,i,?_⟩;subst e;unfold putAt;split<;>rfl
 .rcases aY.mp c with h|h;.exact .inr ⟨p,h,rfl⟩
  .rw[aQ]at h;subst h;exact .inl rfl
def Y7{c:tJ}{k:oo}{a:iR}{v:iT}:(storedH c k a v).length<=c.length+1:=by
 unfold storedH;split;.rw[aj];simp
 .rw[ag];simp
theorem yW(a:tJ):∀i≤a.length,(qK<|a.take i).length<=i/\∀p∈qK (a.take i),∃q∈a,q.2.1=p.2.1
 |0,_=>⟨af _,λp d=>nomatch d⟩
 |i+1,h=>by
  obtain⟨m,k⟩:=yW a i (by walk_at "l");have c:i<a.length:=by walk_at "l"
  have e:qK (a.take<|i+1)=storedH (qK<|a.take i) a[i].1 a[i].2.1 a[i].2.2:=by unfold qK;rw[fq c,gk];rfl
  rw[e];refine⟨aW Y7<|by walk_at "l",λp d=>?_⟩;rcases Y6 p d with h|⟨q,hq,e⟩;.exact⟨a[i],bU c,h.symm⟩
  .obtain⟨r,j,l⟩:=k q hq;exact⟨r,j,l.trans e⟩
variable{E:j0}{s:i7}
def MN{vals:tJ}{Q:j0}(hh:A.handled=none)(hu:A.units+64<cLine)(hl:s.heap.get? l=some {cls:=.type "list",data:=.seq items nl})(M:items.size=vals.length)
 (hi:∀(i:Nat) v x,items[i]?=some v->vals[i]?=some x->∃b,v=.ref b/\Bb f w s.heap [] x b)(hb:items.size<=sizeLine)
 (h:∀(h':jb) tk,h'.DictOfH (tupleKind<|jP f w) s.heap.objs.size (qK vals)->(∀b o,b<s.heap.objs.size->s.heap.get? b=some o->h'.get? b=some o)->Q (.ref s.heap.objs.size) {s with heap:=h',toks:=tk}):
   wpAny (model f w) A (call (.type "dict") [.ref l]) Q E s:=by
  refine callType_codes (Q₁:=λD c=>D=.ref s.heap.objs.size/\c={s with heap:=s.heap.push {cls:=.type "dict",data:=.dict #[]}}) F.kt_called_dict (F.kt_typeCall_dict_1 _) F.entry_dict_init (kt_code_dict_new _ ⟨rfl,rfl⟩) ?_
  rintro D c ⟨rfl,rfl⟩
  have d:(s.heap.push {cls:=.type "dict",data:=.dict #[]}).DictOfH (tupleKind<|jP f w) s.heap.objs.size []:=Heap.DictOfH.new s.heap;have r:(s.heap.push {cls:=.type "dict",data:=.dict #[]}).get? l=some {cls:=.type "list",data:=.seq items nl}:=ai _ hl;have N:l<s.heap.objs.size:=aM hl;refine⟨d.typeIs,F.args_dict_init_2 _ _,?_⟩;unfold Builtin.«dict.__init__»;refine ae ?_;unfold Builtin.Dict.selfAndRest;refine ae (fA d.typeIs ?_);show wpAny _ _ (pure (s.heap.objs.size,[Value.ref l])) _ _ _;refine ah ?_;show wpAny _ _ (Builtin.Dict.updateFrom "dict.__init__" s.heap.objs.size (.ref l) [] .none) _ _ _;unfold Builtin.Dict.updateFrom;refine ae (dW (T:="list") ⟨_,r,rfl⟩ ?_);rw[aq<|by decide];refine ae (Pq r rfl rfl rfl SJ (by decide+kernel) (by simp[hh]) (λu Ej e hx=>?_)<|by decide+kernel);rw[aq<|show(none:yA).isNone=true from rfl];have O:u.IsList l items:=⟨_,hx.keeps _ _ r,rfl,nl,rfl⟩;have C:∀{b:iR} {o:lj},s.heap.get? b=some o->u.get? b=some o:=λe=>hx.keeps _ _ (ai _ e);have Y:u.get? s.heap.objs.size=some {cls:=.type "dict",data:=.dict #[]}:=hx.keeps _ _ (aJ _ rfl);have t:s.heap.objs.size<u.objs.size:=aM Y;have a:∀{b:iR} {o:lj},s.heap.get? b=some o->b∉[s.heap.objs.size,u.objs.size]:=λe=>by have Z:=aM e;simp only[aI,cH,fZ,not_or];exact⟨aV Z,aV<|eM Z t⟩
  refine ae (gS<|ae<|gf O ?_);have Ct:A.in1.in1.handled=none:=by simp[hh]
  have e0:rawInt 0=.int ((0:Nat):Int) 0:=rfl;rw[e0];refine ah ⟨ee zU _,?_⟩
  refine NX (A:=A.in1) (wr:=[u.objs.size]) ((Walks.list Ct u.objs.size l (aV<|eM N t) items).toS) s.heap.objs.size ?hSf (by simp only[gP];lia) s.heap (λi=>vals.getD i ([],0,.none)) ?hval hb (λi xs=>xs=qK (vals.take i)) ?hJ ?zl (items.size - 0) 0 _ 0 [] (by simp) (bI _)
   ⟨⟨_,aJ _ rfl,rfl,rfl⟩,O.push _⟩ (λb o _ e=>ai _<|C e) ?hS0 rfl ?hR
  case hSf=>simp only[aI,cH,fZ,not_or];exact⟨aV t,dE N⟩
  case hval=>
   intro i v hv;have hiv:i<items.size:=by
    rcases fU i items.size with h|h;.exact h
    .rw[cV h]at hv;cases hv
   have Rh:vals[i]?=some (vals.getD i ([],0,.none)):=by rw[bN,ax<|by simp_all];rfl
   obtain⟨b,rfl,_,_,⟨o,m,Z,Pz,h3⟩,z⟩:=hi i v _ hv Rh;refine⟨b,rfl,a Z,?_,⟨o,m,Z,Pz,h3⟩,z⟩;obtain⟨q,J,n',g1,g2⟩:=z;exact a g1
  case hJ=>
   rintro i xs Cy rfl
   have k:i<vals.length:=by simp_all
   unfold qK;rw[fq k,gk];rw[show vals.getD i ([],0,.none)=vals[i]by rw[bN,ax k];rfl];rfl
  case zl=>
   rintro i xs rfl
   by_cases hle:i<=vals.length
   .obtain⟨f1,f2⟩:=yW vals i hle;refine⟨f1,λp L=>?_⟩;obtain⟨q,hq,e⟩:=f2 p L;obtain⟨j,V,ej⟩:=bL hq;obtain⟨b,_,_,_,_,z⟩:=hi j items[j] q (aO<|by simp_all) (by rw[ax V,ej]);obtain⟨q',J,n',g1,g2⟩:=z;rw[<-e];exact a g1
   .rw[eV<|by grind];obtain⟨f1,f2⟩:=yW vals vals.length (af _);rw[gQ]at f1 f2;refine⟨by lia,λp L=>?_⟩;obtain⟨q,hq,e⟩:=f2 p L;obtain⟨j,V,ej⟩:=bL hq;obtain⟨b,_,_,_,_,z⟩:=hi j items[j] q (aO<|by simp_all) (by rw[ax V,ej]);obtain⟨q',J,n',g1,g2⟩:=z;rw[<-e];exact a g1
  case hS0=>exact⟨_,#[],0,ai _ Y,⟨rfl,rfl,rfl⟩,rfl,rfl,(λp L=>nomatch L),.nil⟩
  case hR=>intro s' xs' hm Cs V;obtain⟨h',g',d',Ei,Ds⟩:=s';have eg:g'=s.gens:=hm.gens;have ed:d'=s.drawn:=hm.drawn;have eo:Ds=s.os:=hm.os;subst eg;subst ed;subst eo;have U:xs'=qK (vals.take items.size):=V;rw[M,gQ]at U;subst U;exact⟨rfl,h h' Ei Cs λb o hb e=>hm.heap b o (a e)<|ai _<|C e⟩
end P2
namespace P2
open PySem L2
noncomputable def Cr:aa Key->i6
 |[.inr x]=>decide (x=Str.ofString "here")
 |[.inr _,.inl _]=>true
 |[.inr x,.inr _]=>decide (x=Str.ofString "at")
 |_=>false
noncomputable def Br:aa iT->i6
 |[.str x _]=>decide (x=Str.ofString "here")
 |[.str _ _,.int _ _]=>true
 |[.str x _,.str _ _]=>decide (x=Str.ofString "at")
 |_=>false
def qS(K:i9):i6:=K.all λp=>match p.2.data with
 |.seq a _=>!Br a.toList
 |_=>true
def rG:D->i0 (aa Key)
 |.tup ds=>(lE ds).bind λa=>if Cr a=true then some a else none
 |_=>none
theorem IE{o}:∀{K:kv},K.lookup a=some o->(a,o)∈K
 |(b,q)::K,h=>by
  rw[gI]at h;split at h
  .rename_i z;obtain rfl:a=b:=by simpa using z
   cases h;exact .head _
  .exact .tail _ (IE h)
def Ul(h:qS K=true)(f:Cr ks=true)(k:KT K a<|ks.map kV):False:=by
 obtain⟨o,d,n,w,y,v,x,i⟩:=k;have u:(a,o)∈K:=IE w;have:=b9.mp h _ u;dsimp only at this;rw[v]at this;have r:Br d.toList=true:=by
  generalize d.toList=l at i;unfold Cr at f;split at f
  .cases i with
   |cons p q=>cases q;obtain⟨t,rfl⟩:=p;exact f
  .cases i with
   |cons p q=>
    cases q with
    |cons m j=>cases j;obtain⟨t,rfl⟩:=p;obtain⟨s,rfl⟩:=m;rfl
  .cases i with
   |cons p q=>
    cases q with
    |cons m j=>cases j;obtain⟨t,rfl⟩:=p;obtain⟨s,rfl⟩:=m;exact f
  .cases f
 have c:(!Br d.toList)=true:=this;rw[r]at c;cases c
def H7{d}(j:qS K=true)(r:Rep K al H v d)(e:rG d=some ks):∃b,al b/\H b=some (.tup<|ks.map kV)/\v=.ref b:=by
 cases r with
 |tup p q=>
  obtain⟨h,l,a⟩:=aL.mp (show((lE _).bind _)=some ks from e);have k:=vC q l;subst k;split at a
  .rename_i i;cases a;rcases p with⟨f,c⟩|p;.exact⟨_,f,c,rfl⟩
   .exact(Ul j i p).elim
  .cases a
 |_=>cases e
def qX(f:jd):jd:=λρ S=>(f ρ S).bind λz c=>match z with
 |.d d=>(match rG d with
  |some a=>.ok (.tk a) c
  |none=>.bad)
 |_=>.bad
section
variable{X:Cx}{E:XK}{e:jf}{f:jd}{a c:Pos}
def xW(o:qS X.K=true)(h:ZE X E e f):ZE X E e (qX f):=by
 obtain⟨t,p,r⟩:=h;refine⟨t,p,λs h=>r s<|iU.mono (iU.split h) λ{_ j k l _} m z y i v n=>?_⟩;split at i
 .rename_i d;split at i
  .rename_i A x;obtain⟨b,w,u,q⟩:=H7 o (show Rep X.K j l v d from n) x;exact i j k l m .refl .refl v ⟨b,w,u,q⟩
  .exact i.elim
 .exact i.elim
end
inductive uS(K:W.Frag)(H:Hp):List V->List (List Key×V)->Prop
 |nil:uS K H [] []
 |cons {b kb:Addr} {k:List Key} {y:V} {vs:List V} {kvs:List<|List Key×V}:mJ K H b [.ref kb,y]->H kb=some (.tup<|k.map kV)->uS K H vs kvs->uS K H (.ref b::vs) ((k,y)::kvs)
def VQ{s}(I:Inv X pins σ H s):∀{f} {d} {c},uS X.K H f c->Vals f d->
    ∃a:aa (aa Key×iR×iT),a.length=d.length/\(∀(i:Nat) v x,d[i]?=some v->a[i]?=some x->∃b,v=.ref b/\Bb X.prog X.w s.heap [] x b)/\L2.KT H c a:=by
 intro f d c r v;induction r generalizing d with
 |nil=>cases v;exact⟨[],rfl,λi v x h=>by simp at h,.nil⟩
 |@cons b l k _ _ _ sq m r G=>
  cases v with
  |cons p q=>
   obtain⟨a,M,L,J⟩:=G q;have D:_=Value.ref b:=p;subst D;obtain⟨F,y,⟨o,P,O,n,N⟩,_⟩:=I.tuple sq;cases y with
   |cons C z=>
    cases z with
    |cons w A=>
     cases A;rename_i u t;obtain rfl:u=Value.ref l:=C;refine⟨(k,l,t)::a,by simp[M],λi v x hv j=>?_,.cons ⟨rfl,m,w⟩ J⟩;cases i with
     |zero=>simp at hv j;subst hv j;exact⟨b,rfl,by simp,by simp,⟨o,n,P,O,N⟩,uh I.hok m⟩
     |succ i=>exact L i v x (by simpa using hv) (by simpa using j)
theorem G2:∀{kvs} {vals} {acc} {xs},L2.KT H kvs vals->L2.KT H acc xs->L2.KT H (kvs.foldl (λa p=>putK a p.1 p.2) acc) (vals.foldl (λa x=>storedH a x.1 x.2.1 x.2.2) xs)
 |_,_,_,_,.nil,r=>r
 |_,_,_,_,.cons (a:=p) (b:=q) h t,r=>by obtain⟨pk,pv⟩:=p;obtain⟨k,f,d⟩:=q;obtain⟨c,j,i⟩:=h;dsimp only at c;subst c;exact G2 (kvs:=_) (vals:=_) (acc:=putK _ pk pv) (xs:=storedH _ pk f d) t (L2.KT.put r pk j i)
section
variable{X:Cx}{E:XK}{e:jf}{f:jd}{C L:Pos}
def MM(Z:X.calm=true)(P:X.A.units+64<cLine):ny X (.type "dict") (λm d Q=>∃l t c,m=[.ref l]/\d l=some (.lst t)/\uS X.K d t c/\
    ∀p,d p=none->Q (.ref p) (upd d p (.dT (c.foldl (λa p=>putK a p.1 p.2) [])))):=by
 intro r j σ d m us Q k N h;obtain⟨l,t,c,rfl,U,R,q⟩:=h;obtain⟨u,rfl,M⟩:=vals1 N;obtain rfl:u=Value.ref l:=M;obtain⟨z,O,n,D,T⟩:=(show kH X.prog X.w d j.heap l (.lst t)from k.hok l _ U);obtain⟨vals,h1,h2,h3⟩:=VQ k R D;have G:=Paired.length D;have s:=k.hok.fresh (af j.heap.objs.size);refine MN (vals:=vals) (k.ok.hd Z) P T (by simp[h1]) (λi v x J w=>h2 i v x (by simpa using J) w) (by simp;simp_all) λI tk dd kp=>?_;have y:∀b u,j.heap.get? b=some u->I.get? b=some u:=λb u e=>kp b u (aM e) e;have F:=G2 h3 (acc:=[]) (xs:=[]) .nil;obtain⟨o,es,ep,g1,g2,g3,g4,g5,g6⟩:=dd;have Y:=L2.KT.keeps (H':=upd d j.heap.objs.size (.dT (c.foldl (λa p=>putK a p.1 p.2) []))) F (λb ys e=>by rw[jw (nQ e s)];exact e);have A:(c.foldl (λa p=>putK a p.1 p.2) ([]:aa<|aa Key×V)).length<=sizeLine:=by
  have J:=Paired.length F;have w:=(yW vals vals.length<|af _).1;rw[gQ]at w;unfold qK at w
  lia
 have I2:Inv X r σ (upd d j.heap.objs.size<|.dT<|c.foldl (λa p=>putK a p.1 p.2) []) {j with heap:=I,toks:=tk}:=
  k.laid (t':=tk) y (af _) ⟨A,by simpa using dE k.big,_,Y,o,es,ep,g1,g2,g3,g4,g6⟩
 exact⟨.ref _,_,I2,rfl,q _ s⟩
noncomputable def rQ:aa D->i0 (aa<|aa Key×D)
 |[]=>some []
 |.tup [k,v]::r=>(rG k).bind λa=>(rQ r).map ((a,v):: ·)
 |_::_=>none
theorem Jr(k:qS K=true):∀{j} {l} {c},ja K al H j l->rQ l=some c->
 ∃a,uS K H j a/\Paired (λ(p:aa Key×V) (q:aa Key×D)=>p.1=q.1/\Rep K al H p.2 q.2) a c
 |_,_,_,.nil,h=>by cases h;exact⟨[],.nil,.nil⟩
 |_,_,_,.cons (d:=d) r q,h=>by
  cases r with
  |tup p t=>
   cases t with
   |nil=>cases h
   |cons n s=>
    cases s with
    |nil=>cases h
    |cons m o=>
     cases o with
     |cons _ _=>cases h
     |nil=>obtain⟨i,x,w⟩:=aL.mp (show((rG _).bind λi=>(rQ _).map ((i,_):: ·))=some _ from h);obtain⟨c,v,rfl⟩:=ay.mp w;obtain⟨a,A,y⟩:=Jr k q v;obtain⟨b,_,u,rfl⟩:=H7 k n x;exact⟨(i,_)::a,.cons (p.elim (λz=>.inl<|.inl z.2) .inr) u A,.cons ⟨rfl,m⟩ y⟩
  |_=>cases h
def foldZ(c:aa<|aa Key×D):aa (aa Key×Z):=c.foldl (λa p=>jL a p.1<|.d p.2) []
theorem G3{lo}:∀{c} {i} {us} {zs},Paired (λ(p:aa Key×V) (q:aa Key×D)=>p.1=q.1/\Rep K al H p.2 q.2) c i->j4 K al lo H us zs->
 j4 K al lo H (c.foldl (λa p=>putK a p.1 p.2) us) (i.foldl (λa p=>jL a p.1<|.d p.2) zs)
 |_,_,_,_,.nil,r=>r
 |_,_,_,_,.cons (a:=p) (b:=q) h t,r=>by obtain⟨pk,pv⟩:=p;obtain⟨l,d⟩:=q;obtain⟨j,k⟩:=h;dsimp only at j;subst j;exact G3 (us:=putK _ pk pv) (zs:=jL _ pk<|.d d) t (j4.put r pk<|show jS K al lo H pv (.d d)from k)
def Eu(f:jd):jd:=λρ S=>(f ρ S).bind λz a=>match z with
 |.loc n=>(match a[n]? with
  |some (.li c)=>(match(lU c).bind rQ with
   |some d=>.ok (.loc a.length) (a++[.dt<|foldZ d])
   |none=>.bad)
  |_=>.bad)
 |_=>.bad
def aba(Q:qS X.K=true)(P:X.calm=true)(I:X.A.units+64<cLine)(O:Gl X "dict")(N:X.mg "dict"=none)(hv:bootBuiltins "dict"=some (.type "dict"))(J:ZE X E e f)
 (u:autoParam (X.se e []) aZ0)(k:autoParam (X.bk C []) aZ0):ZE X E (.Call (.Name "dict" L) [e] [] C) (Eu f):=by
  obtain⟨to,G,z⟩:=J;refine⟨_,Dv (MM P I) O N hv (rO G rP u) (by decide) (by decide) u k,λ{_ _ lo _ _ _ _ _} s h=>z s<|iU.mono (iU.split h) λ{_ r c H1 t} j x1 y1 d v y=>?_⟩;split at d
  .rename_i n;split at d
   .rename_i zs q;split at d
    .rename_i F D;obtain⟨ds,e1,Z⟩:=aL.mp D;have Y:=sI e1;subst Y;obtain⟨a,M,rfl⟩:=y;obtain⟨w,V,U⟩:=j.cell M q;obtain⟨i,T,R⟩:=Jr Q U.toD Z;refine⟨a,w,i,rfl,V,T,λp l=>?_⟩;have A:=G3 (lo:=c) R (us:=[]) (zs:=[]) .nil;have o:lQ X.K (λb=>r b/\b≠p) (kF c t.length p) (upd H1 p<|.dT<|i.foldl (λa p=>putK a p.1 p.2) []) p (.dt<|foldZ F):=⟨_,j7,A.mv (o5 l)<|n6 j.st p⟩;have x:=j.new l Dg o nofun;have m:kF c t.length p t.length=some p:=by unfold kF;rw[aq rfl]
     exact d _ _ _ x (o5 l) (n6 j.st p) _ ⟨p,m,rfl⟩
    .exact d.elim
   .exact d.elim
  .exact d.elim
variable{m:kv}{y:St}{H:Hp}{s:i7}{a:iR}{o:lj}{j:aa<|aa Key×V}
def HH(I:Inv X m y H s)(e:H a=some (.dT j))(h:s.heap.get? a=some o):Inv X m y (upd H a<|.kd o<|.dT j) s:=by
 have ok:=I.hok a _ e;obtain⟨z,l,k,d,r⟩:=(show kH X.prog X.w H s.heap a (.dT j)from ok)
 exact I.write (x:=a) (e:=a) (t':=s.toks) (h':=s.heap) (by rw[e];exact True.intro) (.inl rfl) (λb u _ z=>z) ⟨o,h⟩
  (show kH X.prog X.w (upd H a<|.kd o<|.dT j) s.heap a (.kd o<|.dT j)from⟨h,z,l,k,L2.KT.keeps d<|λc n i=>by rw[jw<|I8 i e<|λz=>nomatch z];exact i,r⟩)
def Jb(I:Inv X m y H s)(e:H a=some (.dT j)):∀c u,X.H₀ a≠some (.kd c u):=λc u z=>by have:=I.base.pX a c u z;rw[e]at this;cases this
def Rw(I:Inv X m y H s)(e:H a=some (.kd o<|.dT j))(R:∀d u,X.H₀ a≠some (.kd d u)):Inv X m y (upd H a<|.dT j) s:=by
 have l:∀{b:iR},H b=none->b≠a:=λh z=>by rw[z,e]at h;cases h
 have A:∀{b:iR} {t:aa V},H b=some (.tup t)->b≠a:=λh z=>by rw[z,e]at h;cases h
 obtain⟨_,z,O,t,w,r⟩:=(show kH X.prog X.w H s.heap a (.kd o<|.dT j)from I.hok a _ e);refine⟨I.ok,I.os,I.bare,⟨I.base.keep,I.base.slot,λb d J n D=>by rw[jw (l (I.base.free b d J n D))];exact I.base.free b d J n D,I.base.there,λb k h=>by rw[jw<|A<|I.base.tups b k h];exact I.base.tups b k h,λb d u h=>?_,λb M h=>?_⟩,I.loc,I.cell,by rw[jw (l I.free)];exact I.free,λx c h=>by rw[jw<|l<|I.pV x c h];exact I.pV x c h,λp N=>?_,λb u h=>?_,I.len⟩
 .by_cases i:b=a;.simp_all
  .rw[jw i];exact I.base.pX b d u h
 .obtain⟨more,q⟩:=I.base.rV b M h;have i:b≠a:=λz=>by rw[z,e]at q;cases q
  exact⟨more,by rw[jw i];exact q⟩
 .obtain⟨Q,F,P⟩:=I.pin p N;exact⟨Q,by rw[jw (l F)];exact F,P⟩
 .by_cases i:b=a
  .subst i;rw[j7]at h;cases h;exact⟨z,O,t,L2.KT.keeps w<|λc k G=>by rw[jw<|A G];exact G,r⟩
  .rw[jw i]at h;exact(I.hok b u h).stay (λc v T r=>r) (λc r=>by rw[jw<|λz=>by rw[z,e]at r;cases r];exact r) λc k r=>by rw[jw<|A r];exact r
open PySem.Spec PySem.Calls PySem.W
open PyProof.Rows hiding St K
variable{B:jE}{w:jz}{A:jY}{E:j0}{M d:iR}{i J:Nat}{F:jZ DictEntry}
def Ya{Q:j0}(hv:s.heap.IsValuesView v d)(p:wt s.heap d F J)
 (r:Q (.ref s.heap.objs.size) {s with heap:=s.heap.push {cls:=.type "dict_valueiterator",data:=.fields #[.ref d,.int 0 0,.int F.size 0,.int J 0]}}):wpAny (model B w) A (pyIter<|.ref v) Q E s:=by
  obtain⟨t,k,q,l⟩:=id hv;obtain⟨o,n,u,c⟩:=id p;refine eR hv.typeIs fM (bE fM hv.typeIs PySem.F.entry_dict_values_iter ?_ (PySem.F.args_dict_values_iter_1 _));unfold Builtin.«dict_values.__iter__»;refine ae (ah ?_);refine ae ?_;unfold Builtin.Dict_items.dictOf;refine ae (dQ k l (x:=.ref d) rfl<|ah ?_);refine ae ?_;unfold Builtin.Dict_items.newIterator;refine ae (gh n c ?_);refine ae (hA n c ?_);have h:Builtin.Dict_items.ownsTuple "dict_valueiterator"=false:=by decide
  simp only[h,cI,cj];refine bc (ah ⟨_,rfl,"dict_valueiterator",_,⟨_,aJ _ rfl,rfl⟩,PySem.F.slot_dict_valueiterator_next.lookup,?_⟩);simpa [rawInt]using r
end
def yd(a:iR)(o:lj)(u:HO)(c:aa V):It where
 go:=λi H=>H a=some (.kd o u)/\i<c.length
 xN:=λi H x H'=>H'=H/\c[i]?=some x
 stop:=λi H=>H a=some (.kd o u)/\c.length<=i
def Lj{w b}(a it){o:lj}{u}(p:o.ExactDict)(j:o.data=.dict es ep)(hv:Vals vs<|es.toList.map<|xc b):
    Turn P w K tg (yd a o u vs) [it] it (λi h=>yb b h it a i es.size ep) where
 mem:=by simp
 obj:=λi h st b l=>by
  have e:b=it:=by simpa using l
  subst e;obtain⟨o,e,c,d⟩:=st;exact⟨o,e,λv z=>by rw[d]at z;cases z⟩
 keep:=λi h q st k=>let⟨o,e,r⟩:=st;⟨o,k it (by simp) o e,r⟩
 item:=by
  intro X F t G R i f s σ H E I hf st D;subst F t G;obtain⟨x,C⟩:=D;obtain⟨y,_⟩:=(show kH X.prog X.w H s.heap a (.kd o u)from I.hok a _ x);obtain⟨O,N,Y,M,L,J⟩:=hf it (by simp);have A:=Paired.length hv;have n:i<es.size:=by simp at A;simp_all
  obtain⟨T,Q,V⟩:=Vals.get hv (ax C);have Z:T=xc b es[i]:=by rw[aC,bg,aO n]at Q;exact(Option.some.inj Q).symm
  subst Z;refine Km st ⟨o,y,p,j⟩ (λ_ q m U=>?_) λz=>absurd n (gY.2 z);have I1:Inv X f σ H {s with heap:=q}:=I.turned (t':=s.toks) (λb o l e=>(U.2 b l).trans e) O N M L J;obtain⟨o',e,c,d⟩:=id m;exact⟨_,rfl,vu (s:={s with heap:=q}) e c d (by cases b<;>decide) ⟨vs[i],H,I1,V,⟨rfl,ax C⟩,m,λb l=>(hf b l).1⟩⟩
 done:=by intro X F t G R i f s σ H E I hf st D;subst F t G;obtain⟨x,C⟩:=D;obtain⟨y,_⟩:=(show kH X.prog X.w H s.heap a (.kd o u)from I.hok a _ x);obtain⟨O,N,Y,M,L,J⟩:=hf it (by simp);have A:=Paired.length hv;exact Km st ⟨o,y,p,j⟩ (λz=>absurd z (gY.2 (by simp at A;simp_all))) λ_=>⟨I.ok.hd R,λq eb=>⟨rfl,I.turned (t':=s.toks) (λb o l e=>eb b o l e) O N M L J⟩⟩
 self:=λ_ _ _ _ _ st h=>by cases b;exact wpAny_pyIter_valiter st h;exact wpAny_pyIter_keyiter st h
def AN(H:Hp)(a:aa<|aa Key×V)(c:aa V):Prop:=Paired (λ(p:aa Key×V) (v:V)=>∃b,v=.ref b/\H b=some (.tup<|p.1.map kV)) a c
theorem keys_of:∀{a} {c},L2.KT H a c->AN H a (c.map λx=>V.ref x.2.1)
 |_,_,.nil=>.nil
 |_,_,.cons h t=>.cons ⟨_,rfl,h.2.1⟩ (keys_of t)
theorem Ij:∀{a} {c},L2.KT H a c->Vals (a.map (·.2)) (c.map (·.2.2))
 |_,_,.nil=>.nil
 |_,_,.cons h t=>.cons h.2.2 (Ij t)
section
variable{X:Cx}{tg o:jf}{N:TE}{M L:Pos}
def Ri(X:Cx)(N:TE):TI:=λσ H R=>N σ H λx d=>∃a c,x=.ref a/\d a=some (.dT c)/\∀ob f,(∀h u,X.H₀ a≠some (.kd h u))->AN d c f->R (yd a ob (.dT c) f) (upd d a<|.kd ob<|.dT c)
def Rj(X:Cx)(N:TE):TI:=λσ H R=>N σ H λx f=>∃a c,x=.ref a/\f a=some (.dT c)/\∀ob d,(∀h u,X.H₀ a≠some (.kd h u))->d=c.map (·.2)->R (yd a ob (.dT c) d) (upd f a<|.kd ob<|.dT c)
def Wm(w:PE X o N):PI X tg o (Ri X N):=by
 intro c s σ H R I h;refine je (w c s σ H _ I h) λv d j=>?_;obtain⟨x,Q,l,r,t⟩:=j;obtain⟨a,u,ex,e,q⟩:=t;subst ex;cases r;obtain⟨z,y,f,i,dd⟩:=BJ l.hok e;obtain⟨ob,D,P,p,n,m,C,O,J⟩:=dd;have F:D.toList.map (xc true)=f.map λx=>Value.ref x.2.1:=by rw[C,bh];rfl
 have k:=HH l e p;refine Yb y ⟨ob,p,n,m⟩ ?_;refine⟨d.heap.objs.size,[d.heap.objs.size],_,_,_,rfl,k.kept (t':=d.toks) λb o e=>ai _ e,Lj (b:=true) a _ n m (vs:=f.map λx=>V.ref x.2.1)<|by rw[F];exact Lv f,⟨_,aJ _ rfl,rfl,rfl⟩,λb A=>?_,q ob _ (Jb l e)<|keys_of i⟩;have G:b=d.heap.objs.size:=by simpa using A
 subst G;exact k.vo (af _) (k.hok.fresh<|af _)
def T4{w}(d)(c:(d==sysModules)=false):
    MeetsIn prog w (Builtin.«dict.values» ⟨[.ref d],[]⟩) (λ_ R s=>s.TypeIs (.ref d) "dict"/\R (.ok<|.ret<|.ref s.heap.objs.size) {s with heap:=s.heap.push {cls:=.type "dict_values",data:=.fields #[.ref d]}}):=
 .of_wp λA R s ⟨a,h⟩=>by refine ae ?_;unfold Builtin.Dict.noArgs;refine ae (fA a ?_);show wpAny _ _ (pure d) _ _ s;refine ah ?_;show wpAny _ _ (Builtin.Dict.showsAll d>>=_) _ _ s;unfold Builtin.Dict.showsAll;rw[aA<|by rw[c];exact av];refine ae (ah ?_);exact ae (bc<|ah ⟨_,rfl,h⟩)
def Wn(D:PE X o N)(i:attributeBase o "values" X.env (eval o X.env)=eval o X.env)(f:(M.endLine==L.line)=true):PI X tg (.Call (.Attribute o "values" M) [] [] L) (Rj X N):=by
 intro c s σ H R I h;refine wpAny_Call_method0_late i f (je (D c s σ H _ I h) λv j n=>?_);obtain⟨x,U,k,A,C⟩:=n;obtain⟨a,d,ex,e,q⟩:=C;subst ex;cases A;obtain⟨l,y,F⟩:=zr k (.inr ⟨d,.inl e⟩);obtain⟨z,_,w,m,dd⟩:=BJ k.hok e;obtain⟨ob,P,Z,u,t,r,J,Y,V⟩:=dd;have O:P.toList.map (xc false)=w.map (·.2.2):=by rw[J,bh];rfl
 refine⟨"dict","dict.values",dr,gw,PySem.F.type_dict_values,l,y,ck rfl<|PySem.evalArgs_none ?_⟩;refine eN gw l PySem.F.entry_dict_values (PySem.F.args_dict_values_1 _) (T4 a F) ⟨l,?_⟩;have T:=HH k e u;have p:Inv X c σ (upd U a<|.kd ob<|.dT d) {j with heap:=j.heap.push {cls:=.type "dict_values",data:=.fields #[.ref a]}}:=T.kept (t':=j.toks) λb o e=>ai _ e;refine Ya ⟨_,aJ _ rfl,rfl,rfl⟩ ⟨ob,ai _ u,t,r⟩ ?_;refine⟨_,[_],_,_,_,rfl,p.kept (t':=j.toks) λb o e=>ai _ e,Lj (b:=false) a _ t r (vs:=d.map (·.2))<|by rw[O];exact Ij m,⟨_,aJ _ rfl,rfl,rfl⟩,λb G=>?_,q ob _ (Jb k e) rfl⟩;have Q:=aQ.mp G;subst Q;exact p.vo (af _) (p.hok.fresh<|af _)
variable{e:jf}{t:TE}
def aac(X:Cx)(t:TE):TE:=λσ H Q=>t σ H λv H'=>∃a o c,H' a=some (.kd o<|.dT c)/\(∀d u,X.H₀ a≠some (.kd d u))/\Q v (upd H' a<|.dT c)
def Wh(h:PE X e t):PE X e (aac X t):=λc s σ H Q I j=>je (h c s σ H _ I j) λv m ⟨x,n,l,d,a,o,i,k,f,q⟩=>⟨x,_,Rw l k f,d,q⟩
noncomputable def qs(c:mV)(e:jd)(a:jk)(f:Nat):jh
 |[],S=>.ok (.loc f) S
 |d::r,S=>match c (a.set 0<|some d) S with
  |.ok b j=>if b=true then(match e (a.set 0 (some d)) j with
   |.ok z i=>(match i[f]? with
    |some (.li h)=>if h.length<sizeLine then qs c e a f r (i.set f<|.li<|h++[z])else .bad
    |_=>.bad)
   |_=>.bad)else qs c e a f r j
  |_=>.bad
def Az(n:Nat)(a:lR):RX Z->RX Z
 |.ok z S=>.ok z (S.set n<|.dt a)
 |_=>.bad
abbrev _root_.yv:=aa (aa Key×Z)->aa Z
def r6(d:yv)(fo:jd)(h:lC)(c:mV)(e:jd):jd:=λρ S=>(fo ρ S).bind λz f=>match z with
 |.loc n=>(match f[n]?,(f[0]?:i0 Cell)with
  |some (.dt a),some Cell.mk=>Az n a (qs c e (mM h ρ) f.length (d a)<|f.set n (.ft a)++[.li []])
  |_,_=>.bad)
 |_=>.bad
def Bc(K:i9)(V:Hp->aa (aa Key×V)->aa V->Prop)(a:yv):Prop:=
 ∀al lo H f c d,V H f d->j4 K al lo H f c->(∀b h,H b=some (.tup h)->al b)->jU K al lo H d (a c)
def ID(X:Cx)(i:Hp->aa (aa Key×V)->aa V->Prop)(N:TE):TI:=λσ H R=>N σ H λx d=>∃a c,x=.ref a/\d a=some (.dT c)/\∀ob f,(∀h u,X.H₀ a≠some (.kd h u))->i d c f->R (yd a ob (.dT c) f) (upd d a<|.kd ob<|.dT c)
theorem jU.at{K:i9}{al:ko}{lo:Lo}{H:Hp}:∀{c:aa V} {a:aa Z},jU K al lo H c a->∀(i:Nat) (v:V),c[i]?=some v->∃z,a[i]?=some z/\jS K al lo H v z
 |_,_,.nil,i,v,h=>by simp at h
 |_,_,.cons r t,0,v,h=>by cases h;exact⟨_,rfl,r⟩
 |_,_,.cons r t,i+1,v,h=>by rw[eH]at h⊢;exact jU.at t i v h
variable{E:XK}{J P:jf}{O:kK}{l:Scope}{T p0:Pos}{fo:jd}{Y:mV}{U:jd}{cl:tL}{Nc:jy}{ci:lC}{x:iS}{Vs:Hp->aa (aa Key×V)->aa V->Prop}{F:yv}
def LQ(hp:Bc X.K Vs F)(hpi:∀N,PE X o N->∃wi,PI X (.Name x p0) J wi/\∀σ H R,ID X Vs N σ H R->wi σ H R)(ho:ZE X E o fo)(hc:X.calm=true)(hg:∀fp s3 I C,PG (X.comp l ([x]++Nc) cl fp s3 I C) (.Name x p0)<|qL 0)(hf:∀fp s3 I C,tN (X.comp l ([x]++Nc) cl fp s3 I C) O Y)
    (he:∀fp s3 I C,ZE (X.comp l ([x]++Nc) cl fp s3 I C) (λ_ _ _=>False) P U)
    (hclos:closureFor l X.env=pure cl)(hkind:l.kind=.function)(hcell:qh l)(hnames:qP l)(qM:nH X cl Nc ci)
    (hsub:∀x c,cl.lookup x=some c->X.env.cells.lookup x=some c)(hhas:∀x,((relabel l X.env).names.lookup x=some .cell\/(relabel l X.env).names.lookup x=some .free)->∃c,cl.lookup x=some c)
    (rE:∀x∈Nc,(relabel l X.env).names.lookup x=some .cell\/(relabel l X.env).names.lookup x=some .free)
    (hs:∀x,foldedSetIterable J X.env x=pure x):ZE X E (.ListComp P [⟨.Name x p0,J,O,0⟩] l T) (r6 F fo ci Y U):=by
 obtain⟨N,pd,rd⟩:=ho;obtain⟨wi,pi,ri⟩:=hpi N pd;refine⟨_,Wh<|Dw (Nt:=[x]) (tn:=1) (te:=Am X.K U) (tc:=xI X.K Y) (g:=qL 0) hc pi hg hf (λfp s3 I C=>(he fp s3 I C).w) hclos hkind hcell hnames qM rfl hsub hhas rE hs,λ{B _ _ _ σ ρ _ Q} s h=>ri _ _ _<|rd s<|iU.mono (iU.split h) λ{z r D H1 S1} s1 x1 y1 h1 v rv=>?_⟩;split at h1
 .rename_i n;split at h1
  .rename_i d q1 q0;obtain⟨a,hn,rfl⟩:=rv;obtain⟨G,g1,g2⟩:=s1.cell hn q1;refine⟨a,G,rfl,g1,λob vs nf hv=>?_⟩;have xa:Xt r H1 r (upd H1 a (.kd ob (.dT G))):=λb o _ hb eb=>⟨hb,by rw[jw λz=>s1.st.na _ a hn (by rw[<-z];exact hb)];exact eb⟩;have rz:=hp r D H1 G d vs hv g2 λb ys e=>s1.st.tl q0 b _ e (.inl ⟨_,rfl⟩);obtain⟨ea,xa'⟩:=s1.toEZ.write hn (o:=.kd ob (.dT G)) (c:=.ft d) (λ_ z=>nomatch z) (λq w=>by unfold lG at w;cases w) ⟨G,ob,j7,g2.mv xa .refl⟩ nofun;intro p hp;have Us:p≠a:=λz=>by rw[z,j7]at hp;cases hp
   have ln:(S1.set n<|.ft d).length=S1.length:=aN;have vy:lQ X.K (λb=>r b/\b≠p) (kF D (S1.set n<|.ft d).length p) (upd (upd H1 a<|.kd ob<|.dT G) p<|.lst []) p (.li []):=⟨[],j7,.nil⟩;have e0:=ea.new hp nc vy nofun;have CA:kF D (S1.set n<|.ft d).length p S1.length=some p:=by unfold kF;rw[aq ln.symm]
   have x0:Xt r H1 (λb=>r b/\b≠p) (upd (upd H1 a<|.kd ob<|.dT G) p<|.lst []):=xa'.trans (o5 hp);have y0:Lx D (kF D (S1.set n<|.ft d).length p):=n6 ea.st p;have hlen:vs.length=(F d).length:=rz.length;refine⟨λi m H2=>∃k A S2,EZ X.K B k A H2 S2/\Xt r H1 k H2/\Lx D A/\A S1.length=some p/\iU X.K B E r D H1 σ ρ (Az n d<|qs Y U (mM ci ρ) S1.length ((F d).drop i) S2) (λz kh mm H' _=>∀v,jS X.K kh mm H' v z->Q v H')/\m=(F d).length - i,⟨_,_,_,_,e0,x0,y0,CA,h1,rfl⟩,?_⟩
   rintro i m H2 ⟨k,A,S2,e2,x2,y2,n2,f,rfl⟩ fz
   have ha:H2 a=some (.kd ob<|.dT G):=fz a ob _ (by rw[jw<|bK Us,j7]);have BD:=Kx s1 e2 x2 y2 ci;have Ys:=jU.mv x2 y2 rz;by_cases hi:i<(F d).length
   .right;refine⟨⟨ha,by simp_all⟩,λv I y=>?_⟩;obtain⟨rfl,Rf⟩:=(show I=H2/\vs[i]?=some v from y);obtain⟨zi,GS,rx⟩:=Ys.at i v Rf;have OT:(F d)[i]=zi:=by rw[ax hi]at GS;exact Option.some.inj GS
    rw[bV hi,OT]at f;unfold qs at f;have c1:RZ X.K B k A I ((mX 1 ci σ).set 0 (some v)) ((mM ci ρ).set 0 (some zi)) S2:=BD.set (by unfold mM;simp) rx;refine⟨⟨by rw[aN,wK],λj hj=>ao<|by walk_at "l"⟩,B,k,A,_,S2,c1,?_⟩;cases qc:Y ((mM ci ρ).set 0 (some zi)) S2 with
    |ok b S3=>
     rw[qc]at f;intro wz xk H4 c3 x3 y3;dsimp only at f;cases b with
     |false=>rw[aA av]at f⊢;exact⟨(F d).length - (i+1),by grind,wz,xk,S3,c3.toEZ,x2.trans x3,y2.trans y3,y3 _ _ n2,f,rfl⟩
     |true=>
      rw[aq rfl]at f⊢;refine⟨B,wz,xk,_,S3,c3,?_⟩;cases qe:U ((mM ci ρ).set 0 (some zi)) S3 with
      |ok z S4=>
       rw[qe]at f;dsimp only at f;split at f
       .rename_i zs q4;split at f
        .rename_i hz;intro tQ C3 H5 c4 x4 y4 u ru;have n4:=y4 _ _ (y3 _ _ n2);obtain⟨ws,g1,g2⟩:=c4.cell n4 q4;have xx:Xt tQ H5 tQ (upd H5 p (.lst (ws++[u]))):=λb o _ hb eb=>⟨hb,by rw[jw λz=>c4.st.na _ p n4 (by rw[<-z];exact hb)];exact eb⟩;obtain⟨e5,x5⟩:=c4.toEZ.write n4 (o:=.lst (ws++[u])) (c:=.li (zs++[z])) nc (λq w=>by unfold lG at w;cases w) ⟨_,j7,jU.mv xx .refl (g2.append (.cons ru .nil))⟩ nofun;exact⟨ws,g1,by rw[g2.length];exact hz,(F d).length - (i+1),by lia,tQ,C3,_,e5,((x2.trans x3).trans x4).trans x5,(y2.trans y3).trans y4,n4,f,rfl⟩
        .exact f.elim
       .exact f.elim
      |_=>rw[qe]at f;exact f.elim
    |_=>rw[qc]at f;exact f.elim
   .left;rw[cm<|by simp_all]at f;have xx:Xt k H2 k (upd H2 a (.dT G)):=λb o _ hb eb=>⟨hb,by rw[jw λz=>e2.st.na _ a (y2 _ _ hn) (by rw[<-z];exact hb)];exact eb⟩;obtain⟨e5,x5⟩:=e2.write (y2 _ _ hn) (o:=.dT G) (c:=.dt d) (λ_ z=>nomatch z) (λq w=>by unfold lG at w;cases w) ⟨G,j7,(g2.mv x2 y2).mv xx .refl⟩ nofun;refine⟨⟨ha,by simp_all⟩,a,ob,G,ha,nf,?_⟩;exact f k A _ ⟨e5,s1.len,λi z e=>let⟨v,k1,k2⟩:=s1.vr i z e;⟨v,k1,k2.mv (x2.trans x5) y2⟩⟩ (x2.trans x5) y2 _ ⟨p,n2,rfl⟩
  .exact h1.elim
 .exact h1.elim
def pickK(a:lR):aa Z:=a.map λp=>.d (.tup<|p.1.map kD)
def uy(a:lR):aa Z:=a.map (·.2)
def Wu:Bc K AN pickK:=by
 intro al lo H j d c hv r i;induction r generalizing c with
 |nil=>cases hv;exact .nil
 |cons k m f=>
  cases hv with
  |cons h t=>obtain⟨b,rfl,a⟩:=h;exact .cons (show Rep K al H (.ref b) _ from .tup (.inl ⟨i b _ a,a⟩) (z9 _)) (f _ t)
def Wv:Bc K (λ_ c a=>a=c.map (·.2)) uy:=by
 intro al lo H c f a hv r j;subst hv;induction r with
 |nil=>exact .nil
 |cons d i h=>exact .cons d h
def tj(fo d:jd):jd:=λρ S=>(fo ρ S).bind λz f=>(d ρ f).bind λy c=>match z,y with
 |.loc n,.d (.tup ds)=>(match lE ds,c[n]? with
  |some k,some (.ft a)=>(match valZ a k with
   |some z=>.ok z c
   |none=>.bad)
  |_,_=>.bad)
 |_,_=>.bad
variable{k:jf}{fk:jd}
def LU(hu:X.A.units+64<cLine)(ho:ZE X E o fo)(hk:ZE X E k fk)(hs:autoParam (uO k) aZ7):ZE X E (.Subscript o k T) (tj fo fk):=by
 obtain⟨to,Q,C⟩:=ho;obtain⟨tk,pk,D⟩:=hk;refine⟨_,Jw (by lia) Q pk hs,λs h=>C s<|iU.mono (iU.split h) λy x1 y1 h1 v z=>D y<|iU.mono (iU.split h1) λ{_ d i m _} j x2 p c u A=>?_⟩;split at c
 .rename_i n ds;split at c
  .rename_i k0 R G q;split at c
   .rename_i z0 I;obtain⟨a,hn,rfl⟩:=z;obtain⟨b,vs,rfl,hb,f⟩:=Rep.o4 (show Rep X.K d m u (.tup ds)from A);have ev:=vC f G;subst ev;obtain⟨r,ob,g1,g2⟩:=j.cell (p _ _ hn) q;obtain⟨w,e1,e2⟩:=g2.val I;exact⟨a,b,r,k0,w,rfl,rfl,.inr ⟨ob,g1⟩,hb,e1,c d i m j .refl .refl w e2⟩
   .exact c.elim
  .exact c.elim
 .exact c.elim
def aa6(i nm)(hc:X.calm=true)(G:ZE X E J fo)(Q:∀s n u C,PG (X.comp l ([x]++[y]) [(y,c)] s n u C) (.Name x p0)<|qL 0)(hf:∀s n u C,tN (X.comp l ([x]++[y]) [(y,c)] s n u C) O Y)
 (R:∀s n u C,ZE (X.comp l ([x]++[y]) [(y,c)] s n u C) (λ_ _ _=>False) P U)
 (f:l.kind=.function)(m:qh l)(a:qP l)
 (hN:X.N[i]?=some y)(I:X.env.kindOf y=some .cell)(w:X.env.cells.lookup y=some c)(j:closureFor l X.env=pure [(y,c)])(v:(relabel l X.env).names=nm)
 (r:∀p∈nm,(p.2=.cell\/p.2=.free)->p.1=y)(A:nm.lookup y=some .cell\/nm.lookup y=some .free)
 (D:autoParam (∀x,foldedSetIterable J X.env x=pure x) aZ2):ZE X E (.ListComp P [⟨.Name x p0,J,O,0⟩] l T) (r6 pickK fo [i] Y U):=by
  refine LQ Wu (λN h=>⟨_,Wm h,λ_ _ _ h=>h⟩) (cl:=[(y,c)]) (Nc:=[y]) (ci:=[i]) G hc Q hf R j f m a (.cons hN (.inl I) (by rw[w];simp[List.lookup]) .nil) (λz d q=>?_) (λz q=>?_) (λz hz=>?_) D;.grind
  .rw[v]at q;have:z=y:=q.elim (λq=>r _ (bz q)<|.inl rfl) λq=>r _ (bz q) (.inr rfl);simp_all
  .simp_all
def aa7{M L:Pos}(G:X.calm=true)(w:ZE X E o fo)(A:∀r p s C,PG (X.comp l [x] [] r p s C) (.Name x p0)<|qL 0)(hf:∀r p s C,tN (X.comp l [x] [] r p s C) O Y)
 (D:∀r p s C,ZE (X.comp l [x] [] r p s C) (λ_ _ _=>False) P U)
 (a:∀y∈l.names,y.2≠.free)(j:l.kind=.function)(d:qh l)(f:qP l)
 (m:autoParam (attributeBase o "values" X.env (eval o X.env)=eval o X.env) aZ0)(i:autoParam ((M.endLine==L.line)=true) aZ0)
 (v:autoParam (∀x,foldedSetIterable (.Call (.Attribute o "values" M) [] [] L) X.env x=pure x) aZ2):ZE X E (.ListComp P [⟨.Name x p0,.Call (.Attribute o "values" M) [] [] L,O,0⟩] l T) (r6 uy fo [] Y U):=by
  have e:relabel l X.env=l:=by
   have:l.names.map (λ(n,k)=>if(k==NameKind.free&&X.env.scope.kind==.function&&X.env.kindOf n==some .cell)then(n,NameKind.cell)else(n,k))=l.names:=by
    refine map_eq_self λy u=>?_;obtain⟨n,k⟩:=y;have:(k==NameKind.free)=false:=by simpa using a _ u
    simp[this]
   unfold relabel;rw[this]
  refine LQ Wv (λN h=>⟨_,Wn h m i,λσ H R q=>?_⟩) (cl:=[]) (Nc:=[]) (ci:=[]) w G (by rw[aU];exact A) (by rw[aU];exact hf) (by rw[aU];exact D) (closureFor_none a) j d f .nil (λx c z=>nomatch z) (λx z=>?_) (λx z=>nomatch z) v;.exact q
  .rw[e]at z;rcases z with z|z;.exact absurd rfl (d _<|bz z)
   .exact absurd rfl (a _<|bz z)
end
open PySem.Spec PySem.Calls PySem.W yr
open PyProof.Rows hiding St K
def tD(a:oo):D:=.tup (a.map kD)
def vV:aa D->i0 (aa<|aa Key)
 |[]=>some []
 |.tup ds::r=>(lE ds).bind λa=>(vV r).map (a:: ·)
 |_=>none
theorem K9:∀{c} {a},vV c=some a->a.map tD=c
 |[],_,h=>by cases h;rfl
 |.tup x::r,_,h=>by obtain⟨k,i,f⟩:=aL.mp h;obtain⟨j,d,rfl⟩:=ay.mp f;rw[aD,K9 d];show D.tup (k.map kD)::r=_;rw[CQ i]
 |.non::_,_,h=>by cases h
 |.bl _::_,_,h=>by cases h
 |.int _::_,_,h=>by cases h
 |.str _::_,_,h=>by cases h
 |.ty _::_,_,h=>by cases h
 |.ref _::_,_,h=>by cases h
 |.lst _::_,_,h=>by cases h
 |.exc _ _ _::_,_,h=>by cases h
theorem Ia:∀a:aa Key,lE (a.map kD)=some a
 |[]=>rfl
 |k::r=>by show(ml<|kD k).bind (λk=>(lE<|r.map kD).map (k:: ·))=_;rw[Ia r];cases k<;>rfl
def l5:aa (aa Key)->aa (aa Key)
 |[]=>[]
 |k::r=>if(r.any λj=>decide<|j=k)=true then l5 r else k::l5 r
def FC{k}{r:yz}:(r.any λj=>decide<|j=k)=true↔k∈r:=by simp
theorem qg(x):∀a:aa (aa Key),x∈l5 a↔x∈a
 |[]=>Iff.rfl
 |k::r=>by
  unfold l5;by_cases h:(r.any λj=>decide<|j=k)=true
  .rw[aq h,qg x r,aI];exact⟨.inr,λz=>z.elim (λz=>by rw[z];exact FC.mp h) id⟩
  .rw[aA h,aI,aI,qg x r]
theorem xn:∀a:aa (aa Key),(l5 a).Nodup
 |[]=>.nil
 |k::r=>by
  unfold l5;by_cases h:(r.any λj=>decide<|j=k)=true;.rw[aq h];exact xn r
  .rw[aA h];exact bA.mpr ⟨λz=>h<|FC.mpr<|(qg k r).mp z,xn r⟩
theorem Iv:∀a:aa (aa Key),(l5 a).length<=a.length
 |[]=>af _
 |k::r=>by
  have d:=Iv r;have c:(k::r).length=r.length+1:=rfl;unfold l5;split;.walk_at "l"
  .rw[au];walk_at "l"
noncomputable def pF:D->R (aa D)
 |.lst ds=>match vV ds with
  |some a=>if nG ds=true/\ds.length<64 then .ok (kJ<|(l5 a).map tD)else .bad
  |none=>.bad
 |_=>.bad
variable{X:Cx}
def Sn{w}:∀{l} {c} {f} {j},lE l=some c->ja K al H f l->Vals f j->ItemsAre (jP P w) c j:=by
 intro l c f j h r v;induction l generalizing c f j with
 |nil=>cases r;cases v;cases h;exact .nil
 |cons d _ n=>
  cases r with
  |cons a b=>
   cases v with
   |cons hv o=>
    obtain⟨k,m,q⟩:=aL.mp h;obtain⟨c,p,rfl⟩:=ay.mp q;refine .cons ?_ (n p b o);cases d with
    |int i=>cases m;cases a;exact oE hv
    |str i=>cases m;cases a;exact oE hv
    |_=>cases m
def aap{s}(I:Inv X pins σ H s){u}(r:Rep X.K al H v (tD ks))(hv:RelV v u):∃b,u=.ref b/\v=.ref b/\mK X.prog X.w s.heap ks b:=by obtain⟨a,k,rfl,f,d⟩:=r.o4;obtain rfl:u=.ref a:=hv;obtain⟨c,q,⟨o,j,i,n,h⟩,_⟩:=I.tuple f;exact⟨a,rfl,rfl,o,_,n,j,i,h,Sn (Ia ks) d q⟩
def OX{w}(h:ItemsAre (jP P w) ks vs):qZ (ks.map kD) vs:=by
 induction h with
 |nil=>exact .nil
 |@cons k v ks vs c _ a=>
  refine .cons ?_ a;have:=CK c;cases k with
  |inl i=>obtain⟨t,rfl⟩:=(show∃t,v=Value.int i t from this);rfl
  |inr x=>obtain⟨t,rfl⟩:=(show∃t,v=Value.str x t from this);rfl
def item_tup{w}(x:mK P w h ks b):q8 h (.ref b) (tD ks):=by obtain⟨o,a,n,c,i,f,d⟩:=x;exact⟨b,o,a,n,rfl,c,i,f,OX d⟩
def DV:iT->V
 |.ref b=>.ref b
 |_=>.non
variable{E:XK}{e:jf}{ta:TE}{f:jx}{p1 p2 pos sW:Pos}
def JC(hc:X.calm=true)(m:X.A.units+64<cLine)(he:PE X e ta)(hg:Gl X "sorted")(hm:X.mg "sorted"=none)(hg2:Gl X "set")(hm2:X.mg "set"=none)
 (hs:X.se e [])(hpl:X.bk sW [])
 (hs2:starEach [.Call (.Name "set" p2) [e] [] sW] X.env=(false,eval (.Call (.Name "set" p2) [e] [] sW) X.env)::starEach [] X.env)(L:X.bk pos []):
   PE X (.Call (.Name "sorted" p1) [.Call (.Name "set" p2) [e] [] sW] [] pos) (λσ H Q=>ta σ H λx0 j=>∃x,[x0]=[x]/\∃l R n al kL,x=.ref l/\lH X.K j l R/\ja X.K al j R n/\vV n=some kL/\nG n=true/\n.length<64/\∀p ws,j p=none->ja X.K al j ws (kJ<|(l5 kL).map tD)->Q (.ref p) (upd j p<|.lst ws)):=by
  refine JD he hg hm hg2 hm2 (λI s1 σ j x u Q Y ru q1=>?_) hs hpl hs2 L;obtain⟨l,R,n,al,kL,rfl,hl,rv,hk,hh,Ho,q⟩:=q1;obtain rfl:u=Value.ref l:=ru;obtain⟨c,vv,pl,hz⟩:=Y.list hl;have D:=K9 hk;obtain⟨sg,Ra⟩:=zq hh;have SA:n.length=kL.length:=by rw[<-D,aj]
  have lvs:R.length=n.length:=rv.length;have s:c.length=kL.length:=by have:=vv.length;simp_all
  have at_:∀(i:Nat) (v:iT),c[i]?=some v->∃b,v=.ref b/\mK X.prog X.w s1.heap (kL.getD i []) b/\Rep X.K al j (.ref b) (tD<|kL.getD i [])/\tD (kL.getD i [])∈n:=λi v hv=>by
   have T:i<kL.length:=by rw[<-s];exact(az.mp hv).1
   have ed:n[i]?=some (tD<|kL.getD i []):=by rw[<-D,aC,ax T,bN,ax T];rfl
   obtain⟨y,G,V⟩:=rv.getD ed;obtain⟨u',J,ru⟩:=vv.get G;rw[hv]at J;cases J;obtain⟨b,rfl,rfl,tk⟩:=aap Y V ru;exact⟨b,rfl,tk,V,a9 ed⟩
  refine MW (A:=X.A) (items:=c.toArray) (kL:=kL) (Y.ok.hd hc) m pl.isList (by rw[aP];exact s) (λi v hv=>by obtain⟨b,h1,F,_⟩:=at_ i v (by simpa using hv);exact⟨b,h1,F⟩) (by rw[aP];lia) λh tk js SV mem ext=>?_
  have w:∀b o,s1.heap.get? b=some o->h.get? b=some o:=λb o e=>ext b o (aM e) e;have I2:Inv X I σ j {s1 with heap:=h,toks:=tk}:=Y.kept (t':=tk) w;obtain⟨o,U,ep,t,ho,hex,hd,el,hin,hn,Z,acb,acf,N,uu,M⟩:=SV;have hf:t.fits U.size=true:=by have:=Z.fits;rw[aF]at this;exact this
  have C:(mG h U.toList).Perm (l5 kL):=zS uu (xn kL) λx=>by rw[M x,mem x,qg]
  have Og:∀d∈(l5 kL).map tD,kf d=some sg:=λd hd=>by obtain⟨k,QC,rfl⟩:=aH.mp hd;exact Ra _ (by rw[<-D];exact aH.mpr ⟨k,(qg k kL).mp QC,rfl⟩)
  have sl:=dc;have Cz:U.size<=c.length:=by simpa using hn
  have P:∀u∈c,∃b,u=.ref b/\mK X.prog X.w h (tK h u) b/\Rep X.K al j (.ref b) (tD (tK h u)):=λu m=>by obtain⟨i,T,ei⟩:=bL m;obtain⟨b,rfl,F,h3,_⟩:=at_ i u (by rw[ax T,ei]);have t2:=F.at' (λo e=>w b o e);rw[t2.tK];exact⟨b,rfl,t2,h3⟩
  have O:∀a:aa iT,a.Perm (U.toList.map Prod.snd)->(∀v∈a,v∈c)/\(a.map λu=>tD<|tK h u).Perm ((l5 kL).map tD)/\a.length<64:=λa hp=>by
   have fl:∀v∈a,v∈c:=λv hv=>by obtain⟨e,he,rfl⟩:=aH.mp (hp.mem_iff.mp hv);simpa using hin e he
   have p1:(a.map λu=>tK h u).Perm (l5 kL):=by have:=hp.map λu=>tK h u;rw[bh]at this;exact this.trans C
   refine⟨fl,?_,?_⟩
   .have:=p1.map tD;rw[bh]at this;exact this
   .have:=p1.length_eq;rw[aj]at this;have:=Iv kL
    lia
  have z:∀a:aa iT,(∀v∈a,v∈c)->Vals (a.map DV) a/\ja X.K al j (a.map DV) (a.map λu=>tD<|tK h u):=λa=>by
   induction a with
   |nil=>intro _;exact⟨.nil,.nil⟩
   |cons u r ih=>
    intro m;obtain⟨g1,g2⟩:=ih λv hv=>m v (.tail _ hv);obtain⟨b,G,_,h3⟩:=P u (m u<|.head _);have V:DV u=.ref b:=by rw[G];rfl
    rw[aD,aD,V];exact⟨.cons (by rw[G];rfl) g1,.cons h3 g2⟩
  refine KY hc I2 ⟨o,ho,hex,hd,hf⟩ ⟨N,λ_=>Z.ql,λ_=>Z.pw⟩ (by lia) Og O z (λt' kp a=>?_) q;induction a with
  |nil=>intro _;exact .nil
  |cons u r ih=>intro m;obtain⟨b,G,F,_⟩:=P u (m u<|.head _);refine .cons ?_ (ih λv hv=>m v<|.tail _ hv);rw[G]at F⊢;exact q8.keep (item_tup F) kp
def N5(L:X.calm=true)(y:X.A.units+64<cLine)(I:Gl X "sorted")(D:X.mg "sorted"=none)(m:Gl X "set")(k:X.mg "set"=none)(J:DE X E e f)
    (A:autoParam (X.se e []) aZ0)(j:autoParam (X.bk sW []) aZ0)
    (i:autoParam (starEach [.Call (.Name "set" p2) [e] [] sW] X.env=(false,eval (.Call (.Name "set" p2) [e] [] sW) X.env)::starEach [] X.env) aZ0)(c:autoParam (X.bk pos []) aZ0):
    DN X E (.Call (.Name "sorted" p1) [.Call (.Name "set" p2) [e] [] sW] [] pos) (λρ=>(f ρ).bind pF):=by
 obtain⟨t,p,r⟩:=J;refine⟨_,JC L y p I D m k A j i c,λ{_ _ al _ _ _ _} s h=>r s<|Aft.mono (Aft.split h) λ{_ n} N a v u=>⟨v,rfl,?_⟩⟩;unfold pF at a;split at a
 .rename_i M;split at a
  .rename_i w G;split at a
   .rename_i z;obtain⟨l,q,rfl,F,d⟩:=u.oU;exact⟨l,q,M,al,w,rfl,F,d,G,z.1,z.2,λp o C x=>a n (.refl n) p o C x⟩
   .exact a.elim
  .exact a.elim
 .exact a.elim
end P2
namespace P2
open PySem L2
def Ay(f:jd):jd:=λρ S=>(f ρ S).bind λz a=>match z with
 |.d d=>(match pF d with
  |.ok ds=>.ok (.d<|.lst ds) a
  |_=>.bad)
 |_=>.bad
section
variable{X:Cx}{E:XK}{e:jf}{f:jd}{b a i c:Pos}
def abk(J:X.A.units+64<cLine)(T:X.calm=true)(Q:Gl X "sorted")(N:X.mg "sorted"=none)(A:Gl X "set")(z:X.mg "set"=none)(R:ZE X E e f)
 (L:autoParam (X.se e []) aZ0)(y:autoParam (X.bk a []) aZ0)
 (x:autoParam (starEach [.Call (.Name "set" c) [e] [] a] X.env=(false,eval (.Call (.Name "set" c) [e] [] a) X.env)::starEach [] X.env) aZ0)(o:autoParam (X.bk b []) aZ0):
   ZE X E (.Call (.Name "sorted" i) [.Call (.Name "set" c) [e] [] a] [] b) (Ay f):=by
  obtain⟨t,p,r⟩:=R;refine⟨_,JC T J p Q N A z L y x o,λs h=>r s<|iU.mono (iU.split h) λ{_ j n Y _} D x1 Z m v G=>⟨v,rfl,?_⟩⟩;split at m
  .rename_i d;have w:Rep X.K j Y v d:=G;unfold pF at m;split at m
   .rename_i U k;split at k
    .rename_i V;split at k
     .rename_i I P;split at k
      .rename_i C;cases k;obtain⟨l,F,rfl,O,u⟩:=w.oU;exact⟨l,F,V,j,I,rfl,O,u,P,C.1,C.2,λp ws q M=>m j n _ (D.grow<|lV q) (.of<|lV (K:=X.K) q) .refl _<|show jS X.K j n _ (.ref p) (.d<|.lst _)from M.rK q (D.fresh p q)⟩
      .cases k
     .cases k
    .cases k
   .exact m.elim
  .exact m.elim
end
def wL(x y:D):R D:=match BE x y with
 |.ok ds=>.ok (.lst ds)
 |_=>.bad
def UL:lh X E (binaryOp .Add) wL:=by
 refine⟨_,Jm,λfr n k h=>?_⟩;unfold wL BE at h;split at h
 .rename_i r a;split at a
  .split at a
   .rename_i z;cases a;obtain⟨l,j,rfl,q,f⟩:=n.zz;obtain⟨m,i,rfl,o,d⟩:=k.zz;exact⟨l,m,j,i,rfl,rfl,q,o,by rw[f.length,d.length];exact z,λp c=>h _ (lV c) _ ((f.append d).rK c (fr p c))⟩
   .cases a
  .cases a
 .exact h.elim
end P2
namespace WM
open PySem L2 P2 WP
def tS(a:Ad)(d c:jg):jI:=(pD 1<|dA c<|iK (dV 2) iQ)
def ud(a:Ad)(c d:jg):jI:=(jW (uC 1 (λρ=>((iK (dV 0) iQ) ρ).bind ju))
    (jW (uB (λρ=>((dA c (iK (dV 0) iQ)) ρ).bind jT) (gV 2) (tS a c d))
    (λρ=>(ku (dV 1)) (pW 1 ρ))))
def BV(a:Ad)(c:jg):jI:=(jW (lF 1 (dA c (iK (dV 0) iQ)))
    (jW (lF 2 (jt (λρ=>((jt (kW (λρ=>((dV 1) ρ).bind jT) 1 [] (gV 0) (b1 tB (d2 pZ (iN 0 0) (dA jj (iK (i8 "back") (iK (i8 "ago") iQ))))) (iN 0 1))) ρ).bind oJ)))
    (jW (lF 3 (jt (λρ=>((jt (kW (λρ=>((dV 1) ρ).bind jT) 1 [] (gV 0) (b1 tB (d2 pZ (iN 0 0) (dA jj (iK (i8 "on") (iK (i8 "until") iQ))))) (iN 0 1))) ρ).bind oJ)))
    (jW (lF 4 (jt (λρ=>((jt (kW (λρ=>((dV 1) ρ).bind jT) 1 [] (gV 0) (b1 tB (d2 jm (iN 0 0) (i8 "at"))) (iN 0 1))) ρ).bind oJ)))
    (jW (uC 5 (λρ=>((iK (dA jj (iK (i8 "here") iQ)) iQ) ρ).bind ju))
    (jW (pD 5 (jt (kW (λρ=>((dV 2) ρ).bind jT) 1 [] (gV 0) (λ_=>.ok true) (dA jj (iK (i8 "back") (iK (dV 0) iQ))))))
    (jW (pD 5 (jt (kW (λρ=>((dV 3) ρ).bind jT) 1 [] (gV 0) (λ_=>.ok true) (dA jj (iK (i8 "on") (iK (dV 0) iQ))))))
    (jW (pD 5 (jt (kW (λρ=>((dV 4) ρ).bind jT) 1 [] (gV 0) (λ_=>.ok true) (dA jj (iK (i8 "at") (iK (dV 0) iQ))))))
    (λρ=>(ku (dV 5)) (pW 5 ρ))))))))))
def B8(a:Ad)(c:jg)(b:Nat):ji:=(jo<|zF c<|iL (z2 ni (z2 jq (pO (zV 2)<|zD<|dV 1)<|zD<|iP 0)<|z2 jq (pO (zV 2)<|zD<|dV 0)<|zD<|iP 0)<|iL (zD<|iP 1) iY)
def pA(a:Ad)(f k j i h:jg)(c d:jh)(b:Nat):ji:=(iO (i4 2 (zD (iN 0 0)))
    (iO (jr (zB (b1 tB (d2 jm (dV 2) (i8 "num")))) (jo (zD (dA f (iK (d2 jq (iN 0 1) (iP 0)) (iK (d2 jq (iN 0 1) (iP 1)) iQ))))) jA)
    (iO (jr (zB (b1 tB (d2 jm (dV 2) (i8 "ago")))) (jo (zZ c (iL (zD (dA jj (iK (i8 "back") (iK (iN 0 1) iQ)))) (iL (zD (dA jj (iK (i8 "here") iQ))) (iL (zV 1) iY))))) jA)
    (iO (jr (zB (b1 tB (d2 jm (dV 2) (i8 "until")))) (jo (zZ c (iL (zD (dA jj (iK (i8 "here") iQ))) (iL (zD (dA jj (iK (i8 "on") (iK (iN 0 1) iQ)))) (iL (zV 1) iY))))) jA)
    (iO (jr (zB (b1 tB (d2 jm (dV 2) (i8 "+")))) (jo (zF k (iL (zZ d (iL (zD (iN 0 1)) (iL (zV 1) iY))) (iL (zZ d (iL (zD (iN 0 2)) (iL (zV 1) iY))) iY)))) jA)
    (iO (jr (zB (b1 tB (d2 jm (dV 2) (i8 "-")))) (jo (zF j (iL (zZ d (iL (zD (iN 0 1)) (iL (zV 1) iY))) (iL (zZ d (iL (zD (iN 0 2)) (iL (zV 1) iY))) iY)))) jA)
    (iO (jr (zB (b1 tB (d2 jm (dV 2) (i8 "times")))) (jo (zF i (iL (zD (iN 0 1)) (iL (zZ d (iL (zD (iN 0 2)) (iL (zV 1) iY))) iY)))) jA)
    (iO (jr (zB (b1 tB (d2 jm (dV 2) (i8 "abs")))) (jo (zF h (iL (zZ d (iL (zD (iN 0 1)) (iL (zV 1) iY))) iY))) jA)
    (iO (i4 3 (z2 jq (pO (zV 1) (zD (dV 0))) (zD (iP 1))))
    (jo (zD (dA f (iK (iN 3 0) (iK (iN 3 1) iQ))))))))))))))
def y6(a:Ad)(f:jg)(d c:jh)(b:Nat):ji:=(iO (i4 2 (zD (iN 0 0)))
    (iO (jr (zB (b1 tB (d2 jm (dV 2) (i8 "<")))) (jo (zF f (iL (zZ d (iL (zD (iN 0 1)) (iL (zV 1) iY))) (iL (zZ d (iL (zD (iN 0 2)) (iL (zV 1) iY))) iY)))) jA)
    (iO (jr (zB (b1 tB (d2 jm (dV 2) (i8 "=")))) (jo (z2 oz (zZ d (iL (zD (iN 0 1)) (iL (zV 1) iY))) (zZ d (iL (zD (iN 0 2)) (iL (zV 1) iY))))) jA)
    (iO (jr (zB (b1 tB (d2 jm (dV 2) (i8 "not")))) (jo (wg (zZ c (iL (zD (iN 0 1)) (iL (zV 1) iY))))) jA)
    (iO (jr (zB (b1 tB (d2 jm (dV 2) (i8 "and")))) (jo (Av (zZ c (iL (zD (iN 0 1)) (iL (zV 1) iY))) (zZ c (iL (zD (iN 0 2)) (iL (zV 1) iY))))) jA)
    (jo (Ax (zZ c (iL (zD (iN 0 1)) (iL (zV 1) iY))) (zZ c (iL (zD (iN 0 2)) (iL (zV 1) iY))))))))))
def tR(a:Ad):ji:=(iO (i4 3 (tp (qr a.Sight (zV 0) "masts") (zD (iN 2 0)) (kY (λρ=>(iQ ρ).bind ju))))
    (iO (rZ (qr a.Sight (zV 0) "places") (uH (iL (zD (iN 2 0)) (iL (zD (iN 2 1)) iY))) (zR (dA l7 (iK (dV 3) iQ))))
    (nj 3 (zD (dV 2)))))
def BR(a:Ad)(b:Nat):ji:=(iO (xK a.Sight (zV 0) "masts" uI)
    (iO (xK a.Sight (zV 0) "places" qY)
    (k8 (λρ=>((dV 1) ρ).bind jT) (hV 2) (tR a))))
def BS(a:Ad)(b:Nat):ji:=(iO (i4 3 (zD (sN (b1 tB (d2 jm (iN 2 0) (i8 "at"))) (iN 2 1) (iN 1 0))))
    (iO (i4 4 (xO (qr a.Sight (zV 0) "places") (uH (iL (zD (dV 3)) (iL (zD (iN 1 1)) iY)))))
    (iO (jr (v9 (zV 4)) (jo (zD (dC .non))) jA)
    (iO (jr (zB (b1 tB (d2 jm (iN 2 0) (i8 "back")))) (Aq 4 Bo (zD (iN 2 1))) jA)
    (iO (jr (zB (b1 tB (d2 jm (iN 2 0) (i8 "on")))) (Aq 4 Bn (zD (iN 2 1))) jA)
    (iO (i4 5 (v8 (qr a.Sight (zV 0) "masts") (dV 3)))
    (jo (zR (sN (b1 tB (wN xf mQ (iP 0) (dV 4) (dA l7 (iK (dV 5) iQ)))) (d2 jq (dV 5) (dV 4)) (dC .non))))))))))
def qG(a:Ad)(c:jh):ji:=(iO (i4 5 (wc a.Sight "one_seen" c [] (zV 0) (iL (zD (dV 1)) (iL (zD (dV 4)) iY))))
    (iO (jr (v9 (zV 5)) (jo (zD (dC .non))) jA)
    (rZ (zV 3) (qX (zD (dV 4))) (zD (dV 5)))))
def yX(a:Ad)(c:jh)(b:Nat):ji:=(iO (i4 3 qY)
    (iO (k8 (λρ=>((dV 2) ρ).bind jT) (hV 4) (qG a c))
    (jo (zV 3))))
def BW(a:Ad)(b:Nat):ji:=(jo<|Eu<|r6 pickK (zV 0) [0] qu<|zF jj<|iL (zD<|dV 0)<|iL (zF jj<|iL (z2 jq (tj (zV 1)<|zD<|dV 0)<|zD<|iP 1)<|iL (z2 jq (tj (zV 1)<|zD<|dV 0)<|zD<|iP 2) iY) iY)
def BZ(a:Ad)(b:Nat):ji:=(iO (i4 1 (Ay (pN (r6 uy (zV 0) [] qu (zD (dA jj (iK (iN 0 1) (iK (iN 0 0) iQ))))))))
    (jo (zD (jt (kW (λρ=>((dV 1) ρ).bind jT) 1 [] (gV 0) (λ_=>.ok true) (dA jj (iK (iN 0 1) (iK (iN 0 0) iQ))))))))
def pU(a:Ad)(j k:jg)(h c d i f:jh):ji:=(iO (i4 9 (wc a.Sight "seen_from" c [] (zV 5) (iL (zD (dV 8)) (iL (zD (dV 6)) iY))))
    (jr (th (wa (zV 9)) (o6 tT (zZ i (iL (zD (iN 4 1)) (iL (zZ d (iL (zV 9) iY)) iY))))) (nj 2 (zF jj (iL (zD (iN 8 0)) (iL (zD (iN 8 1)) (iL (zD (iN 4 0)) (iL (zZ f (iL (zV 9) iY)) iY)))))) (nj 7 (zD (dV 8)))))
def qH(a:Ad)(i f:jg)(c d h k j:jh)(b:Nat):ji:=(iO (i4 5 (wb a.Sight c (iL (zD (dV 3)) iY)))
    (iO (i4 6 (zD (dA f (iK (iN 4 1) iQ))))
    (iO (i4 7 (kY (λρ=>(iQ ρ).bind ju)))
    (iO (k8 (λρ=>((dV 3) ρ).bind jT) (hV 8) (pU a i f c d h k j))
    (qq b 7 (i4 3 (zD (dV 7))))))))
def Cj(a:Ad)(b:Nat):ji:=(iO (jr (qt (b1 tB (d2 jm (iN 0 1) (iP 0)))) (iO (i4 2 (zR (d2 jJ (iN 0 0) (dV 1))))
    (iO (vZ 0 (iP 0) (zR (d2 kx (iN 0 0) (dV 1))))
    (jo (zD (dV 2))))) jA)
    (iO (vZ 0 (iP 0) (zR (d2 jJ (d2 jV (d2 jF (d2 jJ (iN 0 0) (iP 2147483647)) (iP 48271)) (iP 1013)) (iP 2147483629))))
    (jo (zR (d2 jJ (d2 kx (d2 jJ (d2 jF (iN 0 0) (iP 69621)) (iP 2147483587)) (iP 11)) (dV 1))))))
def Cq(a:Ad)(d:jg)(c:jh)(b:Nat):ji:=(iO (i4 1 (zZ c (iL (zV 0) (iL (zD (iP 8)) iY))))
    (iO (jr (zB (b1 tB (d2 jm (dV 1) (iP 7)))) (jo (zF jj (iL (z2 jF (zZ c (iL (zV 0) (iL (zD (d2 zX (iP 10) (iP 60))) iY))) (z2 ni (zD (iP 1)) (z2 jF (zD (iP 2)) (zZ c (iL (zV 0) (iL (zD (iP 2)) iY)))))) (iL (zD (iP 1)) iY)))) jA)
    (iO (jr (zB (b1 tB (d2 jm (dV 1) (iP 6)))) (jo (zF d (iL (z2 ni (zZ c (iL (zV 0) (iL (zD (iP 9)) iY))) (zD (iP 3))) (iL (zD (iP 2)) iY)))) jA)
    (jo (zF jj (iL (zZ c (iL (zV 0) (iL (zD (iP 4)) iY))) (iL (zD (iP 1)) iY)))))))
def tU(a:Ad)(d:jg)(f c:jh):ji:=(iO (nj 4 (zF jj (iL (zD (d2 jq (dV 3) (d2 jJ (dV 6) (iP 3)))) (iL (zD (dV 5)) (iL (zZ c (iL (zV 7) iY)) iY)))))
    (i4 5 (zD (d2 jV (dV 5) (iP 1)))))
def wF(a:Ad)(d:jg)(f c:jh):ji:=(nj 4<|zF jj<|iL (zD<|dV 11)<|iL (zD<|dV 5)<|iL (zZ c<|iL (zV 7) iY) iY)
def sJ(a:Ad)(d:jg)(c f:jh):ji:=(iO (jr (qt (b1 tB (d2 sQ (dA l7 (iK (dV 4) iQ)) (dV 2)))) kT.bk jA)
    (iO (i4 7 (kY (λρ=>((iK (dV 6) (iK (d2 jJ (d2 kx (dA d (iK (dV 0) (iK (iP 0) iQ))) (iP 7)) (iP 2)) iQ)) ρ).bind ju)))
    (iO (i4 5 (z2 jV (zD (d2 jV (dV 5) (iP 1))) (zZ c (iL (zV 7) (iL (zD (iP 4)) iY)))))
    (iO (jr (o6 tB (z2 jm (zZ c (iL (zV 7) (iL (zD (iP 9)) iY))) (zD (iP 1)))) (i4 5 (z2 jV (zD (dV 5)) (zZ c (iL (zV 7) (iL (zD (iP 3000)) iY))))) jA)
    (iO (i4 8 (zZ c (iL (zV 7) (iL (zD (iP 12)) iY))))
    (iO (jr (qt (sL (b1 tB (d2 jm (dV 8) (iP 11))) (b1 tB (d2 mQ (dA l7 (iK (dV 4) iQ)) (iP 50))))) (k8 (λρ=>((iK (iP 9) iQ) ρ).bind qT) (hV 9) (tU a d c f)) jA)
    (iO (i4 10 (zD (d2 jq (jt (λρ=>((iK (jt (λρ=>((iK (iP 0) iQ) ρ).bind ju)) (iK (jt (λρ=>((iK (iP 0) iQ) ρ).bind ju)) (iK (jt (λρ=>((iK (iP 0) iQ) ρ).bind ju)) (iK (jt (λρ=>((iK (iP 1) iQ) ρ).bind ju)) (iK (jt (λρ=>((iK (iP 0) (iK (iP 1) iQ)) ρ).bind ju)) (iK (jt (λρ=>((iK (iP 0) (iK (iP 1) (iK (iP 2) iQ))) ρ).bind ju)) (iK (jt (λρ=>((iK (iP 2) iQ) ρ).bind ju)) (iK (jt (λρ=>((iK (iP 0) (iK (iP 2) iQ)) ρ).bind ju)) (iK (jt (λρ=>((iK (iP 1) (iK (iP 2) iQ)) ρ).bind ju)) (iK (jt (λρ=>((iK (iP 1) iQ) ρ).bind ju)) (iK (jt (λρ=>((iK (iP 0) iQ) ρ).bind ju)) (iK (jt (λρ=>((iK (iP 0) (iK (iP 1) iQ)) ρ).bind ju)) iQ)))))))))))) ρ).bind ju)) (dV 8))))
    (k8 (λρ=>((jt (λρ=>((jt (kW (λρ=>((dV 10) ρ).bind jT) 1 [3] (gV 0) (λ_=>.ok true) (d2 jq (dV 1) (dV 0)))) ρ).bind xE)) ρ).bind jT) (hV 11) (wF a d c f)))))))))
def zg(a:Ad)(c:jg)(f d:jh)(b:Nat):ji:=(iO (i4 4 (kY (λρ=>(iQ ρ).bind ju)))
    (iO (i4 5 (zD (d2 jJ (dA c (iK (dV 0) (iK (iP 1) iQ))) (d2 ni (d2 zX (iP 10) (iP 9)) (d2 zX (iP 10) (iP 6))))))
    (iO (k8 (λρ=>((sO qV (dV 0) (λρ=>((dV 1) ρ).bind pI) (λρ=>((d2 jV (dV 1) (iP 60)) ρ).bind pI)) ρ).bind jT) (hV 6) (sJ a c f d))
    (qq b 4 (jo (zD (dV 4)))))))
def Cp(a:Ad)(d:jg)(c:jh)(b:Nat):ji:=(iO (i4 2 (zZ c (iL (zV 0) (iL (zD (iP 10)) iY))))
    (iO (jr (zB (b1 tB (d2 jm (dV 2) (iP 0)))) (jo (zF jj (iL (zD (i8 "num")) (iL (zF d (iL (zZ c (iL (zV 0) (iL (zD (iP 9)) iY))) (iL (z2 jV (zD (iP 1)) (zZ c (iL (zV 0) (iL (zD (iP 3)) iY)))) iY))) iY)))) jA)
    (iO (jr (zB (sL (b1 tB (d2 jm (dV 2) (iP 8))) (b1 tB (d2 qi (dV 1) (jt (λρ=>(iQ ρ).bind ju)))))) (jo (zF jj (iL (zD (i8 "at")) (iL (z2 jq (zD (dV 1)) (zZ c (iL (zV 0) (iL (zD (dA l7 (iK (dV 1) iQ))) iY)))) iY)))) jA)
    (iO (jr (zB (b1 tB (d2 pZ (dV 2) (jt (λρ=>((iK (iP 1) (iK (iP 2) (iK (iP 8) (iK (iP 9) iQ)))) ρ).bind ju))))) (jo (zD (dA jj (iK (i8 "here") iQ)))) jA)
    (iO (i4 3 (z2 jV (zD (iP 1)) (zZ c (iL (zV 0) (iL (zD (iP 3)) iY)))))
    (iO (jr (zB (b1 tB (d2 jm (dV 3) (iP 3)))) (i4 3 (z2 jV (zD (iP 1)) (zZ c (iL (zV 0) (iL (zD (iP 9)) iY))))) jA)
    (jo (zD (dA jj (iK (d2 jq (jt (λρ=>((iK (i8 "back") (iK (i8 "back") (iK (i8 "on") (iK (i8 "ago") (iK (i8 "until") iQ))))) ρ).bind ju)) (d2 ni (dV 2) (iP 3))) (iK (dV 3) iQ)))))))))))
def Co(a:Ad)(f:jg)(c d:jh)(b:Nat):ji:=(iO (i4 2 (zZ c (iL (zV 0) (iL (zD (dC (.int 6))) iY))))
    (iO (i4 3 (zZ d (iL (zV 0) (iL (zD (dV 1)) iY))))
    (iO (jr (zB (b1 tB (d2 jm (dV 2) (dC (.int 3))))) (jo (zF jj (iL (zD (dC (.str "times"))) (iL (zF f (iL (zZ c (iL (zV 0) (iL (zD (dC (.int 4))) iY))) (iL (z2 jV (zD (dC (.int 1))) (zZ c (iL (zV 0) (iL (zD (dC (.int 3))) iY)))) iY))) (iL (zD (dV 3)) iY))))) jA)
    (iO (jr (zB (b1 tB (d2 sQ (dV 2) (dC (.int 3))))) (jo (zD (dV 3))) jA)
    (iO (i4 4 (zZ d (iL (zV 0) (iL (zD (dV 1)) iY))))
    (iO (jr (zB (b1 tB (d2 jm (dV 2) (dC (.int 0))))) (jo (zD (dA jj (iK (dC (.str "abs")) (iK (dA jj (iK (dC (.str "-")) (iK (dV 3) (iK (dV 4) iQ)))) iQ))))) jA)
    (jo (zD (dA jj (iK (d2 jq (jt (λρ=>((iK (dC (.str "+")) (iK (dC (.str "-")) iQ)) ρ).bind ju)) (d2 ni (dV 2) (dC (.int 1)))) (iK (dV 3) (iK (dV 4) iQ))))))))))))
def Ce(a:Ad)(f:jg)(c d:jh)(b:Nat):ji:=(iO (i4 2 (z2 jq (zD (jt (λρ=>((iK (i8 "<") (iK (i8 "<") (iK (i8 "=") iQ))) ρ).bind ju))) (zZ c (iL (zV 0) (iL (zD (iP 3)) iY)))))
    (iO (i4 3 (zZ d (iL (zV 0) (iL (zD (dV 1)) iY))))
    (iO (jr (o6 tB (z2 jm (zZ c (iL (zV 0) (iL (zD (iP 2)) iY))) (zD (iP 0)))) (jo (zF jj (iL (zD (dV 2)) (iL (zD (dV 3)) (iL (zF jj (iL (zD (i8 "num")) (iL (zF f (iL (zZ c (iL (zV 0) (iL (zD (iP 6)) iY))) (iL (z2 jV (zD (iP 1)) (zZ c (iL (zV 0) (iL (zD (iP 2)) iY)))) iY))) iY))) iY))))) jA)
    (jo (zF jj (iL (zD (dV 2)) (iL (zD (dV 3)) (iL (zZ d (iL (zV 0) (iL (zD (dV 1)) iY))) iY))))))))
def Cf(a:Ad)(d c:jh)(b:Nat):ji:=(iO (i4 2 (zZ d (iL (zV 0) (iL (zD (iP 6)) iY))))
    (iO (i4 3 (zZ c (iL (zV 0) (iL (zD (dV 1)) iY))))
    (iO (jr (zB (b1 tB (d2 mQ (dV 2) (iP 3)))) (jo (zD (dV 3))) jA)
    (iO (jr (zB (b1 tB (d2 jm (dV 2) (iP 3)))) (jo (zD (dA jj (iK (i8 "not") (iK (dV 3) iQ))))) jA)
    (jo (zF jj (iL (zD (d2 jq (jt (λρ=>((iK (i8 "and") (iK (i8 "or") iQ)) ρ).bind ju)) (d2 ni (dV 2) (iP 4)))) (iL (zD (dV 3)) (iL (zZ c (iL (zV 0) (iL (zD (dV 1)) iY))) iY)))))))))
def ve(a:Ad)(c:jg)(d:jh):ji:=(iO (i4 7 (kY (λρ=>((iK (dA c (iK (dV 0) (iK (d2 jV (dV 1) (dV 6)) iQ))) (iK (d2 jJ (d2 kx (dA c (iK (dV 0) (iK (iP 0) iQ))) (iP 7)) (iP 2)) iQ)) ρ).bind ju)))
    (nj 5 (zF jj (iL (zD (d2 jq (dV 4) (dV 6))) (iL (zZ d (iL (zV 7) (iL (zD (dV 3)) iY))) iY)))))
def Cn(a:Ad)(d:jg)(c:jh)(b:Nat):ji:=(iO (i4 4 (zD (jt (λρ=>((iK (i8 "a") (iK (i8 "bb") (iK (i8 "ab") (iK (i8 "ba") (iK (i8 "c") (iK (i8 "b") (iK (i8 "aa") (iK (i8 "d") (iK (i8 "e") (iK (i8 "f") (iK (i8 "g") (iK (i8 "h") iQ)))))))))))) ρ).bind ju))))
    (iO (i4 5 (kY (λρ=>(iQ ρ).bind ju)))
    (iO (k8 (λρ=>((iK (dV 2) iQ) ρ).bind qT) (hV 6) (ve a d c))
    (qq b 5 (jo (zD (dV 5)))))))
end WM
namespace P2
open PySem L2
section
variable{X:Cx}{E:XK}{b:Nat}{o k e x:jf}{Q:kK}{fo I N f:jd}{fs:nM}{A p:Pos}
def sR:D->R (aa D)
 |.lst ds=>.ok ds
 |.tup ds=>.ok ds
 |_=>.bad
def Gy{f:jx}(C:Gl X "list")(z:X.mg "list"=none)(D:DE X E e f)(y:autoParam (starEach [e] X.env=[(false,eval e X.env)]) aZ0)(m:autoParam (X.bk A []) aZ0):
    DN X E (.Call (.Name "list" p) [e] [] A) (λρ=>(f ρ).bind sR):=by
 obtain⟨t,p,r⟩:=D;refine⟨_,Dv FV C z yK (rO p rP y) (by decide) (by decide) y m,λs h=>r s<|Aft.mono (Aft.split h) λ{d j} F i v w=>?_⟩;unfold sR at i;split at i
 .obtain⟨a,c,rfl,u,n⟩:=w.oU;exact⟨a,c,rfl,.inl u,λq l=>i j (.refl j) q c l n⟩
 .obtain⟨a,c,rfl,u,n⟩:=w.o4;exact⟨a,c,rfl,.inr u,λq l=>i j (.refl j) q c l n⟩
 .exact i.elim
def Aw(fs:nM):jd:=λρ S=>(fs ρ S).bind λa c=>if a.length<=sizeLine then .ok (.loc c.length) (c++[.li a])else .bad
def abe(v:ZA X E Q fs):ZE X E (.List Q A) (Aw fs):=by
 obtain⟨t,p,r,_⟩:=v;refine⟨_,Jy p,λs h=>r s<|iU.mono (iU.split h) λ{n j c y w} a D C i l m=>?_⟩;split at i
 .rename_i z;refine⟨by rw[m.length];exact z,λq d=>?_⟩;have u:lQ X.K (λb=>j b/\b≠q) (kF c w.length q) (upd y q<|.lst l) q (.li n):=⟨l,j7,jU.mv (o5 d) (n6 a.st q) m⟩;exact i _ _ _ (a.new d nc u nofun) (o5 d) (n6 a.st q) _ ⟨q,by unfold kF;rw[aq rfl],rfl⟩
 .exact i.elim
def r4(fo:jd)(i:Nat):jd:=λρ S=>(fo ρ S).bind λz a=>match z with
 |.loc n=>(match a[n]? with
  |some (.li c)=>(match c[i]? with
   |some z=>.ok z a
   |none=>.bad)
  |_=>.bad)
 |_=>.bad
def wj{i:Nat}{j u}(G:ZE X E o fo)(F:autoParam (ym<|.Constant (.int (i:Int)) j u) aZ7):ZE X E (.Subscript o (.Constant (.int (i:Int)) j u) A) (r4 fo i):=by
 obtain⟨t,p,r⟩:=G;refine⟨_,Dy HQ p Jx F,λs h=>r s<|iU.mono (iU.split h) λ{_ l d R Y} m V U c v C=>?_⟩;split at c
 .rename_i n;split at c
  .rename_i T q;split at c
   .rename_i z D;obtain⟨a,J,rfl⟩:=C;obtain⟨y,M,L⟩:=m.cell J q;obtain⟨w,P,O⟩:=L.get D;exact⟨a,y,_,w,rfl,rfl,.inl<|.inl M,ry P,c l d R m .refl .refl w O⟩
   .exact c.elim
  .exact c.elim
 .exact c.elim
def xP(fo:jd)(I N:jx):jd:=λρ S=>(fo ρ S).bind λz c=>match z with
 |.loc n=>(match c[n]? with
  |some (.dk a)=>(kR (I (j6 ρ)) c).bind λd i=>(kR (N (j6 ρ)) i).bind λx h=>(match ml d with
   |some k=>.ok ((valZ a k).getD (.d x)) h
   |none=>.bad)
  |_=>.bad)
 |_=>.bad
def aa8{I N:jx}{c}(hu:X.A.units+64<cLine)(ho:ZE X E o fo)(hk:DE X E k I)(hx:DE X E x N)(m:M2 X o "get" c k x A):ZE X E (.Call (.Attribute o "get" c) [k,x] [] A) (xP fo I N):=by
 obtain⟨to,po,ro⟩:=ho;obtain⟨tk,pk,rk⟩:=hk;obtain⟨tx,px,V⟩:=hx;refine⟨_,V4 (by lia) po pk px m,λs h=>ro s<|iU.mono (iU.split h) λ{_ t l H1 S1} i x1 y1 r v Y=>?_⟩;split at r
 .rename_i n;split at r
  .rename_i G q;obtain⟨a,M,rfl⟩:=Y;obtain⟨C,g0,_⟩:=i.cell M q;refine⟨a,rfl,.inl ⟨C,.inl g0⟩,rk i.rs<|Aft.mono (iU.toAft i<|iU.split r) λ{d H2} D h2 u ru=>V (i.grow D).rs (Aft.mono (iU.toAft (i.grow D)<|iU.split h2) λ{y P} U j w F=>?_)⟩;split at j
   .rename_i L J;have z:=(i.grow D).grow U;have ek:=w8 ru J;subst ek;obtain⟨T,g1,O⟩:=z.cell M q;refine⟨lz T L,.k g1,?_⟩;cases e:valZ G L with
    |none=>rw[O.none e];rw[e]at j;exact j t l P z .refl .refl w F
    |some z0=>obtain⟨R,e1,e2⟩:=O.val e;rw[e1];rw[e]at j;exact j t l P z .refl .refl R e2
   .exact j.elim
  .exact r.elim
 .exact r.elim
def xS(I fo:jd):jk->iZ->RX i6:=we (LK I fo)
def abR(hu:X.A.units+64<cLine)(R:ZE X E k I)(M:ZE X E o fo)(P:autoParam (behindInMarks .NotIn o=false) aZ6):ZT X E (.Compare k [.NotIn] [o] A) (xS I fo):=by
 obtain⟨to,J,F⟩:=M;obtain⟨tk,pk,G⟩:=R;refine⟨_,WO (VU (by omega) pk J) P,λs h=>G s<|iU.mono (iU.split<|iU.split h) λz x1 y1 U u D=>F z<|iU.mono (iU.split U) λ{_ j d r _} l w t i v C=>?_⟩;split at i
 .rename_i n m;split at i
  .rename_i L q;obtain⟨a,O,rfl⟩:=C;obtain⟨c,ha,T,rfl⟩:=jS.mv w t D;obtain⟨y,Y,V⟩:=l.cell O q;refine⟨a,lz y m,rfl,.t Y T,?_⟩;rw[V.isSome m];exact⟨_,rfl,i j d r l .refl .refl j d r l .refl .refl⟩
  .exact i.elim
 .exact i.elim
def oT(n:Nat)(a:sG)(i:ji):Nat->Nat->ji
 |0,k,ρ,S=>(match S[n]? with
  |some (.li h)=>if h.length<=k then .nx ρ S else .bad
  |_=>.bad)
 |m+1,k,ρ,S=>(match S[n]? with
  |some (.li h)=>(match h[k]? with
   |some (.d d)=>Ld (a d ρ) λc=>m5 (i c S) (oT n a i m<|k+1)
   |none=>.nx ρ S
   |_=>.bad)
  |_=>.bad)
def vY(b i:Nat)(a:sG)(d:ji):ji:=λρ S=>match ρ[i]? with
 |some (some (.loc n))=>(match S[n]? with
  |some (.li c)=>if n<b then oT n a d c.length 0 ρ S else .bad
  |_=>.bad)
 |_=>.bad
variable{P:jf}{J:aa Stmt}{a:sG}{F:ji}{M:Pos}{x:iS}
def abH(i:Nat)(hp:PassesOwn (model X.prog X.w) X.A X.env X.xe)(hc:X.calm=true)(hg:ZG X P a)(T:oq X E b J F)
 (hi:autoParam (X.N[i]?=some x) aZ0)(hv:autoParam (pT X.env.scope x) aZ4)(hd:autoParam (lL x) aZ1)
 (hcd:autoParam ((x==("__classdict__":iS))=false) aZ1)(hs:autoParam (∀z,foldedSetIterable (.Name x M) X.env z=pure z) aZ2):
   ZS X E b (.For P (.Name x M) J [] A) (vY b i a F):=by
  obtain⟨g,pg,rg⟩:=hg;obtain⟨tb,pb,rb⟩:=T;refine⟨_,DK hp hc (DF<|ux hi hv hd hcd) pg pb hs,λ{B al lo H σ ρ S D} T s h=>?_⟩;unfold vY at h;split at h
  .rename_i n q;split at h
   .rename_i zs q0;split at h
    .rename_i nb;obtain⟨v,e1,c,hn,rfl⟩:=s.vr i _ q;obtain⟨vs,g1,g2⟩:=s.cell hn q0;have hB:B.lo n=some c:=(s.nw n c hn).elim id λz=>absurd z.2 (by rw[T];omega);refine⟨_,e1,c,rfl,⟨vs,.inl<|.inl g1⟩,λk m u O=>∃j r kO C,RZ X.K B j r O u kO C/\j2 X.K B E D j O (oT n a F m k kO C),⟨_,al,lo,ρ,S,s,h⟩,?_⟩
     rintro k m u O ⟨j,r,kO,C,y,l⟩
     have L:=y.lx n c hB;cases m with
     |zero=>
      unfold oT at l;split at l
      .rename_i V q2;split at l
       .rename_i le;obtain⟨t,G,R⟩:=y.cell L q2;exact .inl ⟨⟨t,.inl (.inl G),by rw[R.length];exact le⟩,l j r O u .refl y⟩
       .exact l.elim
      .exact l.elim
     |succ m=>
      unfold oT at l;split at l
      .rename_i V q2;obtain⟨t,G,R⟩:=y.cell L q2;split at l
       .rename_i d qd;obtain⟨x0,ex,rx⟩:=R.get qd;refine .inr ⟨⟨t,x0,.inl<|.inl G,ex⟩,λw H'=>∃j r kO C,RZ X.K B j r H' w kO C/\j2 X.K B E D j H' (oT n a F m (k+1) kO C),λw H' z=>⟨m,bB m,z⟩,λx1 H3 Y=>?_⟩;obtain⟨rfl,Y⟩:=Y;have e5:=Y t (.inl<|.inl G);rw[ex]at e5;cases e5;cases qa:a d kO with
        |some U=>rw[qa]at l;exact rg y rx ⟨U,qa,λσ3 s3=>rb T s3<|Li (k:=oT n a F m<|k+1) l λkh mm H' w mx S' _ s' h'=>⟨kh,mm,mx,S',s',h'⟩⟩
        |none=>rw[qa]at l;exact l.elim
       .rename_i qn;exact .inl ⟨⟨t,.inl (.inl G),by rw[R.length];exact List.getElem?_eq_none_iff.mp qn⟩,l j r O u .refl y⟩
       .exact l.elim
      .exact l.elim
    .exact h.elim
   .exact h.elim
  .exact h.elim
def rX(S:iZ):Z->i0 D
 |.d x=>some x
 |.loc n=>(match S[n]? with
  |some (.li c)=>(lU c).map .lst
  |_=>none)
 |.tk _=>none
def Es(S:iZ):aa Z->i0 (aa D)
 |[]=>some []
 |z::r=>(rX S z).bind λd=>(Es S r).map (d:: ·)
def pH(S:iZ):i0 Z->Sl
 |some (.d x)=>.sh x
 |some (.loc n)=>(match S[n]? with
  |some (.li c)=>(match Es S c with
   |some d=>kg d
   |none=>.no)
  |_=>.no)
 |_=>.no
def xT(f:lI):jk->iZ->RX i6:=λρ S=>match f (ρ.map<|pH S)with
 |.ok d=>.ok d S
 |_=>.bad
variable{K:i9}{B:Z0}{C:ko}{lo:Lo}{H O:Hp}{L:St}{l:jk}{S:iZ}
def aaB(s:RZ K B C lo H L l S){v:V}{z:Z}{d:D}(r:jS K C lo H v z)(e:rX S z=some d):Rep K (sH C lo) H v d:=by
 cases z with
 |d x=>cases e;exact Rep.mv (.sub λ_ h=>.inl h) r
 |tk w=>cases e
 |loc n=>
  unfold rX at e;dsimp only at e;split at e
  .rename_i t q;obtain⟨y,i,rfl⟩:=ay.mp e;have:=sI i;subst this;obtain⟨a,c,rfl⟩:=r;obtain⟨u,m,j⟩:=s.cell c q;exact .lst (.inl ⟨.inr ⟨n,c⟩,.inl m⟩) (ja.mv (.sub λ_ h=>.inl h) j.toD)
  .cases e
def aaC(s:RZ K B C lo H L l S){i:aa V}{h:aa Z}{c:jD}(r:jU K C lo H i h)(e:Es S h=some c):ja K (sH C lo) H i c:=by
 induction r generalizing c with
 |nil=>cases e;exact .nil
 |cons a _ j=>obtain⟨d,q,n⟩:=aL.mp e;obtain⟨t,m,rfl⟩:=ay.mp n;exact .cons (aaB s a q) (j m)
abbrev _root_.j3:=i0 Z
def Lz(z:j3)(c:jD):pH S z≠.ow c:=λh=>by
 unfold pH at h;split at h;.cases h
 .split at h;.split at h<;>cases h
  .cases h
 .cases h
def RZ.Yk(r:RZ K B C lo H L l S):RS K (sH C lo) H (sH C lo) H L (l.map<|pH S) where
 same:=.refl H
 tt:=r.tt
 fresh:=λa h=>.inl (r.fresh a h)
 sub:=λ_ h=>h
 pf:=λa h=>.inl (r.fresh a h)
 len:=by rw[aj];exact r.len
 sh:=λi d h=>by
  rw[aC]at h;obtain⟨z,s,c⟩:=ay.mp h;cases z with
  |none=>cases c
  |some z=>
   obtain⟨v,R,u⟩:=r.vr i z s;refine⟨v,R,?_⟩;cases z with
   |d x=>cases c;exact Rep.mv (.sub λ_ h=>.inl h) u
   |tk Y=>cases c
   |loc n=>
    unfold pH at c;dsimp only at c;split at c
    .rename_i U q;split at c
     .rename_i m w;cases c;obtain⟨a,t,rfl⟩:=u;obtain⟨V,G,y⟩:=r.cell t q;exact .lst (.inl ⟨.inr ⟨n,t⟩,.inl G⟩) (aaC r y w)
     .cases c
    .cases c
 ow:=λi m h=>by rw[aC]at h;obtain⟨z,s,c⟩:=ay.mp h;exact(Lz z m c).elim
 apart:=λi j m T a h _ _ _=>by rw[aC]at h;obtain⟨z,s,c⟩:=ay.mp h;exact(Lz z m c).elim
def abW{X:Cx}{E:XK}{e:jf}{f}(h:DT X E e f):ZT X E e (xT f):=by
 obtain⟨t,p,r⟩:=h;refine⟨t,p,λ{_ C lo _ _ l S _} z h=>r z.Yk ?_⟩;unfold xT at h;cases q:f (l.map<|pH S)with
 |ok d=>rw[q]at h;exact λi c=>h C lo i (z.grow c) (.of c) .refl
 |_=>rw[q]at h;exact h.elim
def Ap(fo f:jd):ji:=λl S=>toZ (fo l S) λy h=>match y with
 |.loc n=>(match h[n]? with
  |some (.li _)=>toZ (f l h) λz d=>(match d[n]? with
   |some (.li c)=>if c.length<sizeLine then .nx l (d.set n<|.li<|c++[z])else .bad
   |_=>.bad)
  |_=>.bad)
 |_=>.bad
def abB{i d:Pos}(pa:PlainAttrs "list")(T:Slot "list" "append" "list.append")(hty:typeOf (.builtin "list.append")=pure (.type "method_descriptor"))(ho:ZE X E o fo)(he:ZE X E e f)
    (G:autoParam (attributeBase o "append" X.env (eval o X.env)=eval o X.env) aZ0)
    (U:autoParam (((backTo d (starEach [e] X.env)).all (λx=>!x.1)&&(backToKw d (keywordEach [] X.env)).all (λx=>x.1.isSome)
      &&decide ([e].length+([]:aa Keyword).length+(if([]:aa Keyword).isEmpty then 0 else 1)<30))=true) aZ0)
    (y:autoParam ((i.endLine==d.line)=true) aZ0)(hs:autoParam (X.se e []) aZ0)(j:autoParam ((backTo d<|starEach [] X.env).any (·.1)=false) aZ0)
    (hsw:autoParam (swapsWith (.Call (.Attribute o "append" i) [e] [] d) none A.line X.env=pure false) aZ0):
    ZS X E b (.Expr (.Call (.Attribute o "append" i) [e] [] d) A) (Ap fo f):=by
 obtain⟨to,po,ro⟩:=ho;obtain⟨t,p,r⟩:=he;refine⟨_,zY (Du pa T hty C9 po (rO p rP hs) G U y hs j) hsw,λhb s h=>ro s<|iU.mono (j2.mq h) λs0 x0 y0 V v rv=>?_⟩;split at V
 .rename_i n;split at V
  .rename_i zs0 q0;obtain⟨a,hn,rfl⟩:=rv;obtain⟨vs,e2,e3⟩:=s0.cell hn q0;refine⟨.inl ⟨rfl,vs,.inl<|.inl e2⟩,r s0<|iU.mono (j2.mq V) λ{z Y _ H1 _} s1 x1 y1 R u ru=>?_⟩;split at R
   .rename_i zs q1;have m:=y1 n a hn;obtain⟨ws,g2,g3⟩:=s1.cell m q1;by_cases w:zs.length<sizeLine
    .rw[aq w]at R;have x2:Xt Y H1 Y (upd H1 a (.lst (ws++[u]))):=λb o _ hb eb=>⟨hb,by rw[jw λz=>s1.st.na n a m (by rw[<-z];exact hb)];exact eb⟩;obtain⟨s2,x3⟩:=s1.write m (o:=.lst (ws++[u])) (c:=.li (zs++[z])) nc (λq w=>by unfold lG at w;cases w) ⟨_,j7,jU.mv x2 .refl (g3.append (.cons ru .nil))⟩ nofun;exact⟨a,ws,u,rfl,rfl,g2,by rw[g3.length];exact w,R _ _ _ _ x3 s2⟩
    .rw[aA w]at R;exact R.elim
   .exact R.elim
  .exact V.elim
 .exact V.elim
end
def abo{X:Cx}{E:XK}{e:jf}{f:l0}(l:ts X E e f):u6 X E e (xR f):=by
 obtain⟨t,p,u,r⟩:=l;refine⟨t,p,u,λ{_ al lo _ _ ρ S _} s h=>r s.D0 ?_⟩;unfold xR at h;cases q:f (vw S ρ)with
 |ok j=>
  rw[q]at h;dsimp only at h;by_cases w:qR j=true
  .rw[aq w]at h;intro n i p m a k;have c:=s.grow i;have d:=ja.oX c.qS k w;exact h al lo _ (c.grow<|lV a) ((Xt.of i).trans (.of<|lV (K:=X.K) a)) .refl _ (show jS X.K al lo _ (.ref p) (.d<|.lst j)from d.rK a (c.fresh p a))
  .rw[aA w]at h;exact h.elim
 |_=>rw[q]at h;exact h.elim
noncomputable def wM(sc:Scope)(a:Env)(x:iS)(c d:jy):i6:=decide (sc.kind=.function)&&sc.names.all (λy=>decide (y.2≠.cell)&&(decide (y.2≠.local)||decide (sc.names.lookup y.1=some .local)))&&
 (relabel sc a).names.all (λy=>decide (y.2≠.cell)&&decide (y.2≠.free)||decide (y.1∈d))&&c.all (λy=>decide ((relabel sc a).names.lookup y=some .cell)||decide ((relabel sc a).names.lookup y=some .free))&&decide ((relabel sc a).names.lookup x=some .local)&&decide (x∉c)
theorem C2:∀{a:tL},x∈a.map (·.1)->∃c,a.lookup x=some c
 |p::a,h=>by
  unfold List.lookup;cases q:x==p.1 with
  |true=>exact⟨_,rfl⟩
  |false=>
   rcases aI.mp h with z|z;.rw[z,gz]at q;cases q
   .exact C2 z
variable{X:Cx}{E:XK}{Y elt:jf}{ifs:kK}{T:Scope}{pos p0:Pos}{x:iS}{Nc:jy}{U:tL}{ci:lC}
def F5(d:U.map (λp=>X.env.cells.lookup p.1)=U.map λp=>some p.2)(f:wM T X.env x Nc (U.map (·.1))=true):
    T.kind=.function/\(qh T)/\(qP T)/\(∀x c,U.lookup x=some c->X.env.cells.lookup x=some c)/\
    (∀x,((relabel T X.env).names.lookup x=some .cell\/(relabel T X.env).names.lookup x=some .free)->∃c,U.lookup x=some c)/\(∀x∈Nc,(relabel T X.env).names.lookup x=some .cell\/(relabel T X.env).names.lookup x=some .free)/\(relabel T X.env).names.lookup x=some .local/\x∉Nc:=by
 simp only[wM,aS,cx,b9,bx]at f;obtain⟨⟨⟨⟨⟨m,i⟩,h⟩,l⟩,k⟩,j⟩:=f;refine⟨m,λy a=>(i y a).1,λy a z=>(i y a).2.resolve_left λn=>n z,λy c e=>List.map_inj_left.mp d (y,c)<|bz e,λy e=>?_,l,k,j⟩;rcases e with e|e;.exact C2 ((h _<|bz e).resolve_left λn=>n.1 rfl)
 .exact C2 ((h _<|bz e).resolve_left λn=>n.2 rfl)
variable{fi:l0}{fc:lI}{fe:jx}
def GA(m:DI X E (.Name x p0) Y fi)(hf:∀i d j C,tr (X.comp T (x::Nc) U i d j C) ifs fc)(n:∀i d j C,DE (X.comp T (x::Nc) U i d j C) (λ_ _ _=>False) elt fe)
 (a:autoParam (closureFor T X.env=pure U) aZ0)(c:autoParam (nH X U Nc ci) aZ10)(f:autoParam (U.map (λp=>X.env.cells.lookup p.1)=U.map λp=>some p.2) aZ0)(h:autoParam Nc.Nodup aZ11)
 (q:autoParam (wM T X.env x Nc (U.map (·.1))=true) aZ8)(o:autoParam (X.calm=true) aZ0)(l:autoParam (∀x,foldedSetIterable Y X.env x=pure x) aZ2):ts X E (.ListComp elt [⟨.Name x p0,Y,ifs,0⟩] T pos) (kW fi 1 ci (gV 0) fc fe):=by obtain⟨y,w,v,u,t,s,k,r⟩:=F5 f q;exact Gz (Nt:=[x]) o m (λ_ _ _ _=>yM 0 (bA.mpr ⟨r,h⟩) rfl (.inl k)<|.inr k) (by simp) hf n a y w v c rfl u t s l
def N2(l:DI X E (.Name x p0) Y fi)(hf:∀i d j C,tr (X.comp T (x::Nc) U i d j C) ifs fc)(m:∀i d j C,DE (X.comp T (x::Nc) U i d j C) (λ_ _ _=>False) elt fe)
 (a:autoParam (closureFor T X.env=pure U) aZ0)(c:autoParam (nH X U Nc ci) aZ10)(f:autoParam (U.map (λp=>X.env.cells.lookup p.1)=U.map λp=>some p.2) aZ0)(h:autoParam Nc.Nodup aZ11)
 (o:autoParam (wM T X.env x Nc (U.map (·.1))=true) aZ8)(n:autoParam (X.calm=true) aZ0)(k:autoParam (∀x,foldedSetIterable Y X.env x=pure x) aZ2):DN X E (.ListComp elt [⟨.Name x p0,Y,ifs,0⟩] T pos) (kW fi 1 ci (gV 0) fc fe):=(GA l hf m a c f h o n k).dn
variable{gi:yx}{gc:mV}{ge:jd}
def abp(n:ZI X E (.Name x p0) Y gi)(hf:∀j d k C,tN (X.comp T (x::Nc) U j d k C) ifs gc)(o:∀j d k C,ZE (X.comp T (x::Nc) U j d k C) (λ_ _ _=>False) elt ge)
 (a:autoParam (closureFor T X.env=pure U) aZ0)(c:autoParam (nH X U Nc ci) aZ10)(f:autoParam (U.map (λp=>X.env.cells.lookup p.1)=U.map λp=>some p.2) aZ0)(h:autoParam Nc.Nodup aZ11)
 (r:autoParam (wM T X.env x Nc (U.map (·.1))=true) aZ8)(q:autoParam (X.calm=true) aZ0)(m:autoParam (∀x,foldedSetIterable Y X.env x=pure x) aZ2):u6 X E (.ListComp elt [⟨.Name x p0,Y,ifs,0⟩] T pos) (v7 gi ci gc ge):=by obtain⟨z,y,w,v,u,t,l,s⟩:=F5 f r;exact abm q n (λ_ _ _ _=>xw (i:=0) (bA.mpr ⟨s,h⟩) rfl (.inl l)<|.inr l) hf o a z y w c v u t m
end P2
namespace nD
open PySem L2 P2 WP WM
def at_(i:Nat):Stmt:=PySem.Challenge.pw_weather_k42_whole_marks_walked.main.body.getD i (.Pass ⟨0,0,0,0⟩)
def wC(a:Ad):jI:=(jW (lF 2 (d2 jJ (dV 0) (dV 1)))
    (jW (lF 0 (dV 1))
    (lF 1 (dV 2))))
def yY(a:Ad):jI:=(jW (pJ (b1 tB (d2 uq (dV 1) (iP 0))) (wC a) vg)
    (ku (dV 0)))
def BX(a:Ad):jI:=(ku<|vj (dA (pB a.oC)<|iK (dV 0)<|iK (dC<|.ty "int") iQ)<|BH<|dA (pB a.oC)<|iK (dV 0)<|iK (dC<|.ty "bool") iQ)
def yZ(a:Ad)(d c:jg):jI:=(jW (n8 (nX (qI (b1 tT (dA d (iK (dV 0) iQ)))) (nX (qI (b1 tT (dA d (iK (dV 1) iQ)))) (b1 tB (d2 jm (dV 1) (iP 0))))) (λ_=>.ex a.NoFraction [] []) n9)
    (jW (lF 2 (dA c (iK (dA ot (iK (dV 0) iQ)) (iK (dA ot (iK (dV 1) iQ)) iQ))))
    (jW (n8 (b1 tB (d2 mQ (dV 1) (iP 0))) (lF 2 (d1 vF (dV 2))) n9)
    (ku (dA jj (iK (d2 kx (dV 0) (dV 2)) (iK (d2 kx (dV 1) (dV 2)) iQ)))))))
def y9(a:Ad)(c:jg):jI:=(ku<|dA c<|iK (d2 jV (d2 jF (iN 0 0)<|iN 1 1)<|d2 jF (iN 1 0)<|iN 0 1)<|iK (d2 jF (iN 0 1)<|iN 1 1) iQ)
def y7(a:Ad)(c:jg):jI:=(ku<|dA c<|iK (d2 ni (d2 jF (iN 0 0)<|iN 1 1)<|d2 jF (iN 1 0)<|iN 0 1)<|iK (d2 jF (iN 0 1)<|iN 1 1) iQ)
def za(a:Ad)(c:jg):jI:=(ku<|dA c<|iK (d2 jF (iN 0 0)<|iN 1 0)<|iK (d2 jF (iN 0 1)<|iN 1 1) iQ)
def zc(a:Ad):jI:=(ku<|d2 mQ (d2 jF (iN 0 0)<|iN 1 1)<|d2 jF (iN 1 0)<|iN 0 1)
def pU(a:Ad)(j k:jg)(h c d i f:jh):ji:=(iO (i4 9 (wc a.Sight "seen_from" c [] (zV 5) (iL (zD (dV 8)) (iL (zD (dV 6)) iY))))
    (jr (th (wa (zV 9)) (o6 tT (zZ i (iL (zD (iN 4 1)) (iL (zZ d (iL (zV 9) iY)) iY))))) (nj 2 (zF jj (iL (zD (iN 8 0)) (iL (zD (iN 8 1)) (iL (zD (iN 4 0)) (iL (zZ f (iL (zV 9) iY)) iY)))))) (nj 7 (zD (dV 8)))))
def qH(a:Ad)(i f:jg)(c d h k j:jh)(b:Nat):ji:=(iO (i4 5 (wb a.Sight c (iL (zD (dV 3)) iY)))
    (iO (i4 6 (zD (dA f (iK (iN 4 1) iQ))))
    (iO (i4 7 (kY (λρ=>(iQ ρ).bind ju)))
    (iO (k8 (λρ=>((dV 3) ρ).bind jT) (hV 8) (pU a i f c d h k j))
    (qq b 7 (i4 3 (zD (dV 7))))))))
def BY(a:Ad)(d i:jg)(f c h k j:jh)(b:Nat):ji:=(iO (i4 2 (kY (λρ=>(iQ ρ).bind ju)))
    (iO (i4 3 (xR (kW (λρ=>((dV 0) ρ).bind jT) 1 [] (gV 0) (λ_=>.ok true) (dA jj (iK (iN 0 0) (iK (iN 0 1) (iK (dA d (iK (d2 jq (iN 0 2) (iP 0)) (iK (d2 jq (iN 0 2) (iP 1)) iQ))) iQ)))))))
    (iO (vY b 1 (hV 4) (qH a d i f c h k j b))
    (qq b 2 (jo (zD (dA jj (iK (dV 2) (iK (dV 3) iQ)))))))))
def B6(a:Ad)(c:jh)(b:Nat):ji:=(jo<|z2 jq (zZ c<|iL (zV 0)<|iL (zV 1) iY)<|zD<|iP 0)
def B9(a:Ad)(c:jh)(b:Nat):ji:=(jo<|z2 jq (zZ c<|iL (zV 0)<|iL (zV 1) iY)<|zD<|iP 1)
def nN(a:Ad)(c:jg):jI:=(n8 (sL (b1 tT<|dA (pB a.oC)<|iK (dV 2)<|iK (dC<|.ty "tuple") iQ)<|b1 tT<|dA (pB a.oC)<|iK (iN 2 0)<|iK (dC<|.ty "str") iQ) (pD 1<|dA c<|iK (dV 2) iQ) n9)
def Hk(a:Ad)(c:jg):jI:=(jW (n8 (nX (b1 tB (d2 jm (iN 0 0) (i8 "back"))) (b1 tB (d2 jm (iN 0 0) (i8 "ago")))) (ku (jt (λρ=>((iK (dA jj (iK (i8 "back") (iK (iN 0 1) iQ))) iQ) ρ).bind ju))) n9)
    (jW (n8 (nX (b1 tB (d2 jm (iN 0 0) (i8 "on"))) (b1 tB (d2 jm (iN 0 0) (i8 "until")))) (ku (jt (λρ=>((iK (dA jj (iK (i8 "on") (iK (iN 0 1) iQ))) iQ) ρ).bind ju))) n9)
    (jW (n8 (b1 tB (d2 jm (iN 0 0) (i8 "at"))) (ku (jt (λρ=>((iK (dV 0) iQ) ρ).bind ju))) n9)
    (jW (uC 1 (λρ=>(iQ ρ).bind ju))
    (jW (uB (λρ=>((sO qV (dV 0) (λρ=>((iP 1) ρ).bind pI) (λ_=>.ok none)) ρ).bind jT) (gV 2) (nN a c))
    (λρ=>(ku (dV 1)) (pW 1 ρ)))))))
def zk(a:Ad)(c:jh)(b:Nat):ji:=(iO (jr (zB (b1 tB (d2 jm (iN 0 0) (i8 "num")))) (jo (zD (iN 0 1))) jA)
    (iO (jr (zB (b1 tB (d2 jm (iN 0 0) (i8 "here")))) (jo (zD (iN 1 2))) jA)
    (iO (jr (zB (nX (b1 tB (d2 jm (iN 0 0) (i8 "back"))) (nX (b1 tB (d2 jm (iN 0 0) (i8 "on"))) (b1 tB (d2 jm (iN 0 0) (i8 "at")))))) (jo (z2 jq (pO (zV 2) (zD (dV 0))) (zD (iP 2)))) jA)
    (iO (jr (zB (b1 tB (d2 jm (iN 0 0) (i8 "ago")))) (jo (zF jj (iL (z2 ni (zD (iN 1 1)) (z2 jq (pO (zV 2) (zD (dA jj (iK (i8 "back") (iK (iN 0 1) iQ))))) (zD (iP 1)))) (iL (zD (iP 1)) iY)))) jA)
    (iO (jr (zB (b1 tB (d2 jm (iN 0 0) (i8 "until")))) (jo (zF jj (iL (z2 ni (z2 jq (pO (zV 2) (zD (dA jj (iK (i8 "on") (iK (iN 0 1) iQ))))) (zD (iP 1))) (zD (iN 1 1))) (iL (zD (iP 1)) iY)))) jA)
    (iO (i4 3 (zZ c (iL (zD (d2 jq (dV 0) (d1 vF (iP 1)))) (iL (zD (dV 1)) (iL (zV 2) iY)))))
    (iO (jr (zB (b1 tB (d2 jm (iN 0 0) (i8 "abs")))) (jo (zD (dA jj (iK (dA ot (iK (iN 3 0) iQ)) (iK (iN 3 1) iQ))))) jA)
    (iO (jr (zB (b1 tB (d2 jm (iN 0 0) (i8 "times")))) (jo (zD (dA jj (iK (d2 jF (d2 jq (iN 0 1) (iP 0)) (iN 3 0)) (iK (d2 jF (d2 jq (iN 0 1) (iP 1)) (iN 3 1)) iQ))))) jA)
    (iO (i4 4 (zZ c (iL (zD (iN 0 1)) (iL (zD (dV 1)) (iL (zV 2) iY)))))
    (iO (jr (zB (b1 tB (d2 jm (iN 0 0) (i8 "-")))) (i4 3 (zD (dA jj (iK (d2 ni (iP 0) (iN 3 0)) (iK (iN 3 1) iQ))))) jA)
    (jo (zD (dA jj (iK (d2 jV (d2 jF (iN 4 0) (iN 3 1)) (d2 jF (iN 3 0) (iN 4 1))) (iK (d2 jF (iN 4 1) (iN 3 1)) iQ)))))))))))))))
def ze(a:Ad)(c d:jh)(b:Nat):ji:=(iO (jr (zB (b1 tB (d2 jm (iN 0 0) (i8 "not")))) (jo (wg (zZ c (iL (zD (iN 0 1)) (iL (zD (dV 1)) (iL (zV 2) iY)))))) jA)
    (iO (jr (zB (nX (b1 tB (d2 jm (iN 0 0) (i8 "and"))) (b1 tB (d2 jm (iN 0 0) (i8 "or"))))) (iO (i4 3 (zZ c (iL (zD (iN 0 1)) (iL (zD (dV 1)) (iL (zV 2) iY)))))
    (iO (i4 4 (zZ c (iL (zD (iN 0 2)) (iL (zD (dV 1)) (iL (zV 2) iY)))))
    (jo (zD (sN (b1 tB (d2 jm (iN 0 0) (i8 "and"))) (vj (dV 3) (dV 4)) (Gf (dV 3) (dV 4))))))) jA)
    (iO (i4 3 (zZ d (iL (zD (iN 0 1)) (iL (zD (dV 1)) (iL (zV 2) iY)))))
    (iO (i4 4 (zZ d (iL (zD (iN 0 2)) (iL (zD (dV 1)) (iL (zV 2) iY)))))
    (iO (jr (zB (b1 tB (d2 jm (iN 0 0) (i8 "<")))) (jo (zD (d2 mQ (d2 jF (iN 3 0) (iN 4 1)) (d2 jF (iN 4 0) (iN 3 1))))) jA)
    (jo (zD (d2 jm (d2 jF (iN 3 0) (iN 4 1)) (d2 jF (iN 4 0) (iN 3 1))))))))))
def zh(a:Ad)(b:Nat):ji:=(iO (jr (zB (b1 tB (d2 jm (iN 0 0) (i8 "at")))) (jo (xO (zV 3) (uH (iL (zD (iN 0 1)) (iL (zR (d2 jq (d2 jq (dV 1) (dV 2)) (iP 1))) iY))))) jA)
    (iO (i4 4 (zD (d2 jV (dV 2) (iN 0 1))))
    (iO (jr (zB (b1 tB (d2 jm (iN 0 0) (i8 "back")))) (i4 4 (zD (d2 ni (dV 2) (iN 0 1)))) jA)
    (jo (zR (sN (b1 tB (wN xf mQ (iP 0) (dV 4) (dA l7 (iK (dV 1) iQ)))) (d2 jq (dV 1) (dV 4)) (dC .non)))))))
def rA(a:Ad)(f:jg)(c d:jh):ji:=(iO (i4 9 (zZ c (iL (zD (dV 8)) (iL (zV 2) (iL (zD (dV 3)) (iL (zV 4) iY))))))
    (iO (jr (v9 (zV 9)) (jo (zD (dC .non))) jA)
    (iO (rZ (zV 6) (qX (zD (dV 8))) (zD (dV 9)))
    (nj 7 (zD (dA jj (iK (iN 9 1) (iK (iN 9 0) iQ))))))))
def zf(a:Ad)(d:jg)(f c:jh)(b:Nat):ji:=(iO (i4 5 (zR (d2 jq (dV 2) (dV 3))))
    (iO (i4 6 qY)
    (iO (i4 7 (kY (λρ=>((iK (dA jj (iK (iN 5 1) (iK (iN 5 0) iQ))) iQ) ρ).bind ju)))
    (iO (k8 (λρ=>((dA d (iK (dV 1) iQ)) ρ).bind jT) (hV 8) (rA a d f c))
    (iO (jr (we (o6 tT (zZ c (iL (zD (dV 1)) (iL (zD (dV 5)) (iL (zV 6) iY)))))) (jo (zD (dC .non))) jA)
    (qq b 7 (jo (zD (dA jj (iK (iN 5 0) (iK (iN 5 1) (iK (dV 0) (iK (jt (kW (λρ=>((jt (λρ=>((dV 7) ρ).bind pF)) ρ).bind jT) 2 [] (gT 2 (gC (gV 0) (gC (gV 1) gN))) (λ_=>.ok true) (dA jj (iK (dV 1) (iK (dV 0) iQ))))) iQ)))))))))))))
def vd(a:Ad)(c:jh):ji:=(iO (Ap (tp (zV 3) (zD (iN 5 0)) (kY (λρ=>(iQ ρ).bind ju))) (zD (dV 5)))
    (rZ (zV 4) (qX (zD (sO qV (dV 5) (λ_=>.ok none) (λρ=>((iP 2) ρ).bind pI)))) (zD (dV 5))))
def tV(a:Ad)(c:jh):ji:=(iO (i4 9 (xP (zV 6) (iN 8 0) (iP 0)))
    (iO (As (zV 6) (iN 8 0) (zD (d2 jV (dV 9) (iP 1))))
    (iO (i4 10 (zZ c (iL (zD (dV 0)) (iL (zD (dV 1)) (iL (v8 (zV 3) (iN 8 0)) (iL (zD (dV 9)) (iL (zV 4) iY)))))))
    (jr (zB (b1 tB (d2 zu (dV 10) (dC .non)))) (nj 7 (zD (dV 10))) jA))))
def Cg(a:Ad)(c:jh)(b:Nat):ji:=(iO (i4 3 uI)
    (iO (i4 4 qY)
    (iO (k8 (λρ=>((dV 2) ρ).bind jT) (hV 5) (vd a c))
    (iO (i4 6 uI)
    (iO (i4 7 (kY (λρ=>(iQ ρ).bind ju)))
    (iO (k8 (λρ=>((dV 2) ρ).bind jT) (hV 8) (tV a c))
    (qq b 7 (jo (zD (dV 7))))))))))
def vb(a:Ad)(d j:jg)(h k i c f:jh):ji:=(rZ (zV 13) (qX<|zD<|sO qV (dV 14) (λ_=>.ok none)<|λρ=>((iP 2) ρ).bind pI)<|zD<|dC<|.bl true)
def vf(a:Ad)(f j:jg)(h k i d c:jh):ji:=(iO (i4 12 (zZ c (iL (zD (dV 10)) (iL (zD (dV 11)) (iL (zD (dV 9)) iY)))))
    (iO (i4 13 qY)
    (iO (k8 (λρ=>((dV 12) ρ).bind jT) (hV 14) (vb a f j h k i d c))
    (iO (i4 9 (pN (v7 (xQ (zD (dV 9))) [13] (xS (qX (zD (sO qV (dV 0) (λ_=>.ok none) (λρ=>((iP 2) ρ).bind pI)))) (zV 1)) (zD (dV 0)))))
    (i4 8 (zD (d2 wL (dV 8) (dV 12))))))))
def wH(a:Ad)(d j:jg)(h k i c f:jh):ji:=(jr (zB<|nX (qI<|b1 tT<|dA (pB a.oC)<|iK (dV 14)<|iK (dC<|.ty "tuple") iQ)<|nX (b1 tB<|d2 uq (dA l7<|iK (dV 14) iQ)<|iP 4)<|qI<|b1 tT<|dA (pB a.oC)<|iK (iN 14 3)<|iK (dC<|.ty "list") iQ) (jo<|zD<|dC<|.bl false) jA)
def B0(a:Ad)(c j:jg)(f k i d h:jh)(b:Nat):ji:=(iO (i4 1 (zD (jt (kW (λρ=>((iK (dC (.int 3)) iQ) ρ).bind qT) 1 [0] (gV 0) (λ_=>.ok true) (dA j (iK (dA c (iK (dV 1) (iK (dC (.int 0)) iQ))) (iK (dV 0) iQ)))))))
    (iO (i4 2 (zD (d2 jV (dC (.int 1)) (d2 jJ (dA c (iK (dV 0) (iK (dC (.int 3)) iQ))) (dC (.int 3))))))
    (iO (jr (zB (b1 tB (d2 jm (d2 jJ (d2 kx (dA c (iK (dV 0) (iK (dC (.int 3)) iQ))) (dC (.int 3))) (dC (.int 8))) (dC (.int 1))))) (i4 2 (zD (dC (.int 12)))) jA)
    (iO (i4 3 (zZ f (iL (zD (dV 0)) (iL (zD (dC (.int 4))) (iL (zD (dV 2)) (iL (zD (dV 1)) iY))))))
    (iO (i4 4 (zZ k (iL (zD (dV 0)) (iL (zD (d2 jV (dC (.int 4)) (dV 2))) (iL (zD (d2 ni (dC (.int 180)) (d2 jF (dC (.int 10)) (dV 2)))) (iL (zD (dV 1)) iY))))))
    (iO (i4 5 (Aw (iL (kY (λρ=>((dV 4) ρ).bind sR)) (iL (kY (λρ=>((dV 3) ρ).bind sR)) iY))))
    (iO (i4 6 (zZ i (iL (r4 (zV 5) 0) (iL (r4 (zV 5) 1) iY))))
    (iO (i4 7 (zZ d (iL (r4 (zV 5) 0) (iL (r4 (zV 5) 1) iY))))
    (iO (jr (xT (nX (b1 tB (d2 qi (dV 5) (jt (λρ=>((iK (dV 4) (iK (dV 3) iQ)) ρ).bind ju)))) (nX (qI (b1 tT (dA (pB a.oC) (iK (dV 6) (iK (dC (.ty "list")) iQ))))) (qI (b1 tT (dA (pB a.oC) (iK (dV 7) (iK (dC (.ty "list")) iQ)))))))) (jo (zD (dC (.bl false)))) jA)
    (iO (xJ (r4 (zV 5) 0))
    (iO (xJ (r4 (zV 5) 1))
    (iO (i4 8 (zD (jt (λρ=>(iQ ρ).bind ju))))
    (iO (i4 9 (zD (dA C1 (iK (dV 4) iQ))))
    (iO (k8 (λρ=>((dV 3) ρ).bind jT) (hT 2 (hC (hV 10) (hC (hV 11) P2.hN))) (vf a c j f k i d h))
    (iO (k8 (λρ=>((dV 6) ρ).bind jT) (hV 14) (wH a c j f k i d h))
    (jo (zD (vj (d2 oz (dV 6) (dV 8)) (d2 oz (dV 7) (dV 9))))))))))))))))))))
end nD
namespace P2
open PySem
mutual
def kM:D->i6
 |.non=>true
 |.int _=>true
 |.str z=>PyData.strOk z
 |.tup ds=>lM ds
 |.lst ds=>lM ds
 |_=>false
def lM:aa D->i6
 |[]=>true
 |d::r=>kM d&&lM r
end
mutual
def kX:D->Nat
 |.tup ds=>m9 ds+1
 |.lst ds=>m9 ds+1
 |_=>0
def m9:aa D->Nat
 |[]=>0
 |d::r=>max (kX d) (m9 r)
end
mutual
theorem DM:∀{d},kM d=true->∃p,nS d=some p/\PyData.canLay0 p=true/\p.depth<=kX d
 |.non,_=>⟨.none,rfl,by simp[PyData.canLay0],by simp[PyData.depth]⟩
 |.int i,_=>⟨.int i,rfl,by simp[PyData.canLay0],by simp[PyData.depth]⟩
 |.str z,h=>⟨.str z,rfl,by have j:PyData.strOk z=true:=h;simpa [PyData.canLay0]using j,by simp[PyData.depth]⟩
 |.tup ds,h=>by obtain⟨a,f,c,k⟩:=DP (show lM ds=true from h);exact⟨.tuple a,by show(l8 ds).map PyData.tuple=_;rw[f];rfl,by simpa [PyData.canLay0]using c,by simp only[PyData.depth,kX];walk_at "l"⟩
 |.lst ds,h=>by obtain⟨a,f,c,k⟩:=DP (show lM ds=true from h);exact⟨.list a,by show(l8 ds).map PyData.list=_;rw[f];rfl,by simpa [PyData.canLay0]using c,by simp only[PyData.depth,kX];walk_at "l"⟩
 |.bl _,h=>by cases h
 |.ty _,h=>by cases h
 |.ref _,h=>by cases h
 |.exc _ _ _,h=>by cases h
theorem DP:∀{f},lM f=true->∃a,l8 f=some a/\PyData.canLayAll0 a=true/\PyData.depthAll a<=m9 f
 |[],_=>⟨[],rfl,by simp[PyData.canLayAll0],by simp[PyData.depthAll]⟩
 |d::r,h=>by
  have c:(kM d&&lM r)=true:=h;rw[aS]at c;obtain⟨p,l,k,n⟩:=DM c.1;obtain⟨a,j,i,m⟩:=DP c.2;refine⟨p::a,?_,?_,?_⟩
  .show(nS d).bind (λp=>(l8 r).map (p:: ·))=_;rw[l,j];rfl
  .simp[PyData.canLayAll0,k,i]
  .simp only[PyData.depthAll,m9];grind
end
def vO(h:nS (.tup ds)=some p):∃a,p=.tuple a/\l8 ds=some a:=by obtain⟨a,d,c⟩:=ay.mp (show(l8 ds).map PyData.tuple=some p from h);exact⟨a,c.symm,d⟩
def vN(h:nS (.lst ds)=some p):∃a,p=.list a/\l8 ds=some a:=by obtain⟨a,d,c⟩:=ay.mp (show(l8 ds).map PyData.list=some p from h);exact⟨a,c.symm,d⟩
mutual
theorem GO:∀{a b} {p q},kM a=true->kM b=true->nS a=some p->nS b=some q->(PyData.eqv p q=true↔a=b)
 |a,b,p,q,j,d,f,eq=>by
  cases a with
  |non=>
   cases f;cases b with
   |non=>cases eq;simp[PyData.eqv]
   |int i=>cases eq;simp[PyData.eqv]
   |str i=>cases eq;simp[PyData.eqv]
   |tup r=>obtain⟨c,rfl,_⟩:=vO eq;simp[PyData.eqv]
   |lst r=>obtain⟨c,rfl,_⟩:=vN eq;simp[PyData.eqv]
   |_=>cases d
  |int i=>
   cases f;cases b with
   |non=>cases eq;simp[PyData.eqv]
   |int i=>cases eq;simp[PyData.eqv]
   |str i=>cases eq;simp[PyData.eqv]
   |tup r=>obtain⟨c,rfl,_⟩:=vO eq;simp[PyData.eqv]
   |lst r=>obtain⟨c,rfl,_⟩:=vN eq;simp[PyData.eqv]
   |_=>cases d
  |str i=>
   cases f;cases b with
   |non=>cases eq;simp[PyData.eqv]
   |int i=>cases eq;simp[PyData.eqv]
   |str i=>cases eq;simp[PyData.eqv]
   |tup r=>obtain⟨c,rfl,_⟩:=vO eq;simp[PyData.eqv]
   |lst r=>obtain⟨c,rfl,_⟩:=vN eq;simp[PyData.eqv]
   |_=>cases d
  |tup m=>
   obtain⟨c,rfl,l⟩:=vO f;cases b with
   |non=>cases eq;simp[PyData.eqv]
   |int i=>cases eq;simp[PyData.eqv]
   |str i=>cases eq;simp[PyData.eqv]
   |tup r=>obtain⟨h,rfl,k⟩:=vO eq;have:=BN (show lM m=true from j) (show lM r=true from d) l k;simp only[PyData.eqv,this,D.tup.injEq]
   |lst r=>obtain⟨h,rfl,_⟩:=vN eq;simp[PyData.eqv]
   |_=>cases d
  |lst m=>
   obtain⟨c,rfl,l⟩:=vN f;cases b with
   |non=>cases eq;simp[PyData.eqv]
   |int i=>cases eq;simp[PyData.eqv]
   |str i=>cases eq;simp[PyData.eqv]
   |tup r=>obtain⟨h,rfl,_⟩:=vO eq;simp[PyData.eqv]
   |lst r=>obtain⟨h,rfl,k⟩:=vN eq;have:=BN (show lM m=true from j) (show lM r=true from d) l k;simp only[PyData.eqv,this,D.lst.injEq]
   |_=>cases d
  |_=>cases j
 termination_by a=>sizeOf a
theorem BN:∀{a b} {p q},lM a=true->lM b=true->l8 a=some p->l8 b=some q->(PyData.eqvAll p q=true↔a=b)
 |[],[],p,q,_,_,i,eq=>by cases i;cases eq;simp[PyData.eqvAll]
 |[],d::r,p,q,_,_,i,eq=>by cases i;obtain⟨x,_,h⟩:=aL.mp (show(nS d).bind (λp=>(l8 r).map (p:: ·))=some q from eq);obtain⟨j,_,rfl⟩:=ay.mp h;simp[PyData.eqvAll]
 |d::r,[],p,q,_,_,i,eq=>by cases eq;obtain⟨x,_,h⟩:=aL.mp (show(nS d).bind (λp=>(l8 r).map (p:: ·))=some p from i);obtain⟨j,_,rfl⟩:=ay.mp h;simp[PyData.eqvAll]
 |d::r,e::s,p,q,v,u,i,eq=>by have f:(kM d&&lM r)=true:=v;have c:(kM e&&lM s)=true:=u;rw[aS]at f c;obtain⟨x,n,h⟩:=aL.mp (show(nS d).bind (λp=>(l8 r).map (p:: ·))=some p from i);obtain⟨j,m,rfl⟩:=ay.mp h;obtain⟨y,l,w⟩:=aL.mp (show(nS e).bind (λp=>(l8 s).map (p:: ·))=some q from eq);obtain⟨z,k,rfl⟩:=ay.mp w;have t:=GO f.1 c.1 n l;have o:=BN f.2 c.2 m k;simp only[PyData.eqvAll,aS,t,o,List.cons.injEq]
 termination_by a=>sizeOf a
end
def yS(h:kM a=true)(f:kM b=true)(n:kX a<=60)(m:kX b<=60):∃r,rC a b=some r/\(r=true↔a=b):=by obtain⟨p,d,j,l⟩:=DM h;obtain⟨q,c,i,k⟩:=DM f;refine⟨PyData.eqv p q,?_,GO h f d c⟩;unfold rC;rw[d,c];show(if(SeqAt.shaped p&&SeqAt.shaped q)=true then some (PyData.eqv p q)else none)=_;rw[aq];simp only[SeqAt.shaped,aS,bx];exact⟨⟨j,by lia⟩,i,by lia⟩
def ne_self(c:kM a=true)(d:kX a<=60):qi a a=.ok (.bl false):=by obtain⟨r,e,h⟩:=yS c c d d;unfold qi;rw[e,h.mpr rfl];rfl
def eq_self(c:kM a=true)(d:kX a<=60):oz a a=.ok (.bl true):=by obtain⟨r,e,h⟩:=yS c c d d;unfold oz;rw[e,h.mpr rfl]
def ON(d:kM a=true)(c:kM b=true)(j:kX a<=60)(f:kX b<=60)(h:a≠b):oz a b=.ok (.bl false):=by
 obtain⟨r,e,i⟩:=yS d c j f;unfold oz;rw[e];cases r with
 |false=>rfl
 |true=>exact absurd (i.mp rfl) h
def zM{c:Type}{f:c->D}{l:aa c}(h:∀x∈l,kM (f x)=true):lM (l.map f)=true:=by
 induction l with
 |nil=>rfl
 |cons a l d=>show(kM (f a)&&lM (l.map f))=true;rw[h a<|.head _,d λx i=>h x<|.tail _ i];rfl
def yO{c:Type}{f:c->D}{l:aa c}{k:Nat}(h:∀x∈l,kX (f x)<=k):m9 (l.map f)<=k:=by
 induction l with
 |nil=>exact bI _
 |cons a l d=>
  show max (kX<|f a) (m9<|l.map f)<=k;have:=h a (.head _);have:=d λx i=>h x (.tail _ i)
  lia
end P2
namespace FM
def g(a b:Int):Int:=(Int.gcd a b:Int)
def Hj{a:Int}(c:0<=a):g a 0=a:=by unfold g;rw[Int.gcd_zero_right];lia
def Hi{a b:Int}(d:0<=a)(c:0<b):g b (a%b)=g a b:=by
 unfold g
 congr 1
 obtain⟨m,rfl⟩:=bp d;obtain⟨n,rfl⟩:=bp (fw c);show Nat.gcd n ((m:Int)%(n:Int)).natAbs=Nat.gcd m n;rw[show((m:Int)%(n:Int)).natAbs=m%n from by lia];rw[Nat.gcd_comm m n,Nat.gcd_rec n m,Nat.gcd_comm]
def Hd(a b:Int):g (if a<0 then -a else a) (if b<0 then -b else b)=g a b:=by
 unfold g
 congr 1
 unfold Int.gcd
 congr 1
 .split<;>simp
 .split<;>simp
def Hh{a b:Int}(c:b≠0):0<g a b:=by unfold g;have h:=Int.gcd_pos_of_ne_zero_right a c;simp_all
def He(a b:Int):g a b∣a:=Int.gcd_dvd_left ..
def Hf(a b:Int):g a b∣b:=Int.gcd_dvd_right ..
def dv(t b:Int):Int:=if b<0 then -(g t b)else g t b
def top(t b:Int):Int:=t.fdiv (dv t b)
def bot(t b:Int):Int:=b.fdiv (dv t b)
def ua{t b:Int}(c:b≠0):dv t b≠0:=by have:=Hh (a:=t) c;unfold dv;split<;>lia
def GU{a d q:Int}(c:d≠0)(h:a=d*q):a.fdiv d=q:=by subst h;rw[iG];exact Int.mul_fdiv_cancel q c
theorem split{t b:Int}(f:b≠0):t=dv t b*top t b/\b=dv t b*bot t b:=by
 have d:=ua (t:=t) f;have i:dv t b∣t:=by
  unfold dv;split;.exact Int.neg_dvd.mpr (He t b)
  .exact He t b
 have h:dv t b∣b:=by
  unfold dv;split;.exact Int.neg_dvd.mpr (Hf t b)
  .exact Hf t b
 obtain⟨p,c⟩:=i;obtain⟨q,a⟩:=h;constructor
 .show t=dv t b*t.fdiv (dv t b);rw[GU d c];exact c
 .show b=dv t b*b.fdiv (dv t b);rw[GU d a];exact a
structure qA(p q:Int):Prop where
 pos:0<q
 one:Int.gcd p q=1
def uk{t b:Int}(c:b≠0):qA (top t b) (bot t b):=by
 obtain⟨l,i⟩:=split (t:=t) c;have m:=ua (t:=t) c;have j:=Hh (a:=t) c;have f:(dv t b).natAbs=Int.gcd t b:=by unfold dv g;split<;>omega
 refine⟨?_,?_⟩
 .rcases Int.lt_trichotomy b 0 with h|h|h
  .have e:dv t b= -(g t b):=by unfold dv;rw[aq h]
   rw[e]at i;refine Int.lt_of_not_ge λd=>?_;have:0<= -(g t b)*bot t b:=by have:=Int.mul_nonneg_of_nonpos_of_nonpos (show -(g t b)<=0 by omega) d;exact this
   omega
  .exact absurd h c
  .have e:dv t b=g t b:=by unfold dv;rw[aA<|by omega]
   rw[e]at i;refine Int.lt_of_not_ge λd=>?_;have:g t b*bot t b<=0:=Int.mul_nonpos_of_nonneg_of_nonpos (fw j) d;omega
 .have e:Int.gcd (dv t b*top t b) (dv t b*bot t b)=(dv t b).natAbs*Int.gcd (top t b) (bot t b):=Int.gcd_mul_left ..;rw[<-l,<-i,f]at e;have k:0<Int.gcd t b:=by unfold g at j;omega
  exact(Nat.eq_of_mul_eq_mul_left k<|by rw[iI];exact e).symm
def Gb{t b:Int}(a:b≠0):top t b*b=t*bot t b:=by
 obtain⟨d,c⟩:=split (t:=t) a;have h:top t b*b=top t b*(dv t b*bot t b):=by rw[<-c]
 have f:t*bot t b=(dv t b*top t b)*bot t b:=by rw[<-d]
 rw[h,f];rw[<-gx,iG<|top t b]
def Ga{a b c:Int}(h:Int.gcd a b=1)(d:a∣b*c):a∣c:=by
 have f:Nat.Coprime a.natAbs b.natAbs:=h;have i:a.natAbs∣b.natAbs*c.natAbs:=by rw[<-dU];exact hZ.mpr d
 exact hZ.mp (f.dvd_of_dvd_mul_left i)
def II{p q d c:Int}(a:qA p q)(b:qA d c)(h:p*c=d*q):p=d/\q=c:=by
 obtain⟨i,k⟩:=a;obtain⟨f,j⟩:=b;have d1:q∣c:=by
  have:q∣p*c:=by rw[h];exact Int.dvd_mul_left ..
  exact Ga (by rw[Int.gcd_comm];exact k) this
 have d2:c∣q:=by
  have:c∣d*q:=by rw[<-h];exact Int.dvd_mul_left ..
  exact Ga (by rw[Int.gcd_comm];exact j) this
 have e:q=c:=Int.dvd_antisymm (fw i) (fw f) d1 d2;subst e;exact⟨cZ (by lia) h,rfl⟩
def scaled{p q k:Int}(L:qA p q)(a:k≠0):top (p*k) (q*k)=p/\bot (p*k) (q*k)=q:=by
 have f:q≠0:=by have:=L.pos;lia
 have d:q*k≠0:=c9 f a;refine II (uk d) L ?_;have c:=Gb (t:=p*k) d
 refine cZ a ?_;rw[gx,c,gx,gx,iG k]
def Ow(t b:Int):(dv t b).natAbs=Int.gcd t b:=by unfold dv g;split<;>simp
def Ox{t b:Int}(a:b≠0):(dv t b).natAbs<=b.natAbs:=by rw[Ow];exact Nat.le_of_dvd (by simp_all) (Nat.gcd_dvd_right ..)
end FM
namespace T2
open PySem PySem.NumText TM
structure Ok(t b:Int):Prop where
 low:FM.qA t b
 ht:t.natAbs<10^60
 hb:b.natAbs<10^60
def Le(t:Int){b:Int}(c:b≠0):(FM.top t b).natAbs<=t.natAbs/\(FM.bot t b).natAbs<=b.natAbs:=by
 obtain⟨f,d⟩:=FM.split (t:=t) c;have j:=FM.ua (t:=t) c;have a:1<=(FM.dv t b).natAbs:=by omega
 have i:t.natAbs=(FM.dv t b).natAbs*(FM.top t b).natAbs:=by rw[<-dU,<-f]
 have h:b.natAbs=(FM.dv t b).natAbs*(FM.bot t b).natAbs:=by rw[<-dU,<-d]
 rw[i,h];exact⟨g7 _ a,g7 _ a⟩
end T2
namespace TR
open PySem PySem.NumText TM T2
noncomputable def Se:aa (aa Nat):=[[109,97,114,107],[102,105,108,108],[104,101,114,101],[98,97,99,107],[111,110],[97,116],[97,103,111],[117,110,116,105,108],[97,98,115],[97,110,100],[111,114],[110,111,116]]
def SS(c:Nat):i6:=decide (97<=c)&&decide (c<=122)
noncomputable def aaI(m:lC):i6:=decide (m≠[])&&decide (m.length<=8)&&m.all SS&&!decide (m∈Se)
structure Ok(m:lC)(t u:Nat)(n:Int):Prop where
 m:aaI m=true
 t:t<=1000000000
 u:u<=1000000000
 n:n.natAbs<10^60
end TR
set_option exponentiation.threshold 500
namespace P2
open PySem L2
def Xx{fs}:Ab i j fs ρ=toS (fs ρ) λa=>match a with
 |[d1,d2]=>if i<ρ.length/\j<ρ.length then .nx ((ρ.set i<|.sh d1).set j (.sh d2))else .bad
 |_=>.bad:=rfl
def Kf(c:0<=j)(a:j<1000000):qT [.int j]=.ok (qk 0 j.toNat):=by
 show(if -(2^62)<=j/\j<2^62 then R.ok (qk 0 j.toNat)else .bad)=_
 grind
end P2
set_option hygiene false in
local macro_rules|`(tactic|walk_at "d")=>do let l:="P2.Kb,P2.XH,P2.XB,P2.XC,P2.Kg,P2.Xb,P2.Xz,P2.Xw,P2.Xy,P2.XA,P2.Xv,P2.W8,P2.W5,P2.W6,P2.WZ,P2.W0,P2.W4,P2.W2,P2.W7,P2.WU,P2.WT,P2.WY,P2.Xu,P2.Xx,P2.XG,P2.Xf,P2.XE,P2.XF,P2.WW,P2.XD,P2.vP,P2.oG,P2.Xl,P2.Xg,P2.Xs,P2.W9,P2.Xr,P2.Xh,P2.Xj,P2.Xi,P2.Xk,P2.WV,P2.Xd,P2.xA,P2.Xo,P2.XI,P2.XJ,P2.XM,P2.XN,P2.XO,P2.XQ,P2.XS,P2.k7,aD,dg,au,cy,eQ,Nat.reduceAdd,Nat.reduceSub,List.replicate_zero,List.replicate_succ,aU,cz,List.cons_append,List.set_cons_zero,List.set_cons_succ,df,cj,Nat.reduceLT,Nat.zero_lt_succ,Bool.not_true,Bool.not_false,cI,iA,eP,Int.reduceLT".splitOn ","|>.toArray.map fun x=>Lean.mkIdent x.toName;`(tactic|try simp(disch:=first|assumption|decide|exact ar rfl)only[$[$l:ident],*])
namespace WP
open PySem L2 P2 TM T2 PySem.NumText
variable{a:Ad}
def TJ(i:Int):ky (BX a<|k7 1 [.int i])=.ok (.bl true):=by rfl
theorem LA:∀(n:Nat) (x y:Int) (s2:Sl),0<=x->0<=y->y<n->
 ∃s,pJ (b1 tB<|d2 uq (dV 1)<|iP 0) (wC a) n [kN x,kN y,s2]=.nx [kN<|FM.g x y,kN 0,s]
 |0,x,y,s2,c,f,h=>by lia
 |n+1,x,y,s2,c,f,h=>by
  rw[Kh];by_cases z:y=0
  .subst z;refine⟨s2,?_⟩;walk_at "d"
   rw[FM.Hj c]
  .have d:0<y:=by lia
   have i:=c0 x d;obtain⟨s,e⟩:=LA n y (x%y) (kN<|x%y) f (da x z) (by lia);refine⟨s,?_⟩;unfold wC;iterate 4 (walk_at "d";try simp only[z,oG d])
   rw[<-FM.Hi c d];exact e
def S7(x y:Int)(d:0<=x)(c:0<=y)(h:y.natAbs<10^400):ky (yY a<|k7 3 [.int x,.int y])=.ok (.int<|FM.g x y):=by
 obtain⟨s,e⟩:=LA (a:=a) vg x y .no d c (by lia);unfold yY;walk_at "d"
 rw[e];walk_at "d"
def yP{t b:Int}(c:b≠0)(h:b.natAbs<10^400):(FM.dv t b).natAbs<10^400:=by have:=FM.Ox (t:=t) (b:=b) c;walk_at "l"
abbrev fr(t b:Int):D:=.tup [.int<|FM.top t b,.int<|FM.bot t b]
def S6{j Fg:jg}(f:∀i:Int,j [.int i]=.ok (.bl true))(k:∀x y:Int,0<=x->0<=y->y.natAbs<10^400->Fg [.int x,.int y]=.ok (.int<|FM.g x y))(t b:Int)(c:b≠0)(h:b.natAbs<10^400):
    ky (yZ a j Fg<|k7 3 [.int t,.int b])=.ok (fr t b):=by
 have d:=k (if t<0 then -t else t) (if b<0 then -b else b) (by split<;>lia) (by split<;>grind) (by split<;>simp_all);rw[FM.Hd t b]at d;have d1:=z8 (i:=t) (FM.ua (t:=t) (b:=b) c) (yP c h);have d2:=z8 (i:=b) (FM.ua (t:=t) (b:=b) c) (yP c h);unfold yZ;by_cases b1:b<0
 .have e:FM.dv t b= -(FM.g t b):=by unfold FM.dv;rw[aq b1]
  rw[aq b1]at d;rw[e]at d1 d2;iterate 8 (walk_at "d";try simp only[f,c,b1,d,d1,d2,eP,iA])
  unfold fr FM.top FM.bot;rw[e]
 .have e:FM.dv t b=FM.g t b:=by unfold FM.dv;rw[aA b1]
  rw[aA b1]at d;rw[e]at d1 d2;iterate 8 (walk_at "d";try simp only[f,c,b1,d,d1,d2,eP,iA])
  unfold fr FM.top FM.bot;rw[e]
variable{a:Ad}
def Sz(n:Nat)(i:Int):Prop:=i.natAbs<10^n
def Sz.mono{n}{i:Int}(h:Sz m i)(le:m<=n):Sz n i:=aE h (iz (by decide) le)
def Sz.mul{n}{i j:Int}(h:Sz m i)(g:Sz n j):Sz (m+n) (i*j):=by unfold Sz at*;rw[dU,Nat.pow_add];exact Nat.mul_lt_mul'' h g
def Sz.add{n}{i j:Int}(h:Sz n i)(g:Sz n j):Sz (n+1) (i+j):=by unfold Sz at*;have:(10:Nat)^(n+1)=10^n*10:=dh ..;omega
def Sz.sub{n}{i j:Int}(h:Sz n i)(g:Sz n j):Sz (n+1) (i - j):=by unfold Sz at*;have:(10:Nat)^(n+1)=10^n*10:=dh ..;omega
def Sz.top{n}{t b:Int}(h:Sz n t)(c:b≠0):Sz n (FM.top t b):=b7 (Le t c).1 h
def Sz.bot{n}{t b:Int}(h:Sz n b)(c:b≠0):Sz n (FM.bot t b):=b7 (Le t c).2 h
def ng{i j:Int}(h:Sz 190 i)(g:Sz 190 j):jF (.int i) (.int j)=.ok (.int<|i*j):=Xq (h.mono<|by decide) (g.mono<|by decide)
abbrev pr(p q:Int):D:=.tup [.int p,.int q]
section
variable{j:jg}(hf:∀t b:Int,b≠0->b.natAbs<10^400->j [.int t,.int b]=.ok (fr t b)){p q x y:Int}(i:Sz 190 p)(e:Sz 190 q)(h:Sz 190 x)(c:Sz 190 y)
include hf i e h c
theorem Tp(u:q≠0)(s:y≠0):ky (y9 a j<|k7 2 [pr p q,pr x y])=.ok (fr (p*y+x*q)<|q*y):=by have r:L2.jO [D.int p,D.int q] 0=some (.int p):=rfl;have o:L2.jO [D.int p,D.int q] 1=some (.int q):=rfl;have n:L2.jO [D.int x,D.int y] 0=some (.int x):=rfl;have m:L2.jO [D.int x,D.int y] 1=some (.int y):=rfl;have l:=ng i c;have k:=ng h e;have d:=ng e c;have f:=hf (p*y+x*q) (q*y) (c9 u s) ((e.mul c).mono (by decide));unfold y9;iterate 7 (walk_at "d";try simp only[r,o,n,m,l,k,d,f])
theorem Ti(u:q≠0)(s:y≠0):ky (y7 a j<|k7 2 [pr p q,pr x y])=.ok (fr (p*y - x*q)<|q*y):=by have r:L2.jO [D.int p,D.int q] 0=some (.int p):=rfl;have o:L2.jO [D.int p,D.int q] 1=some (.int q):=rfl;have n:L2.jO [D.int x,D.int y] 0=some (.int x):=rfl;have m:L2.jO [D.int x,D.int y] 1=some (.int y):=rfl;have l:=ng i c;have k:=ng h e;have d:=ng e c;have f:=hf (p*y - x*q) (q*y) (c9 u s) ((e.mul c).mono (by decide));unfold y7;iterate 7 (walk_at "d";try simp only[r,o,n,m,l,k,d,f])
theorem TC(s:q≠0)(r:y≠0):ky (za a j<|k7 2 [pr p q,pr x y])=.ok (fr (p*x)<|q*y):=by have o:L2.jO [D.int p,D.int q] 0=some (.int p):=rfl;have n:L2.jO [D.int p,D.int q] 1=some (.int q):=rfl;have m:L2.jO [D.int x,D.int y] 0=some (.int x):=rfl;have l:L2.jO [D.int x,D.int y] 1=some (.int y):=rfl;have k:=ng i h;have d:=ng e c;have f:=hf (p*x) (q*y) (c9 s r) ((e.mul c).mono (by decide));unfold za;iterate 7 (walk_at "d";try simp only[o,n,m,l,k,d,f])
end
structure Ck where
 m:iS
 t:Int
 p:Int
 q:Int
abbrev Ck.d(c:Ck):D:=.tup [.str c.m,.int c.t,pr c.p c.q]
end WP
namespace WP
open PySem L2 P2 TM T2 PySem.NumText
variable{a:Ad}
def My(c:lJ)(k)(h:k<c.length):L2.jO (c.map D.int) (k:Int)=some (.int<|c.getD k 0):=by refine ry ?_;simp_all
def SW(c:lJ)(k:Nat):ky (Cd a<|k7 2 [.lst<|c.map .int,.int k])=.ok (.int<|c.getD k 0):=by
 unfold Cd;walk_at "d"
 rw[aj];by_cases h:k<c.length
 .rw[aq<|aR<|by simp_all,My c k h];walk_at "d"
 .rw[aA<|by simp;simp_all];walk_at "d"
  simp_all
theorem LB:∀(n:Nat) (x y:Int) (d c:Sl),0<=x->0<=y->y<n->
 pJ (b1 tB<|d2 sQ (dV 3)<|iP 0) (Bp a) n [d,c,kN x,kN y]=.nx [d,c,kN<|FM.g x y,kN 0]
 |0,x,y,d,c,i,j,h=>by lia
 |n+1,x,y,d,c,i,j,h=>by
  rw[Kh];by_cases z:y=0
  .subst z;walk_at "d"
   rw[FM.Hj i]
  .have f:0<y:=by lia
   have k:=c0 x f;have e:=LB n y (x%y) d c j (da x z) (by lia);unfold Bp;iterate 4 (walk_at "d";try simp only[aR f,oG f,and_self])
   rw[<-FM.Hi i f];exact e
def Tf(t b)(d:0<b)(h:b.natAbs<10^400):ky (Ci a<|k7 4 [.int t,.int b])=.ok (fr t b):=by
 have e:=LB (a:=a) vg (if t<0 then -t else t) b (kN t) (kN b) (by split<;>lia) (by walk_at "l") (by lia);have c:FM.g (if t<0 then -t else t) b=FM.dv t b:=by have:=FM.Hd t b;rw[aA<|show¬b<0 by lia]at this;rw[this];unfold FM.dv;rw[aA<|by lia]
 rw[c]at e;have d1:=z8 (i:=t) (FM.ua (t:=t) (b:=b)<|by lia) (yP (t:=t) (b:=b) (by lia) h);have d2:=z8 (i:=b) (FM.ua (t:=t) (b:=b)<|by lia) (yP (t:=t) (b:=b) (by lia) h);unfold Ci;iterate 4 (walk_at "d";try simp only[and_self])
 rw[e];iterate 4 (walk_at "d";try simp only[d1,d2])
 rfl
def zN(d:PyData.strOk x=true)(c:PyData.strOk y=true):PyData.strOk (x++y)=true:=by unfold PyData.strOk at*;rw[<-Array.all_toList]at*;show((vh<|x++y).all _)=true;rw[FY,List.all_append,aS];exact⟨d,c⟩
def len_app{y:iS}:(x++y).length=x.length+y.length:=by rw[CZ,FY,ag,<-CZ,<-CZ]
def MA:∀n:Nat,n<3->∃c,c<128/\L2.jO (Str.ofString "qxz").cps.toList (n:Int)=some c:=by decide
def Mz:∀n:Nat,n<26->∃c,c<128/\L2.jO (Str.ofString "abcdefghijklmnopqrstuvwxyz").cps.toList (n:Int)=some c:=by decide
def Dl(h:c<128):PyData.strOk ⟨#[c]⟩=true:=by unfold PyData.strOk;simp;walk_at "l"
def RN(j)(h:0<=j/\j<3):∃c,c<128/\L2.jO (Str.ofString "qxz").cps.toList j=some c:=by obtain⟨n,rfl⟩:=bp h.1;exact MA n (by omega)
def RM(j)(h:0<=j/\j<26):∃c,c<128/\L2.jO (Str.ofString "abcdefghijklmnopqrstuvwxyz").cps.toList j=some c:=by obtain⟨n,rfl⟩:=bp h.1;exact Mz n (by omega)
def lq:(Str.ofString "qxz").length<=sizeLine:=by decide
def la:(Str.ofString "abcdefghijklmnopqrstuvwxyz").length<=sizeLine:=by decide
def Kl(n):qk 0 n=((List.range n).map λ(k:Nat)=>(k:Int)).map D.int:=by unfold qk;simp
end WP
namespace WM
open PySem L2 P2 WP TM T2 PySem.NumText
variable{a:Ad}
inductive Fq where
 |back|on|ago|pG
inductive Bq where
 |add|sub|lt|eq|and|or
inductive T7 where
 |num(p q:Int)|at(w:Str)|here|far(k:Fq)(n:Int)|times(p q:Int)(t:T7)|abs(t:T7)|not(t:T7)|bin(k:Bq)(l r:T7)
def Fq.s:Fq->iS
 |.back=>"back"|.on=>"on"|.ago=>"ago"|.pG=>"until"
def Bq.s:Bq->iS
 |.add=>"+"|.sub=>"-"|.lt=>"<"|.eq=>"="|.and=>"and"|.or=>"or"
def T7.d:T7->D
 |.num p q=>.tup [.str "num",.tup [.int p,.int q]]
 |.at w=>.tup [.str "at",.str w]
 |.here=>.tup [.str "here"]
 |.far k n=>.tup [.str k.s,.int n]
 |.times p q t=>.tup [.str "times",.tup [.int p,.int q],t.d]
 |.abs t=>.tup [.str "abs",t.d]
 |.not t=>.tup [.str "not",t.d]
 |.bin k l r=>.tup [.str k.s,l.d,r.d]
def T7.kids:T7->aa T7
 |.times _ _ t=>[t]
 |.abs t=>[t]
 |.not t=>[t]
 |.bin _ l r=>[l,r]
 |_=>[]
def T7.parts:T7->aa T7
 |.times p q t=>.times p q t::t.parts
 |.abs t=>.abs t::t.parts
 |.not t=>.not t::t.parts
 |.bin k l r=>.bin k l r::(l.parts++r.parts)
 |t=>[t]
def T7.dep:T7->Nat
 |.times _ _ t=>t.dep+1
 |.abs t=>t.dep+1
 |.not t=>t.dep+1
 |.bin _ l r=>max l.dep r.dep+1
 |_=>0
def Jt(t:T7):t.parts=t::t.kids.flatMap T7.parts:=by cases t<;>simp[T7.parts,T7.kids]
def So{t u:T7}(h:u∈t.kids):u.dep<t.dep:=by
 cases t<;>simp[T7.kids]at h;.subst h;show _<_+1;simp
 .subst h;show _<_+1;simp
 .subst h;show _<_+1;simp
 .rename_i k l r;show _<max l.dep r.dep+1;rcases h with rfl|rfl<;>lia
def Tb(t:T7):ky (Hg a<|k7 1 [t.d])=.ok (.lst<|t.kids.map T7.d):=by
 cases t with
 |far k n=>cases k<;>kernel_rfl
 |bin k l r=>cases k<;>kernel_rfl
 |_=>kernel_rfl
section
variable{Fi p:jg}
def VS{t:T7}(h:p [t.d]=.ok (.lst<|t.parts.map T7.d))(s0)(acc)(c:acc.length+t.parts.length<=1000000):
    tS a Fi p [s0,.ow acc,.sh t.d]=.nx [s0,.ow<|acc++t.parts.map T7.d,.sh t.d]:=by
 show toS (p [t.d]) _=_;rw[h];show(if acc.length+(t.parts.map T7.d).length<=sizeLine then RT.nx _ else .bad)=_;rw[aq<|by rw[aj];exact aW c (by decide)];rfl
theorem Ju(c:Sl):∀(L:aa T7) (acc:jD) (s2:Sl),(∀t∈L,p [t.d]=.ok (.lst<|t.parts.map T7.d))->acc.length+(L.flatMap T7.parts).length<=1000000->
 ∃d,mi (gV 2) (tS a Fi p) (L.map T7.d) [c,.ow acc,s2]=.nx [c,.ow<|acc++(L.flatMap T7.parts).map T7.d,d]
 |[],acc,s2,_,_=>⟨s2,by rw[List.flatMap_nil,dg,aU];rfl⟩
 |t::L,acc,s2,h,f=>by rw[gm,ag]at f;obtain⟨d,e⟩:=Ju c L (acc++t.parts.map T7.d) (.sh t.d) (λu i=>h u (.tail _ i)) (by rw[ag,aj];lia);refine⟨d,?_⟩;rw[gm,bj,<-aT,<-e];show turnT (tS a Fi p [c,.ow acc,.sh t.d]) (mi (gV 2) (tS a Fi p)<|L.map T7.d)=_;rw[VS (h t<|.head _) c acc<|by lia];rfl
theorem IU(i:∀t:T7,Fi [t.d]=.ok (.lst<|t.kids.map T7.d)):∀(n:Nat) (t:T7),t.dep<n->t.parts.length<=1000000->
 oA (λF c=>ky<|ud a Fi F<|k7 3 c) n [t.d]=.ok (.lst<|t.parts.map T7.d)
 |0,t,h,_=>by simp_all
 |n+1,t,h,l=>by
  have d:=l;rw[Jt,au]at d;have k:∀u∈t.kids,oA (λF c=>ky (ud a Fi F (k7 3 c))) n [u.d]=.ok (.lst (u.parts.map T7.d)):=λu f=>IU i n u (by have:=So f;lia) (by
   have:u.parts.length<=(t.kids.flatMap T7.parts).length:=by obtain⟨x,y,e⟩:=List.append_of_mem f;rw[e,List.flatMap_append,gm,ag,ag];lia
   lia)
  obtain⟨j,e⟩:=Ju (a:=a) (Fi:=Fi) (.sh t.d) t.kids [t.d] .no k (by simp only[au,cy];lia);show ky (ud a Fi (oA (λF c=>ky<|ud a Fi F<|k7 3 c) n) [.sh t.d,.no,.no])=_;generalize oA (λF c=>ky<|ud a Fi F<|k7 3 c) n=p at*;have o:uC 1 (λρ=>((iK (dV 0) iQ) ρ).bind ju) [.sh t.d,.no,.no]=.nx [.sh t.d,.ow [t.d],.no]:=rfl;have m:uB (λρ=>((dA Fi<|iK (dV 0) iQ) ρ).bind jT) (gV 2) (tS a Fi p) [.sh t.d,.ow [t.d],.no]=.nx [.sh t.d,.ow<|[t.d]++(t.kids.flatMap T7.parts).map T7.d,j]:=by rw[<-e];show toS ((Fi [t.d]).bind jT) _=_;rw[i t];rfl
  unfold ud;show ky (oa (uC 1 (λρ=>((iK (dV 0) iQ) ρ).bind ju) [.sh t.d,.no,.no]) _)=_;rw[o];show ky (oa (uB (λρ=>((dA Fi<|iK (dV 0) iQ) ρ).bind jT) (gV 2) (tS a Fi p) [.sh t.d,.ow [t.d],.no]) _)=_;rw[m,Jt];rfl
theorem F7{k}{g:u->D}:∀L:aa r,(∀x∈L,k x=none->fc [.sh<|f x]=.ok false)->(∀x∈L,∀y,k x=some y->fc [.sh<|f x]=.ok true/\fe [.sh<|f x]=.ok (g y))->
 mP (gV 0) fc fe [.no] (L.map f)=some ((L.filterMap k).map g)
 |[],_,_=>rfl
 |x::L,i,h=>by
  have l:=F7 (f:=f) (k:=k) (g:=g) (fc:=fc) (fe:=fe) L (λy d=>i y<|.tail _ d) (λy d=>h y<|.tail _ d);show(some [Sl.sh<|f x]).bind (λc=>(rN<|fc c).bind λb=>if b=true then(rN<|fe c).bind λv=>(mP (gV 0) fc fe [.no]<|L.map f).bind λj=>some (v::j)else mP (gV 0) fc fe [.no] (L.map f))=_;rw[Option.bind_some,l];cases q:k x with
  |none=>rw[List.filterMap_cons_none q,i x (.head _) q];rfl
  |some y=>rw[gu q,(h x (.head _) y q).1,(h x (.head _) y q).2];rfl
def yL{f:r->D}{k:r->i0 v}{g}{fc:lI}{fe:jx}{L:aa r}(d:fi ρ=.ok (L.map f))(c:L.length<=1000000)(i:∀x∈L,k x=none->fc [.sh<|f x]=.ok false)(h:∀x∈L,∀y,k x=some y->fc [.sh<|f x]=.ok true/\fe [.sh<|f x]=.ok (g y)):
    kW fi 1 [] (gV 0) fc fe ρ=.ok ((L.filterMap k).map g):=by
 unfold kW;rw[d];show(if(L.map f).length<=sizeLine then vG (mP (gV 0) fc fe [.no]<|L.map f)else .bad)=_;rw[aq<|by rw[aj];exact aW c (by decide),F7 L i h];rfl
def wO{f:r->D}{g}{fe:jx}{ρ:Ev}{L:aa r}(i:fi ρ=.ok (L.map f))(c:L.length<=1000000)(j:∀x∈L,fe [.sh<|f x]=.ok (g x)):
    kW fi 1 [] (gV 0) (λ_=>.ok true) fe ρ=.ok (L.map g):=by
 have:=yL (k:=λx=>some x) (g:=g) (fc:=λ_=>.ok true) (fe:=fe) i c (λx _ h=>by cases h) (λx d y h=>by cases h;exact⟨rfl,j x d⟩);simp_all
theorem Ib{f:v->D}{g}(h:∀x,ml (f x)=some (g x)):∀c:aa v,lE (c.map f)=some (c.map g)
 |[]=>rfl
 |n::r=>by show(ml<|f n).bind (λk=>(lE<|r.map f).map (k:: ·))=_;rw[Ib h r,h];rfl
def CC{f:v->D}(h:∀x,kf (f x)=some sg)(L:aa v):nG (L.map f)=true:=by
 cases L with
 |nil=>rfl
 |cons x r=>show((kf<|f x).isSome&&(r.map f).all λe=>kf e==kf (f x))=true;simp_all
theorem JL{f:v->D}:∀c,(∀d∈c,∃n,d=f n)->∃L:aa v,c=L.map f
 |[],_=>⟨[],rfl⟩
 |d::r,h=>by obtain⟨n,rfl⟩:=h d (.head _);obtain⟨L,rfl⟩:=JL r λd i=>h d (.tail _ i);exact⟨n::L,rfl⟩
theorem Gg:∀c:aa Key,(dd c).length<=c.length
 |[]=>af _
 |k::r=>by
  have:=Gg r;unfold dd;split;.rw[au];walk_at "l"
  .rw[au,au];walk_at "l"
def T5(ks d):d∈kJ ((dd ks).map kD)↔∃k∈ks,d=kD k:=by rw[(nh _).mem_iff,aH];exact⟨λ⟨k,h,e⟩=>⟨k,(uo k ks).mp h,e.symm⟩,λ⟨k,h,e⟩=>⟨k,(uo k ks).mpr h,e.symm⟩⟩
def KP{j:Type}{f:j->D}{g:j->Key}(o:∀x,ml (f x)=some (g x))(r:∀x,kD (g x)=f x)(w:∀x,kf (f x)=some sg)(q:∀x y,f x=f y->x=y)(c:aa j)(h:c.length<64):∃L:aa j,oJ (.lst<|c.map f)=.ok (L.map f)/\(∀x,x∈L↔x∈c)/\L.length<=c.length:=by
 have l:∀d,d∈kJ ((dd (c.map g)).map kD)↔∃n∈c,d=f n:=λd=>(T5 (c.map g) d).trans ⟨λ⟨k,u,e⟩=>by obtain⟨n,i,rfl⟩:=aH.mp u;exact⟨n,i,e.trans (r n)⟩,λ⟨n,i,e⟩=>⟨g n,aH.mpr ⟨n,i,rfl⟩,e.trans (r n).symm⟩⟩
 obtain⟨L,e⟩:=JL (f:=f) (kJ ((dd (c.map g)).map kD)) λd v=>let⟨n,_,h⟩:=(l d).mp v;⟨n,h⟩;rw[e]at l;refine⟨L,?_,λx=>⟨λm=>?_,λm=>?_⟩,?_⟩
 .show(match lE (c.map f)with|some s=>if nG (c.map f)=true/\(c.map f).length<64 then R.ok (kJ<|(dd s).map kD)else .bad|none=>.bad)=_;rw[Ib o];show(if nG (c.map f)=true/\(c.map f).length<64 then R.ok (kJ<|(dd<|c.map g).map kD)else .bad)=_;rw[aq ⟨CC w c,by rw[aj];exact h⟩,e]
 .obtain⟨n,i,e⟩:=(l<|f x).mp (aH.mpr ⟨x,m,rfl⟩);rw[q _ _ e];exact i
 .obtain⟨y,t,e⟩:=aH.mp ((l<|f x).mpr ⟨x,m,rfl⟩);rw[<-q _ _ e];exact t
 .have o:=bG List.length e;rw[(nh _).length_eq,aj,aj]at o;have:=Gg (c.map g);simp_all
def KQ(c:lJ)(h:c.length<64):∃L:aa Int,oJ (.lst<|c.map D.int)=.ok (L.map D.int)/\(∀x,x∈L↔x∈c)/\L.length<=c.length:=KP (g:=Sum.inl) (sg:=[0]) (λ_=>rfl) (λ_=>rfl) (λ_=>rfl) (λ_ _ e=>by cases e;rfl) c h
inductive Ask where
 |here|back(n:Int)|on(n:Int)|at(w:Str)
def Ask.d:Ask->D
 |.here=>.tup [.str "here"]
 |.back n=>.tup [.str "back",.int n]
 |.on n=>.tup [.str "on",.int n]
 |.at w=>.tup [.str "at",.str w]
def FH:T7->i0 Ask
 |.far .back n=>some (.back n)
 |.far .ago n=>some (.back n)
 |.far .on n=>some (.on n)
 |.far .pG n=>some (.on n)
 |.at w=>some (.at w)
 |_=>none
def wI:T7->i0 Int
 |.far .back n=>some n
 |.far .ago n=>some n
 |_=>none
def xp:T7->i0 Int
 |.far .on n=>some n
 |.far .pG n=>some n
 |_=>none
def wB:T7->i0 iS
 |.at w=>some w
 |_=>none
def T7.asks(t:T7):aa Ask:=t.parts.filterMap FH
def rr(h:f ρ=.ok X):jt f ρ=.ok (.lst X):=by unfold jt;rw[h];rfl
def D6(h:f ρ=.ok X)(c:oJ (.lst X)=.ok Y)(d:i<ρ.length):lF i (jt<|λρ=>((jt f) ρ).bind oJ) ρ=.nx (ρ.set i<|kg Y):=by have e:jt (λρ=>((jt f) ρ).bind oJ) ρ=.ok (.lst Y):=rr (by rw[rr h];exact c);show toS (jt (λρ=>((jt f) ρ).bind oJ) ρ) _=_;rw[e];exact aq d
def BP(d:ρ[i]?=some (.ow X))(h:f ρ=.ok Y)(c:X.length+Y.length<=1000000):pD i (jt f) ρ=.nx (ρ.set i<|.ow<|X++Y):=by unfold pD;rw[d];rw[rr h];exact aq (aW c<|by decide)
abbrev cA(u v:iS):Ev->R (aa D):=kW (λρ=>((dV 1) ρ).bind jT) 1 [] (gV 0) (b1 tB<|d2 pZ (iN 0 0)<|dA jj<|iK (i8 u)<|iK (i8 v) iQ) (iN 0 1)
abbrev cE(i:Nat)(u:iS):jx:=jt (kW (λρ=>((dV i) ρ).bind jT) 1 [] (gV 0) (λ_=>.ok true)<|dA jj<|iK (i8 u)<|iK (dV 0) iQ)
def SU{t:T7}(T:p [t.d]=.ok (.lst<|t.parts.map T7.d))(hz:t.parts.length<64):
    ∃A:aa Ask,ky (BV a p<|k7 6 [t.d])=.ok (.lst<|A.map Ask.d)/\A.length<=3*t.parts.length+1/\∀x,x∈A↔x=.here\/x∈t.asks:=by
 have M:t.parts.length<=1000000:=by lia
 have I {V:Type} (k:T7->i0 V):(t.parts.filterMap k).length<64:=b7 (cM ..) hz;obtain⟨B,eB,mB,lB⟩:=KQ (t.parts.filterMap wI) (I _);obtain⟨O,eO,mO,lO⟩:=KQ (t.parts.filterMap xp) (I _);obtain⟨W,eW,mW,lW⟩:=KP (f:=D.str) (g:=Sum.inr) (sg:=[1]) (λ_=>rfl) (λ_=>rfl) (λ_=>rfl) (λ_ _ e=>by cases e;rfl) (t.parts.filterMap wB) (I _);have fB:=I wI;have gB:=cM wI t.parts;have gO:=cM xp t.parts;have gW:=cM wB t.parts;have fO:=I xp;have fW:=I wB;refine⟨.here::(B.map .back++(O.map .on++W.map .at)),?_,by simp only[au,ag,aj];lia,λx=>?_⟩
 .generalize N:t.parts.map T7.d=P at T;have c1:∀ρ:Ev,ρ[1]?=some (kg P)->cA "back" "ago" ρ=.ok ((t.parts.filterMap wI).map D.int):=λρ C=>by
   refine yL (f:=T7.d) (L:=t.parts) (k:=wI) (by show(dV 1 ρ).bind jT=_;unfold dV;rw[C,N];rfl) M (λx _ J=>?_) (λx _ y G=>?_)
   .cases x with
    |far k n=>cases k<;>first|cases J;done|kernel_rfl
    |bin k l r=>cases k<;>kernel_rfl
    |_=>kernel_rfl
   .cases x with
    |far k n=>cases k<;>first|(cases G;done)|(cases G;exact⟨by kernel_rfl,rfl⟩)
    |_=>cases G
  have c2:∀ρ:Ev,ρ[1]?=some (kg P)->cA "on" "until" ρ=.ok ((t.parts.filterMap xp).map D.int):=λρ C=>by
   refine yL (f:=T7.d) (L:=t.parts) (k:=xp) (by show(dV 1 ρ).bind jT=_;unfold dV;rw[C,N];rfl) M (λx _ J=>?_) (λx _ y G=>?_)
   .cases x with
    |far k n=>cases k<;>first|cases J;done|kernel_rfl
    |bin k l r=>cases k<;>kernel_rfl
    |_=>kernel_rfl
   .cases x with
    |far k n=>cases k<;>first|(cases G;done)|(cases G;exact⟨by kernel_rfl,rfl⟩)
    |_=>cases G
  have c3:∀ρ:Ev,ρ[1]?=some (kg P)->kW (λρ=>((dV 1) ρ).bind jT) 1 [] (gV 0) (b1 tB<|d2 jm (iN 0 0)<|i8 "at") (iN 0 1) ρ=.ok ((t.parts.filterMap wB).map D.str):=λρ C=>by
   refine yL (f:=T7.d) (L:=t.parts) (k:=wB) (by show(dV 1 ρ).bind jT=_;unfold dV;rw[C,N];rfl) M (λx _ J=>?_) (λx _ y G=>?_)
   .cases x with
    |far k n=>cases k<;>kernel_rfl
    |bin k l r=>cases k<;>kernel_rfl
    |«at» w=>cases J
    |_=>kernel_rfl
   .cases x with
    |«at» w=>cases G;exact⟨by kernel_rfl,rfl⟩
    |_=>cases G
  have n1:∀(c q j d s:Sl),lF 2 (jt<|λρ=>((jt<|cA "back" "ago") ρ).bind oJ) [c,kg P,q,j,d,s]=.nx [c,kg P,kg<|B.map D.int,j,d,s]:=λc q j d s=>D6 (c1 _ rfl) eB (ar rfl);have Z:∀(c q j d s:Sl),lF 3 (jt<|λρ=>((jt<|cA "on" "until") ρ).bind oJ) [c,kg P,q,j,d,s]=.nx [c,kg P,q,kg<|O.map D.int,d,s]:=λc q j d s=>D6 (c2 _ rfl) eO (ar rfl);have Y:∀(c q j d s:Sl),lF 4 (jt<|λρ=>((jt<|kW (λρ=>((dV 1) ρ).bind jT) 1 [] (gV 0) (b1 tB<|d2 jm (iN 0 0)<|i8 "at")<|iN 0 1) ρ).bind oJ) [c,kg P,q,j,d,s]=.nx [c,kg P,q,j,kg<|W.map D.str,s]:=λc q j d s=>D6 (c3 _ rfl) eW (ar rfl)
  have e1:∀(c z j d:Sl) (X:jD),X.length<=10000->pD 5 (cE 2 "back") [c,z,kg<|B.map D.int,j,d,.ow X]=.nx [c,z,kg<|B.map D.int,j,d,.ow<|X++(B.map Ask.back).map Ask.d]:=λc z j d X U=>BP (i:=5) rfl (by rw[bh];exact wO (f:=D.int) (L:=B) rfl (by lia) λx _=>rfl) (by rw[aj,aj];lia)
  have e2:∀(c z q d:Sl) (X:jD),X.length<=10000->pD 5 (cE 3 "on") [c,z,q,kg<|O.map D.int,d,.ow X]=.nx [c,z,q,kg<|O.map D.int,d,.ow<|X++(O.map Ask.on).map Ask.d]:=λc z j d X U=>BP (i:=5) rfl (by rw[bh];exact wO (f:=D.int) (L:=O) rfl (by lia) λx _=>rfl) (by rw[aj,aj];lia)
  have e3:∀(c z q j:Sl) (X:jD),X.length<=10000->pD 5 (cE 4 "at") [c,z,q,j,kg<|W.map D.str,.ow X]=.nx [c,z,q,j,kg<|W.map D.str,.ow<|X++(W.map Ask.at).map Ask.d]:=λc z j d X U=>BP (i:=5) rfl (by rw[bh];exact wO (f:=D.str) (L:=W) rfl (by lia) λx _=>rfl) (by rw[aj,aj];lia)
  have h0:lF 1 (dA p<|iK (dV 0) iQ) [.sh t.d,.no,.no,.no,.no,.no]=.nx [.sh t.d,kg P,.no,.no,.no,.no]:=by show toS (p [t.d]) _=_;rw[T];rfl
  have o:∀{g h:jI} {ρ mx:Ev},g ρ=.nx mx->jW g h ρ=h mx:=λe=>by unfold jW;rw[e];rfl
  unfold BV;show ky (jW _ _ [.sh t.d,.no,.no,.no,.no,.no])=_;rw[o h0,o<|n1 _ _ _ _ _,o<|Z _ _ _ _ _,o<|Y _ _ _ _ _];have ho:uC 5 (λρ=>((iK (dA jj<|iK (i8 "here") iQ) iQ) ρ).bind ju) [.sh t.d,kg P,kg<|B.map D.int,kg<|O.map D.int,kg<|W.map D.str,.no]=.nx [.sh t.d,kg P,kg<|B.map D.int,kg<|O.map D.int,kg<|W.map D.str,.ow [Ask.here.d]]:=rfl;rw[o ho,o<|e1 _ _ _ _ _<|by simp,o<|e2 _ _ _ _ _<|by simp only[ag,aj,au,cy];lia,o<|e3 _ _ _ _ _<|by simp only[ag,aj,au,cy];lia];show R.ok (D.lst _)=_
  congr 2
  simp
 .have Q:∀y:Ask,y∈t.asks↔∃u∈t.parts,FH u=some y:=λy=>aZ;rw[Q];simp only[aI,aY,aH,mB,mO,mW,aZ];constructor
  .rintro (h|⟨n,⟨u,F,e⟩,rfl⟩|⟨n,⟨u,F,e⟩,rfl⟩|⟨w,⟨u,F,e⟩,rfl⟩)
   .exact .inl h
   .refine .inr ⟨u,F,?_⟩;cases u with
    |far k m=>cases k<;>first|(cases e;done)|(cases e;rfl)
    |_=>cases e
   .refine .inr ⟨u,F,?_⟩;cases u with
    |far k m=>cases k<;>first|(cases e;done)|(cases e;rfl)
    |_=>cases e
   .refine .inr ⟨u,F,?_⟩;cases u with
    |«at» v=>cases e;rfl
    |_=>cases e
  .rintro (h|⟨u,F,e⟩)
   .exact .inl h
   .cases u with
    |far k m=>
     cases k with
     |back=>cases e;exact .inr (.inl ⟨m,⟨_,F,rfl⟩,rfl⟩)
     |ago=>cases e;exact .inr (.inl ⟨m,⟨_,F,rfl⟩,rfl⟩)
     |on=>cases e;exact .inr (.inr<|.inl ⟨m,⟨_,F,rfl⟩,rfl⟩)
     |pG=>cases e;exact .inr (.inr<|.inl ⟨m,⟨_,F,rfl⟩,rfl⟩)
    |«at» w=>cases e;exact .inr (.inr<|.inr ⟨w,⟨_,F,rfl⟩,rfl⟩)
    |_=>cases e
variable{a:Ad}
variable{j C:jk}{S S1 E H:iZ}{f g h:jd}{i:Nat}{z:Z}{c:mV}{u v:ji}
def jC(e:u j S=.nx C S1):iO u v j S=v C S1:=by unfold iO;rw[e];rfl
def pM(e:u j S=.rt z S1):iO u v j S=.rt z S1:=by unfold iO;rw[e];rfl
def kj(e:f j S=.ok z S1)(d:i<j.length):i4 i f j S=.nx (j.set i<|some z) S1:=by unfold i4;rw[e];exact aq d
def y_ret(e:f j S=.ok z S1):jo f j S=.rt z S1:=by unfold jo;rw[e];rfl
def nq(e:c j S=.ok true S1):jr c u v j S=u j S1:=by unfold jr;rw[e];rfl
def tf(e:c j S=.ok false S1):jr c u v j S=v j S1:=by unfold jr;rw[e];rfl
def lX{w}(e:c j S=.ok false S1):iO (jr c u jA) w j S=w j S1:=jC (tf e)
def v5{w}(e:c j S=.ok true S1)(h:u j S1=.rt z E):iO (jr c u jA) w j S=.rt z E:=pM ((nq e).trans h)
def jM(e:j[i]?=some (some z)):zV i j S=.ok z S:=by unfold zV;rw[e]
def iV{q:jx}{d}(e:q (j6 j)=.ok d):zD q j S=.ok (.d d) S:=by unfold zD;rw[e];rfl
def lY{q:lI}{d}(e:q (j6 j)=.ok d):zB q j S=.ok d S:=by unfold zB;rw[e];rfl
def si{q:jx}{d}(e:q (vw S j)=.ok d)(h:oX d=true):zR q j S=.ok (.d d) S:=by unfold zR;rw[e];exact aq h
def AA{q:lI}{d}(e:q (vw S j)=.ok d):qt q j S=.ok d S:=by unfold qt;rw[e]
def jG:iY j S=.ok [] S:=rfl
def i3{r:nM}(e:f j S=.ok z S1)(d:r j S1=.ok zs E):iL f r j S=.ok (z::zs) E:=by unfold iL;rw[e];show((r j S1).bind _)=_;rw[d];rfl
def lZ{q:jg}{r:nM}(k:jD){d}(e:r j S=.ok (k.map .d) S1)(l:q k=.ok d):zF q r j S=.ok (.d d) S1:=by
 unfold zF;rw[e];show(match lU (k.map Z.d)with
 |some k=>(kR (q k) S1).bind λd S=>RX.ok (Z.d d) S
 |none=>.bad)=_
 rw[qF];show(kR (q k) S1).bind _=_;rw[l];rfl
def lg{q:qD}{w}(l:f j S=.ok (.d x) S1)(k:g j S1=.ok (.d y) E)(d:q x y=.ok w):z2 q f g j S=.ok (.d w) E:=by unfold z2;rw[l];show((g j S1).bind _)=_;rw[k];show((kR (q x y) E).bind _)=_;rw[d];rfl
def xV{q:D->R i6}{k}(l:f j S=.ok (.d x) S1)(d:q x=.ok k):o6 q f j S=.ok k S1:=by unfold o6;rw[l];show kR (q x) S1=_;rw[d];rfl
def lP{F:jh}{r:nM}(e:r j S=.ok zs S1)(d:F zs S1=x):zZ F r j S=x:=by unfold zZ;rw[e];exact d
def aaR(d:c j S=.ok true S1):th c e j S=e j S1:=by unfold th;rw[d];rfl
def aaS(d:c j S=.ok false S1):th c e j S=.ok false S1:=by unfold th;rw[d];rfl
def AD(e:f j S=.ok z S1):v9 f j S=.ok (wZ z) S1:=by unfold v9;rw[e];rfl
def LP(e:f j S=.ok z S1):wa f j S=.ok (!wZ z) S1:=by unfold wa;rw[e];rfl
def LN{n k}(h:f j S=.ok (.loc n) S)(d:g j S=.ok (.d<|.tup ds) S)(l:lE ds=some k)(m:S[n]?=some (.dt kvs))(hv:valZ kvs k=some z):pO f g j S=.ok z S:=by
 unfold pO;rw[h];show((g j S).bind _)=_;rw[d]
 show(match lE ds,S[n]? with
  |some k,some (.dt kvs)=>(match valZ kvs k with
   |some z=>RX.ok z S
   |none=>.bad)
  |_,_=>.bad)=_
 rw[l,m]
 show(match valZ kvs k with
  |some z=>RX.ok z S
  |none=>.bad)=_
 rw[hv]
end
def Ask.k:Ask->aa Key
 |.here=>[.inr "here"]
 |.back n=>[.inr "back",.inl n]
 |.on n=>[.inr "on",.inl n]
 |.at w=>[.inr "at",.inr w]
def Bk(x:Ask):∃c,x.d=.tup c/\lE c=some x.k:=by cases x<;>exact⟨_,rfl,rfl⟩
abbrev Env:=Ask->Int×Int×Int
def lo(t b:Int):Int×Int:=(FM.top t b,FM.bot t b)
abbrev lN(x:Int×Int):D:=pr x.1 x.2
noncomputable def wv(e:Env):T7->Int×Int
 |.num p q=>lo p q
 |.here=>lo (e .here).2.1 (e .here).2.2
 |.at w=>lo (e<|.at w).2.1 (e<|.at w).2.2
 |.far .back n=>lo (e<|.back n).2.1 (e<|.back n).2.2
 |.far .on n=>lo (e<|.on n).2.1 (e<|.on n).2.2
 |.far .ago n=>lo ((e .here).1 - (e<|.back n).1) 1
 |.far .pG n=>lo ((e<|.on n).1 - (e .here).1) 1
 |.times p q t=>lo (p*(wv e t).1) (q*(wv e t).2)
 |.abs t=>lo ((wv e t).1.natAbs:Int) (wv e t).2
 |.bin .add l r=>lo ((wv e l).1*(wv e r).2+(wv e r).1*(wv e l).2) ((wv e l).2*(wv e r).2)
 |.bin .sub l r=>lo ((wv e l).1*(wv e r).2 - (wv e r).1*(wv e l).2) ((wv e l).2*(wv e r).2)
 |_=>(0,1)
noncomputable def hv(e:Env):T7->i6
 |.bin .lt l r=>decide ((wv e l).1*(wv e r).2<(wv e r).1*(wv e l).2)
 |.bin .eq l r=>decide (wv e l=wv e r)
 |.not t=>!hv e t
 |.bin .and l r=>hv e l&&hv e r
 |.bin .or l r=>hv e l||hv e r
 |_=>false
inductive Tw:Nat->T7->Prop
 |num {p q:Int}:0<q->Sz 62 p->Sz 62 q->Tw 62 (.num p q)
 |«at» (w:Str):Tw 62 (.at w)
 |here:Tw 62 .here
 |far (k:Fq) (n:Int):Tw 62 (.far k n)
 |times {p q:Int} {s:Nat} {t:T7}:0<q->Sz 62 p->Sz 62 q->Tw s t->s<=190->Tw (62+s) (.times p q t)
 |abs {s:Nat} {t:T7}:Tw s t->Tw s (.abs t)
 |add {s r:Nat} {t u:T7}:Tw s t->Tw r u->s<=190->r<=190->Tw (s+r+1) (.bin .add t u)
 |sub {s r:Nat} {t u:T7}:Tw s t->Tw r u->s<=190->r<=190->Tw (s+r+1) (.bin .sub t u)
inductive Cw:T7->Prop
 |lt {s r:Nat} {t u:T7}:Tw s t->Tw r u->s<=190->r<=190->Cw (.bin .lt t u)
 |eq {s r:Nat} {t u:T7}:Tw s t->Tw r u->s<=190->r<=190->Cw (.bin .eq t u)
 |not {t:T7}:Cw t->Cw (.not t)
 |and {t u:T7}:Cw t->Cw u->Cw (.bin .and t u)
 |or {t u:T7}:Cw t->Cw u->Cw (.bin .or t u)
structure pP(e:Env):Prop where
 t:∀x,Sz 61 (e x).1
 p:∀x,Sz 62 (e x).2.1
 q:∀x,Sz 62 (e x).2.2
 n:∀x,(e x).2.2≠0
def pC{s}{t b:Int}(c:b≠0)(d:Sz s t)(f:Sz r b):Sz s (lo t b).1/\Sz r (lo t b).2/\(lo t b).2≠0:=⟨d.top c,f.bot c,λh=>by have:=(FM.uk (t:=t) c).pos;have i:FM.bot t b=0:=h;simp_all⟩
def uw:Sz 62 1:=by unfold Sz;decide
def sY(E:pP e){s t}(h:Tw s t):Sz s (wv e t).1/\Sz s (wv e t).2/\(wv e t).2≠0:=by
 induction h with
 |num l j i=>exact pC (cW l) j i
 |«at» w=>exact pC (E.n _) (E.p _) (E.q _)
 |here=>exact pC (E.n _) (E.p _) (E.q _)
 |far k n=>
  cases k with
  |back=>exact pC (E.n _) (E.p _) (E.q _)
  |on=>exact pC (E.n _) (E.p _) (E.q _)
  |ago=>exact pC (by decide) ((E.t _).sub (E.t _)) uw
  |pG=>exact pC (by decide) ((E.t _).sub (E.t _)) uw
 |times l j i _ _ f=>exact pC (c9 (cW l) f.2.2) (j.mul f.1) (i.mul f.2.1)
 |abs _ f=>exact pC f.2.2 (show Nat.lt _ _ by rw[Int.natAbs_natCast];exact f.1) f.2.1
 |add _ _ _ _ d c=>exact pC (c9 d.2.2 c.2.2) ((d.1.mul c.2.1).add ((c.1.mul d.2.1).mono (by lia))) ((d.2.1.mul c.2.1).mono (by simp))
 |sub _ _ _ _ d c=>exact pC (c9 d.2.2 c.2.2) ((d.1.mul c.2.1).sub ((c.1.mul d.2.1).mono (by lia))) ((d.2.1.mul c.2.1).mono (by simp))
abbrev _root_.mC:=aa Ask
structure Fd(S:iZ)(n:Nat)(A:mC)(e:Env)(kvs:lR):Prop where
 at':S[n]?=some (.dt kvs)
 val:∀x∈A,valZ kvs x.k=iM (.tup [.int (e x).1,pr (e x).2.1 (e x).2.2])
abbrev HF(Ff:jg):Prop:=∀t b:Int,b≠0->b.natAbs<10^400->Ff [.int t,.int b]=.ok (fr t b)
section
variable{S:iZ}{n:Nat}{A:mC}{e:Env}{l:lR}{c v B r C J:jg}{I H:jh}{E:jk}{i j:Nat}{x:Ask}
def BU(F:Fd S n A e l)(h:x∈A)(k:E[i]?=some (ba n))(f:E[j]?=some (iM x.d)):pO (zV i) (zD (dV j)) E S=.ok (.d (.tup [.int (e x).1,pr (e x).2.1 (e x).2.2])) S:=by obtain⟨p,o,m⟩:=Bk x;rw[o]at f;exact LN (jM k) (iV (d:=.tup p) (by unfold dV j6;rw[aC,f];rfl)) m F.at' (F.val x h)
def Tj(hf:HF c)(F:Fd S n A e l)(h:x∈A)(f:y∈A)(b):
    jc (B8 a c b (jR 3 [.d x.d,.d y.d,.loc n]) S)=.ok (.d<|fr ((e y).1 - (e x).1) 1) S:=by
 unfold B8;rw[y_ret<|lZ [.int<|(e y).1 - (e x).1,.int 1] (i3 (lg (lg (BU F f rfl rfl) (iV (d:=.int 0) rfl) (w:=.int (e y).1) rfl) (lg (BU F h rfl rfl) (iV (d:=.int 0) rfl) (w:=.int (e x).1) rfl) rfl)<|i3 (iV (d:=.int 1) rfl) jG)<|hf _ 1 (by decide)<|by decide];rfl
def Kc(x y):zB (b1 tB<|d2 jm (dV 2)<|i8 y) (s0::s1::iM (.str x)::s3) S=.ok (decide<|x=y) S:=rfl
def kA{k f:j3}{d:jk}{x y:iS}{u w:ji}(h:decide (x=y)=false):iO (jr (zB<|b1 tB<|d2 jm (dV 2)<|i8 y) u jA) w (k::f::iM (.str x)::d) S=w (k::f::iM (.str x)::d) S:=lX (by rw[Kc,h])
def qj{k f:j3}{d:jk}{x y:iS}{u w:ji}{z:Z}(h:decide (x=y)=true)(m:u (k::f::iM (.str x)::d) S=.rt z S):iO (jr (zB<|b1 tB<|d2 jm (dV 2)<|i8 y) u jA) w (k::f::iM (.str x)::d) S=.rt z S:=v5 (by rw[Kc,h]) m
structure Ar(a:Ad)(c v B r C J:jg):Prop where
 f:HF c
 p:∀{p q x y:Int},Sz 190 p->Sz 190 q->Sz 190 x->Sz 190 y->q≠0->y≠0->v [pr p q,pr x y]=.ok (fr (p*y+x*q)<|q*y)
 m:∀{p q x y:Int},Sz 190 p->Sz 190 q->Sz 190 x->Sz 190 y->q≠0->y≠0->B [pr p q,pr x y]=.ok (fr (p*y - x*q)<|q*y)
 t:∀{p q x y:Int},Sz 190 p->Sz 190 q->Sz 190 x->Sz 190 y->q≠0->y≠0->r [pr p q,pr x y]=.ok (fr (p*x)<|q*y)
 a:∀{p q:Int},q≠0->Sz 390 q->C [pr p q]=.ok (fr (p.natAbs:Int) q)
 u:∀{p q x y:Int},Sz 190 p->Sz 190 q->Sz 190 x->Sz 190 y->J [pr p q,pr x y]=.ok (.bl<|decide<|p*y<x*q)
abbrev E5(a:Ad)(c v B r C:jg)(I:jh):(jh)->jh:=λH zs S=>jc (pA a c v B r C I H S.length (jR 4 zs) S)
end
variable{a:Ad}
section
variable{S:iZ}{n:Nat}{A:mC}{e:Env}{J:lR}{i C H B I f:jg}{K c:jh}
def nT{x:iS}{rest:jD}{h z2:j3}{k:jk}{v:ji}:iO (i4 2<|zD<|iN 0 0) v (iM (.tup<|.str x::rest)::h::z2::k) S=v (iM (.tup<|.str x::rest)::h::iM (.str x)::k) S:=by refine jC (kj (iV (d:=.str x) ?_)<|by simp);show jq (.tup<|.str x::rest) (.int 0)=_;unfold jq;dsimp only;rw[show L2.jO (D.str x::rest) 0=some (.str x)from L2.ry (j:=0) rfl];try rfl
def Au{q:Int}{s}(h:Sz s q)(d:s<=400):q.natAbs<10^400:=h.mono d
def An(hf:HF i)(E:pP e)(F:Fd S n A e J)(l:x∈A)(b):jc (pA a i C H B I K c b (jR 4 [.d x.d,.loc n]) S)=.ok (.d<|fr (e x).2.1 (e x).2.2) S:=by
 have h:∀j:iS,(iO (i4 3<|z2 jq (pO (zV 1)<|zD<|dV 0)<|zD<|iP 1)<|jo<|zD<|dA i<|iK (iN 3 0)<|iK (iN 3 1) iQ) [iM x.d,ba n,iM<|.str j,none] S=.rt (.d<|fr (e x).2.1 (e x).2.2) S:=λj=>by rw[jC<|kj (lg (BU F l rfl rfl) (iV (d:=.int 1) rfl) (w:=pr (e x).2.1 (e x).2.2) rfl)<|ar rfl];exact y_ret (iV<|hf _ _ (E.n x)<|Au (E.q x)<|by decide)
 unfold pA;cases x with
 |here=>show jc (iO (i4 2 _) _ (iM (.tup<|.str "here"::[])::ba n::none::[none]) S)=_;rw[nT];simp(disch:=decide+kernel)only[kA];first|exact bG jc (h _)|(rw[h];rfl)
 |back k=>show jc (iO (i4 2 _) _ (iM (.tup<|.str "back"::[.int k])::ba n::none::[none]) S)=_;rw[nT];simp(disch:=decide+kernel)only[kA];first|exact bG jc (h _)|(rw[h];rfl)
 |on k=>show jc (iO (i4 2 _) _ (iM (.tup<|.str "on"::[.int k])::ba n::none::[none]) S)=_;rw[nT];simp(disch:=decide+kernel)only[kA];first|exact bG jc (h _)|(rw[h];rfl)
 |«at» w=>show jc (iO (i4 2 _) _ (iM (.tup<|.str "at"::[.str w])::ba n::none::[none]) S)=_;rw[nT];simp(disch:=decide+kernel)only[kA];first|exact bG jc (h _)|(rw[h];rfl)
def Tw.le{s t}(h:Tw s t):s<=381:=by induction h<;>lia
def u7{k}{l:T7}(h:x∈l.asks):x∈(T7.bin k l r).asks:=by unfold T7.asks at*;obtain⟨u,d,q⟩:=aZ.mp h;exact aZ.mpr ⟨u,bo _<|aY.mpr<|.inl d,q⟩
def u9{k}{r:T7}(h:x∈r.asks):x∈(T7.bin k l r).asks:=by unfold T7.asks at*;obtain⟨u,d,q⟩:=aZ.mp h;exact aZ.mpr ⟨u,bo _<|aY.mpr<|.inr d,q⟩
def oh{F:jh}{t:T7}{d}{q:jx}(k:q (j6 ρ)=.ok t.d)(j:ρ[1]?=some (ba n))(h:F [.d t.d,.loc n] S=.ok (.d d) S):zZ F (iL (zD q)<|iL (zV 1) iY) ρ S=.ok (.d d) S:=
 lP (i3 (iV k)<|i3 (jM j) jG) h
def TQ(R:Ar a i C H B I f)(E:pP e)(F:Fd S n A e J)(hm:∀x y,x∈A->y∈A->K [.d x.d,.d y.d,.loc n] S=.ok (.d<|fr ((e y).1 - (e x).1) 1) S)(V:Ask.here∈A):
    ∀m {s} {t},Tw s t->t.dep<m->(∀x∈t.asks,x∈A)->lD (E5 a i C H B I K) m [.d t.d,.loc n] S=.ok (.d<|lN<|wv e t) S:=by
 intro m;induction m with
 |zero=>intro s t _ h;simp_all
 |succ m N=>
  intro s t h Q z;show jc (pA a i C H B I K (lD (E5 a i C H B I K) m) S.length (jR 4 [.d t.d,.loc n]) S)=_;cases h with
  |«at» w=>exact An (x:=.at w) R.f E F (z _<|.head _) _
  |here=>exact An (x:=.here) R.f E F V _
  |num M h2 U=>rename_i p q;replace M:=cW M;unfold pA;show jc (iO (i4 2 _) _ (iM (.tup<|.str "num"::[pr p q])::ba n::none::[none]) S)=_;rw[nT];rw[qj (by decide+kernel)<|y_ret<|iV<|R.f p q M<|Au U<|by decide];rfl
  |far k j=>
   cases k with
   |back=>exact An (x:=.back j) R.f E F (z _<|.head _) _
   |on=>exact An (x:=.on j) R.f E F (z _<|.head _) _
   |ago=>unfold pA;show jc (iO (i4 2 _) _ (iM (.tup<|.str "ago"::[.int j])::ba n::none::[none]) S)=_;rw[nT];rw[kA<|by decide+kernel];rw[qj (by decide+kernel)<|y_ret<|lP (i3 (iV (d:=(Ask.back j).d) rfl)<|i3 (iV (d:=Ask.here.d) rfl)<|i3 (jM rfl) jG)<|hm (.back j) .here (z _<|.head _) V];rfl
   |pG=>unfold pA;show jc (iO (i4 2 _) _ (iM (.tup<|.str "until"::[.int j])::ba n::none::[none]) S)=_;rw[nT];rw[kA<|by decide+kernel,kA<|by decide+kernel];rw[qj (by decide+kernel)<|y_ret<|lP (i3 (iV (d:=Ask.here.d) rfl)<|i3 (iV (d:=(Ask.on j).d) rfl)<|i3 (jM rfl) jG)<|hm .here (.on j) V<|z _<|.head _];rfl
  |add o O D P=>rename_i s r t u;have Y:max t.dep u.dep+1<m+1:=Q;have l:=sY E o;have G:=sY E O;have L:=N o (by grind) λx v=>z x (u7 v);have T:=N O (by grind) λx v=>z x (u9 v);unfold pA;show jc (iO (i4 2 _) _ (iM (.tup<|.str "+"::[t.d,u.d])::ba n::none::[none]) S)=_;rw[nT];rw[kA<|by decide+kernel,kA<|by decide+kernel,kA<|by decide+kernel];rw[qj (by decide+kernel)<|y_ret<|lZ [lN<|wv e t,lN<|wv e u] (i3 (oh (t:=t) rfl rfl L)<|i3 (oh (t:=u) rfl rfl T) jG)<|R.p (l.1.mono D) (l.2.1.mono D) (G.1.mono P) (G.2.1.mono P) l.2.2 G.2.2];rfl
  |sub o O D P=>rename_i s r t u;have Y:max t.dep u.dep+1<m+1:=Q;have l:=sY E o;have G:=sY E O;have L:=N o (by lia) λx v=>z x (u7 v);have T:=N O (by lia) λx v=>z x (u9 v);unfold pA;show jc (iO (i4 2 _) _ (iM (.tup<|.str "-"::[t.d,u.d])::ba n::none::[none]) S)=_;rw[nT];rw[kA<|by decide+kernel,kA<|by decide+kernel,kA<|by decide+kernel,kA<|by decide+kernel];rw[qj (by decide+kernel)<|y_ret<|lZ [lN<|wv e t,lN<|wv e u] (i3 (oh (t:=t) rfl rfl L)<|i3 (oh (t:=u) rfl rfl T) jG)<|R.m (l.1.mono D) (l.2.1.mono D) (G.1.mono P) (G.2.1.mono P) l.2.2 G.2.2];rfl
  |times M h2 U o D=>rename_i p q s t;replace M:=cW M;have Y:t.dep+1<m+1:=Q;have l:=sY E o;have L:=N o (by walk_at "l") λx v=>z x v;unfold pA;show jc (iO (i4 2 _) _ (iM (.tup<|.str "times"::[pr p q,t.d])::ba n::none::[none]) S)=_;rw[nT];rw[kA<|by decide+kernel,kA<|by decide+kernel,kA<|by decide+kernel,kA<|by decide+kernel,kA<|by decide+kernel];rw[qj (by decide+kernel)<|y_ret<|lZ [pr p q,lN<|wv e t] (i3 (iV (d:=pr p q) rfl)<|i3 (oh (t:=t) rfl rfl L) jG)<|R.t (h2.mono<|by decide) (U.mono<|by decide) (l.1.mono D) (l.2.1.mono D) M l.2.2];rfl
  |abs o=>rename_i t;have Y:t.dep+1<m+1:=Q;have l:=sY E o;have L:=N o (by walk_at "l") λx v=>z x v;unfold pA;show jc (iO (i4 2 _) _ (iM (.tup<|.str "abs"::[t.d])::ba n::none::[none]) S)=_;rw[nT];rw[kA<|by decide+kernel,kA<|by decide+kernel,kA<|by decide+kernel,kA<|by decide+kernel,kA<|by decide+kernel,kA<|by decide+kernel];rw[qj (by decide+kernel)<|y_ret<|lZ [lN<|wv e t] (i3 (oh (t:=t) rfl rfl L) jG)<|R.a l.2.2<|l.2.1.mono<|aW o.le<|by decide];rfl
variable{a:Ad}
def OO(x y:Int×Int):oz (lN x) (lN y)=.ok (.bl<|decide<|x=y):=by
 by_cases h:x=y;.subst h;rw[eq_self rfl<|by show 1<=60;decide,aR rfl]
 .rw[ON rfl rfl (by show 1<=60;decide) (by show 1<=60;decide) λd=>h ?_,aG h]
  grind
abbrev tF(a:Ad)(f:jg)(c:jh):(jh)->jh:=λZh zs S=>jc (y6 a f c Zh S.length (jR 3 zs) S)
def S9(R:Ar a i C H B I f)(E:pP e)(M)(w:∀{s} {t},Tw s t->t.dep<M->(∀x∈t.asks,x∈A)->c [.d t.d,.loc n] S=.ok (.d<|lN<|wv e t) S):
    ∀m {t},Cw t->t.dep<m->t.dep<M->(∀x∈t.asks,x∈A)->lD (tF a f c) m [.d t.d,.loc n] S=.ok (.d<|.bl<|hv e t) S:=by
 intro m;induction m with
 |zero=>intro t _ h;simp_all
 |succ m o=>
  intro t h L q k;show jc (y6 a f c (lD (tF a f c) m) S.length (jR 3 [.d t.d,.loc n]) S)=_;unfold y6;cases h with
  |lt j l F D=>rename_i s r t u;have y:max t.dep u.dep+1<M:=q;have O:=sY E j;have N:=sY E l;show jc (iO (i4 2 _) _ (iM (.tup<|.str "<"::[t.d,u.d])::ba n::none::[]) S)=_;rw[nT];rw[qj (by decide+kernel)<|y_ret<|lZ [lN<|wv e t,lN<|wv e u] (i3 (oh (t:=t) rfl rfl<|w j (by grind) λx d=>k x<|u7 d)<|i3 (oh (t:=u) rfl rfl<|w l (by grind) λx d=>k x<|u9 d) jG)<|R.u (O.1.mono F) (O.2.1.mono F) (N.1.mono D)<|N.2.1.mono D];rfl
  |eq j l F D=>rename_i s r t u;have y:max t.dep u.dep+1<M:=q;show jc (iO (i4 2 _) _ (iM (.tup<|.str "="::[t.d,u.d])::ba n::none::[]) S)=_;rw[nT,kA<|by decide+kernel];rw[qj (by decide+kernel)<|y_ret<|lg (oh (t:=t) rfl rfl<|w j (by lia) λx d=>k x<|u7 d) (oh (t:=u) rfl rfl<|w l (by lia) λx d=>k x<|u9 d)<|OO (wv e t)<|wv e u];rfl
  |not j=>
   rename_i t;have y:t.dep+1<m+1:=L;have v:t.dep+1<M:=q;have p:=o j (by walk_at "l") (by walk_at "l") λx d=>k x d;show jc (iO (i4 2 _) _ (iM (.tup<|.str "not"::[t.d])::ba n::none::[]) S)=_;rw[nT,kA<|by decide+kernel,kA<|by decide+kernel];have z:wg (zZ (lD (tF a f c) m)<|iL (zD<|iN 0 1)<|iL (zV 1) iY) (iM (.tup<|.str "not"::[t.d])::ba n::iM (.str "not")::[]) S=.ok (.d<|.bl<|!hv e t) S:=by unfold wg;rw[oh (t:=t) rfl rfl p];rfl
   rw[qj (by decide+kernel)<|y_ret z];rfl
  |and j l=>
   rename_i t u;have y:max t.dep u.dep+1<m+1:=L;have v:max t.dep u.dep+1<M:=q;have p:=o j (by grind) (by lia) λx d=>k x (u7 d);have G:=o l (by grind) (by lia) λx d=>k x (u9 d);show jc (iO (i4 2 _) _ (iM (.tup<|.str "and"::[t.d,u.d])::ba n::none::[]) S)=_;rw[nT,kA<|by decide+kernel,kA<|by decide+kernel,kA<|by decide+kernel];have z:Av (zZ (lD (tF a f c) m)<|iL (zD<|iN 0 1)<|iL (zV 1) iY) (zZ (lD (tF a f c) m)<|iL (zD<|iN 0 2)<|iL (zV 1) iY) (iM (.tup<|.str "and"::[t.d,u.d])::ba n::iM (.str "and")::[]) S=.ok (.d<|.bl<|hv e t&&hv e u) S:=by
    unfold Av;rw[oh (t:=t) rfl rfl p];show(if hv e t=true then _ else _)=_;cases hv e t with
    |true=>rw[aq rfl,oh (t:=u) rfl rfl G];rfl
    |false=>rw[aA av];rfl
   rw[qj (by decide+kernel)<|y_ret z];rfl
  |or j l=>
   rename_i t u;have y:max t.dep u.dep+1<m+1:=L;have v:max t.dep u.dep+1<M:=q;have p:=o j (by lia) (by lia) λx d=>k x (u7 d);have G:=o l (by lia) (by lia) λx d=>k x (u9 d);show jc (iO (i4 2 _) _ (iM (.tup<|.str "or"::[t.d,u.d])::ba n::none::[]) S)=_;rw[nT,kA<|by decide+kernel,kA<|by decide+kernel,kA<|by decide+kernel,kA<|by decide+kernel];have z:Ax (zZ (lD (tF a f c) m)<|iL (zD<|iN 0 1)<|iL (zV 1) iY) (zZ (lD (tF a f c) m)<|iL (zD<|iN 0 2)<|iL (zV 1) iY) (iM (.tup<|.str "or"::[t.d,u.d])::ba n::iM (.str "or")::[]) S=.ok (.d<|.bl<|hv e t||hv e u) S:=by
    unfold Ax;rw[oh (t:=t) rfl rfl p];show(if hv e t=true then _ else _)=_;cases hv e t with
    |true=>rw[aq rfl];rfl
    |false=>rw[aA av,oh (t:=u) rfl rfl G];rfl
   rw[y_ret z];rfl
end
variable{a:Ad}
section
variable{f:Type}[DecidableEq f]{kvs:aa<|f×Z}{k c:f}{v:Z}
def uG(x):valZ (x::kvs) k=if x.1=k then some x.2 else valZ kvs k:=by
 unfold valZ
 grind
def aaz(x):valZ (kvs++[x]) k=(match valZ kvs k with|some z=>some z|none=>if x.1=k then some x.2 else none):=by
 induction kvs with
 |nil=>exact uG x
 |cons y r d=>
  rw[List.cons_append,uG,uG]
  lia
def aaA(h:(kvs.any λd=>decide<|d.1=k)=false):valZ kvs k=none:=by
 unfold valZ
 grind
def vX:valZ (jL kvs k v) c=if k=c then some v else valZ kvs c:=by
 unfold jL;cases h:kvs.any λi=>decide (i.1=k)with
 |false=>
  rw[aA av,aaz];by_cases e:k=c;.subst e;rw[aaA h,aq rfl];try rfl
  .rw[aA e];cases valZ kvs c<;>simp[e]
 |true=>
  rw[aq rfl];by_cases e:k=c
  .subst e;rw[aq rfl];induction kvs with
   |nil=>cases h
   |cons x r d=>
    rw[aD,uG]
    grind
  .rw[aA e];clear h;induction kvs with
   |nil=>rfl
   |cons x r d=>
    rw[aD,uG,uG,d]
    lia
def xg:(jL kvs k v).length<=kvs.length+1:=by
 unfold jL
 grind
def wY{n}(h:((jL kvs k v).any λp=>mF n p.2)=true):(kvs.any λp=>mF n p.2)=true\/mF n v=true:=by
 obtain⟨x,d,q⟩:=gR.mp h;unfold jL at d
 grind
end
abbrev nI(S:iZ)(j:Nat):Prop:=S.any (j9 j)=false
def kS(S:iZ):Prop:=∀j,S.length<=j->nI S j
def oH(h:nI S j)(d:j9 j c=false):nI (S++[c]) j:=by grind
def mu{n}(h:nI S j)(f:j9 j c=false):nI (S.set n c) j:=
 bX.mpr λx d=>by
  rcases List.mem_or_eq_of_mem_set d with d|d;.exact bX.mp h x d
  .subst d;rw[f];exact av
def lu(L:jD)(j):j9 j (.li<|L.map Z.d)=false:=by show(L.map Z.d).any (mF j)=false;rw[iH];exact bX.mpr λ_ _=>nofun
structure Gr(S S':iZ):Prop where
 len:S.length<=S'.length
 pre:∀j,j<S.length->S'[j]?=S[j]?
 sf:∀j,j<S.length->nI S j->nI S' j
 bnd:kS S->kS S'
def Gr.trans(g:Gr S S1)(h:Gr S1 S2):Gr S S2:=⟨aW g.len h.len,λj c=>(h.pre j<|aE c g.len).trans (g.pre j c),λj c s=>h.sf j (aE c g.len)<|g.sf j c s,λb=>h.bnd<|g.bnd b⟩
def Gr.app(f:∀j,j9 j c=false):Gr S (S++[c]):=⟨by rw[ag];exact cK ..,λj d=>aw d,λj _ h=>oH h<|f j,λb j d=>oH (b j<|by rw[ag]at d;walk_at "l")<|f j⟩
def Gr.get{S}{n:Nat}(g:Gr S S')(h:S[n]?=some c):S'[n]?=some c:=(g.pre n (az.mp h).1).trans h
def rT{n}(h:n<100000):n<sizeLine:=aE h (by decide)
def nF(S:iZ)(c):(S++[c])[S.length]?=some c:=by simp
def kQ{S:iZ}{n}(h:S[n]?=some c):n<S.length:=(az.mp h).1
section
variable{c:jk}{S e j l:iZ}{f g h:jd}{i n:Nat}{z:Z}{q:jx}
def AB{fs}(h:f c S=.ok (.loc n) S)(m:S[n]?=some (.ob C fs))(k:fs.lookup x=some z):qr C f x c S=.ok z S:=by
 unfold qr;rw[h]
 show(match S[n]? with
  |some (.ob d fs)=>if d=C then(match fs.lookup x with
   |some z=>RX.ok z S
   |none=>.bad)else .bad
  |_=>.bad)=_
 simp_all
def Ew{fs}{k}(h:fs c S=.ok (ds.map Z.d) S)(m:lE ds=some k)(o:k.length<1000):uH fs c S=.ok (.tk k) S:=by
 unfold uH;rw[h]
 show(match(lU (ds.map Z.d)).bind lE with
  |some d=>if d.length<=sizeLine then RX.ok (Z.tk d) S else .bad
  |none=>.bad)=_
 rw[qF]
 show(match lE ds with
  |some d=>if d.length<=sizeLine then RX.ok (Z.tk d) S else .bad
  |none=>.bad)=_
 rw[m];exact aq (dD<|rT<|by walk_at "l")
def xU{d k}(h:f c S=.ok (.d d) S)(o:rG d=some k):qX f c S=.ok (.tk k) S:=by
 unfold qX;rw[h]
 show(match rG d with
  |some m=>RX.ok (Z.tk m) S
  |none=>.bad)=_
 rw[o]
def LM{k}(h:f c S=.ok (.loc n) S)(d:S[n]?=some (.dt kvs))(m:g c S=.ok (.tk k) S):xO f g c S=.ok ((valZ kvs k).getD (.d .non)) S:=by
 unfold xO;rw[h]
 show(match S[n]? with
  |some (.dt _)=>(g c S).bind λy j=>(match y,j[n]? with
   |.tk k,some (.dt kvs)=>RX.ok ((valZ kvs k).getD (.d .non)) j
   |_,_=>.bad)
  |_=>.bad)=_
 rw[d];rw[m]
 show(match Z.tk k,S[n]? with
  |.tk k,some (.dt kvs)=>RX.ok ((valZ kvs k).getD (.d .non)) S
  |_,_=>.bad)=_
 rw[d]
def LO{d k}(h:f c S=.ok (.loc n) S)(m:q (j6 c)=.ok d)(o:ml d=some k)(p:S[n]?=some (.dk kvs))(hv:valZ kvs k=some z):v8 f q c S=.ok z S:=by
 unfold v8;rw[h];rw[m]
 show(match Z.loc n,ml d with
  |.loc n,some k=>(match S[n]? with
   |some (.dk kvs)=>(match valZ kvs k with
    |some z=>RX.ok z S
    |none=>.bad)
   |_=>.bad)
  |_,_=>.bad)=_
 rw[o];simp_all
def xM{k}(o:h c S=.ok z S)(hf:f c S=.ok (.loc n) S)(m:g c S=.ok (.tk k) S)(p:S[n]?=some (.dt kvs))(d:kvs.length<100000):rZ f g h c S=.nx c (S.set n<|.dt<|jL kvs k z):=by
 unfold rZ;rw[o];show toZ (f c S) _=_;rw[hf];show toZ (g c S) _=_;rw[m]
 show(match S[n]? with
  |some (.dt kvs)=>if kvs.length<sizeLine then kT.nx c (S.set n<|.dt<|jL kvs k z)else .bad
  |_=>.bad)=_
 rw[p];exact aq (rT d)
def sZ(k:c[i]?=some (ba n))(o:S[n]?=some (.li zs))(hf:f c S=.ok z e)(m:e[n]?=some (.li L0))(d:L0.length<100000):nj i f c S=.nx c (e.set n<|.li<|L0++[z]):=by
 unfold nj;rw[k]
 show(match S[n]? with
  |some (.li _)=>toZ (f c S) λz e=>(match e[n]? with
   |some (.li zs)=>if zs.length<sizeLine then kT.nx c (e.set n<|.li<|zs++[z])else .bad
   |_=>.bad)
  |_=>.bad)=_
 rw[o];rw[hf]
 show(match e[n]? with
  |some (.li zs)=>if zs.length<sizeLine then kT.nx c (e.set n<|.li<|zs++[z])else .bad
  |_=>.bad)=_
 rw[m];exact aq (rT d)
def rY(m:S[n]?=some (.li<|L.map Z.d)):mw S (ba n)=kg L:=by
 show(match S[n]? with
  |some (.li k)=>(match lU k with
   |some d=>Sl.sh (.lst d)
   |none=>.no)
  |_=>.no)=_
 rw[m]
 show(match lU (L.map Z.d)with
  |some d=>Sl.sh (.lst d)
  |none=>.no)=_
 rw[qF]
end
variable{a:Ad}
structure Rd where
 m:iS
 t:Int
 p:Int
 q:Int
def Rd.d(r:Rd):D:=.tup [.str r.m,.int r.t,pr r.p r.q]
def own(c:aa Rd)(m:iS):aa Rd:=c.filter λr=>decide (r.m=m)
def uz:aa Rd->iS->Int->i0 Nat
 |[],_,_=>none
 |r::l,m,t=>if r.m=m/\r.t=t then some (own l m).length else uz l m t
def place(c:aa Rd)(m:iS)(t:Int):i0 Nat:=uz c.reverse m t
def Dt(l:aa Rd)(m):(own l.reverse m).length=(own l m).length:=by unfold own;simp
def vJ(row r m):own (row++[r]) m=own row m++(if r.m=m then[r]else[]):=by
 unfold own
 grind
def JP(row r m)(t:Int):place (row++[r]) m t=if r.m=m/\r.t=t then some (own row m).length else place row m t:=by unfold place;rw[List.reverse_append];show(if r.m=m/\r.t=t then some (own row.reverse m).length else uz row.reverse m t)=_;rw[Dt]
def DJ{t:Int}(h:place row m t=some i):∃r,(own row m)[i]?=some r/\r.t=t/\r.m=m:=by
 unfold place at h;rw[<-List.reverse_reverse row];generalize row.reverse=l at h;induction l with
 |nil=>cases h
 |cons r l c=>
  rw[List.reverse_cons,vJ];unfold uz at h;split at h
  .rename_i w;cases h;refine⟨r,?_,w.2,w.1⟩;rw[aq w.1,<-Dt];simp
  .grind
def Ask.um(r:Rd):Ask->iS
 |.at w=>w
 |_=>r.m
def Ask.to(i:Int):Ask->Int
 |.back n=>i - n
 |.on n=>i+n
 |_=>i
noncomputable def see(c:aa Rd)(r:Rd)(k:Ask):i0 Rd:=match place c (k.um r) r.t with
 |none=>none
 |some i=>if 0<=k.to i/\k.to i<(own c<|k.um r).length then(own c<|k.um r)[(k.to i).toNat]? else none
def qU:i0 Rd->D
 |none=>.non
 |some r=>r.d
def D5{s k}(h:see row r k=some s):s∈row:=by
 unfold see at h;split at h;.cases h
 .split at h;.exact(bF.mp<|a9 h).1
  .cases h
abbrev pk(m:iS)(t:Int):aa Key:=[.inr m,.inl t]
abbrev _root_.om:=aa (Key×Z)
abbrev _root_.rl:=iS->i0 Nat
structure Lg(pv:iS->Int->i0 Z)(S:iZ)(n hi nl nb:Nat)(M:om)(P:lR)(lc:rl)(row:aa Rd):Prop where
 b1:n<=nl
 b2:nl<hi
 b3:n<=nb
 b4:nb<hi
 b5:nl≠nb
 mc:S[nl]?=some (.dk M)
 pc:S[nb]?=some (.dt P)
 vp:∀m t,valZ P (pk m t)=pv m t
 vm:∀m:iS,valZ M (.inr m)=(lc m).map Z.loc
 no:∀m,lc m=none->own row m=[]
 li:∀m q,lc m=some q->n<=q/\q<hi/\q≠nl/\q≠nb/\S[q]?=some (.li<|(own row m).map λr=>Z.d r.d)
 ij:∀m m' q,lc m=some q->lc m'=some q->m=m'
 hm:∀j,j9 j (.dk M)=true->n<=j/\j<hi
 hp:∀j,j9 j (.dt P)=false
structure Sg(a:Ad)(S:iZ)(n hi nm np:Nat)(M:om)(P:lR)(lc:rl)(row:aa Rd):Prop extends Lg (λm t=>(place row m t).map λ(i:Nat)=>Z.d<|.int i) S (n+1) hi nm np M P lc row where
 ob:S[n]?=some (.ob a.Sight [("masts",.loc nm),("places",.loc np)])
section
variable{S v:iZ}{n f p l:Nat}{M:om}{P:lR}{lc:rl}{c:aa Rd}
def Lg.mv{pv}(g:Lg pv S n f p l M P lc c)(h:∀j,n<=j->j<f->v[j]?=S[j]?):Lg pv v n f p l M P lc c:=
 {g with
  mc:=by rw[h p g.b1 g.b2];exact g.mc
  pc:=by rw[h l g.b3 g.b4];exact g.pc
  li:=λm q e=>by obtain⟨i,d,r,o,k⟩:=g.li m q e;exact⟨i,d,r,o,by rw[h q i d];exact k⟩}
def Sg.mv(g:Sg a S n f p l M P lc c)(h:∀j,n<=j->j<f->v[j]?=S[j]?):Sg a v n f p l M P lc c:=
 ⟨g.toLg.mv λj i d=>h j (Nat.le_of_succ_le i) d,by have:=g.b1;have:=g.b2;rw[h n (af _)<|by lia];exact g.ob⟩
def Ask.RC:Ask->i6
 |.back _=>true
 |_=>false
def Ask.uf:Ask->i6
 |.on _=>true
 |_=>false
def Ka(x:Ask):zB (b1 tB<|d2 jm (iN 2 0)<|i8 "back") (s0::s1::iM x.d::s3) S=.ok x.RC S:=by cases x<;>kernel_rfl
def Ke(x:Ask):zB (b1 tB<|d2 jm (iN 2 0)<|i8 "on") (s0::s1::iM x.d::s3) S=.ok x.uf S:=by cases x<;>kernel_rfl
def Xm(r:Rd)(x:Ask):zD (sN (b1 tB<|d2 jm (iN 2 0)<|i8 "at") (iN 2 1)<|iN 1 0) (s0::iM r.d::iM x.d::s3) S=.ok (.d<|.str<|x.um r) S:=by cases x<;>kernel_rfl
def Tn(g:Sg a S n f p l M P lc c)(r:Rd)(x:Ask)(b):
    jc (BS a b (jR 6 [.loc n,.d r.d,.d x.d]) S)=.ok (.d<|qU<|see c r x) S:=by
 unfold BS;show jc (iO (i4 3 _) _ [ba n,iM r.d,iM x.d,none,none,none] S)=_;rw[jC<|kj (Xm r x)<|ar rfl];show jc (iO (i4 4 _) _ [ba n,iM r.d,iM x.d,iM<|.str<|x.um r,none,none] S)=_;generalize N:x.um r=m;rw[jC<|kj (LM (AB (jM rfl) g.ob rfl) g.pc<|Ew (ds:=[.str m,.int r.t]) (i3 (iV rfl)<|i3 (iV rfl) jG) rfl (by decide:2<1000))<|ar rfl];rw[g.vp];unfold see;rw[N];cases A:place c m r.t with
 |none=>show jc (iO _ _ [ba n,iM r.d,iM x.d,iM<|.str m,iM .non,none] S)=_;rw[v5 (AD<|jM (z:=.d .non) rfl)<|y_ret<|iV (d:=.non) rfl];rfl
 |some i=>
  show jc (iO _ _ [ba n,iM r.d,iM x.d,iM<|.str m,iW i,none] S)=_;rw[lX<|AD<|jM (z:=.d<|.int i) rfl];obtain⟨O,I,T,Q⟩:=DJ A;have C:lc m≠none:=λw=>by rw[g.no m w]at I;cases I
  obtain⟨q,G⟩:=f7.mp C;obtain⟨_,_,_,_,F⟩:=g.li m q G;have s:S[q]?=some (.li<|((own c m).map Rd.d).map Z.d):=by rw[bh];exact F
  have L:valZ M (.inr m)=ba q:=by rw[g.vm,G];rfl
  generalize u:x.to (i:Int)=j
  have h:(iO (i4 5 (v8 (qr a.Sight (zV 0) "masts") (dV 3)))
   (jo (zR (sN (b1 tB (wN xf mQ (iP 0) (dV 4) (dA l7 (iK (dV 5) iQ)))) (d2 jq (dV 5) (dV 4)) (dC .non))))) [ba n,iM r.d,iM x.d,iM (.str m),iW j,none] S
   =.rt (.d<|qU<|if 0<=j/\j<(own c m).length then(own c m)[j.toNat]? else none) S:=by
   rw[jC<|kj (LO (AB (jM rfl) g.ob rfl) (d:=.str m) rfl rfl g.mc L)<|ar rfl];show jo _ [ba n,iM r.d,iM x.d,iM<|.str m,iW j,ba q] S=_;have hv:vw S [ba n,iM r.d,iM x.d,iM<|.str m,iW j,ba q]=[mw S<|ba n,.sh r.d,.sh x.d,oI m,kN j,kg<|(own c m).map Rd.d]:=by show[mw S<|ba n,Sl.sh r.d,.sh x.d,oI m,kN j,mw S<|ba q]=_;rw[rY s]
   refine y_ret (si (d:=qU<|if 0<=j/\j<(own c m).length then(own c m)[j.toNat]? else none) ?_ ?_)
   .rw[hv]
    show((((R.ok (D.bl (decide (0<=j)))).bind λz=>match z with
     |.bl true=>(R.ok<|D.int ((own c m).map Rd.d).length).bind λw=>mQ (.int j) w
     |.bl false=>.ok (.bl false)
     |_=>.bad).bind tB).bind λk=>if k=true then jq (.lst ((own c m).map Rd.d)) (.int j)else R.ok .non)=_
    rw[aj];by_cases t:0<=j
    .rw[aR t];show(if decide (j<((own c m).length:Int))=true then jq (.lst<|(own c m).map Rd.d) (.int j)else R.ok .non)=_;by_cases y:j<((own c m).length:Int)
     .rw[aq<|aR y,aq ⟨t,y⟩];have o:j.toNat<(own c m).length:=by simp_all
      have e:((own c m).map Rd.d)[j.toNat]?=some ((own c m)[j.toNat]).d:=by rw[aC,ax o];rfl
      have J:=L2.ry e;rw[Int.toNat_of_nonneg t]at J
      show(match L2.jO ((own c m).map Rd.d) j with
       |some d=>R.ok d
       |none=>.bad)=_
      rw[J,ax o];rfl
     .rw[aA<|by simpa using y,aA λw=>y w.2];rfl
    .rw[aG t,aA λw=>t w.1];rfl
   .split;.cases(own c m)[j.toNat]?<;>rfl
    .rfl
  cases x with
  |here=>rw[lX<|Ka (x:=.here),lX<|Ke (x:=.here)];subst u;rw[show(Ask.here).to (i:Int)=(i:Int)from rfl]at h;exact bG jc h
  |«at» w=>rw[lX<|Ka (x:=.at w),lX<|Ke (x:=.at w)];subst u;exact bG jc h
  |back k=>subst u;exact bG jc h
  |on k=>subst u;exact bG jc h
end
variable{a:Ad}
def zv{y:Ask}(h:x.k=y.k):x=y:=by cases x<;>cases y<;>simp[Ask.k]at h<;>first|rfl|(subst h;rfl)|(exact absurd h (by decide+kernel))|(exact absurd h.1 (by decide+kernel))|(obtain⟨c,d⟩:=h;exact absurd c (by decide+kernel))
abbrev encP(p:Ask×Rd):aa Key×Z:=(p.1.k,Z.d p.2.d)
structure Seen(row:aa Rd)(r:Rd)(A:mC)(B:aa<|Ask×Rd):Prop where
 mem:∀p,p∈B↔p.1∈A/\see row r p.1=some p.2
 len:B.length<=A.length
def KC{c}{r:Rd}{B:aa<|Ask×Rd}(h:∀p∈B,see c r p.1=some p.2){k}{s}(d:(k,s)∈B):valZ (B.map encP) k.k=iM s.d:=by
 induction B with
 |nil=>cases d
 |cons p B f=>
  rw[aD,uG];by_cases e:p.1=k;.grind
  .rw[aA λw=>e<|zv w]
   grind
def KA{c}{r:Rd}{B:aa<|Ask×Rd}(h:∀p∈B,see c r p.1=some p.2){k}{s}(n:see c r k=some s):∃f:aa (Ask×Rd),jL (B.map encP) k.k (.d s.d)=f.map encP/\(∀p,p∈f↔p∈B\/p=(k,s))/\f.length<=B.length+1:=by
 unfold jL;cases q:(B.map encP).any λi=>decide (i.1=k.k)with
 |false=>rw[aA av];exact⟨B++[(k,s)],by rw[bj];rfl,λp=>by simp,by simp⟩
 |true=>
  rw[aq rfl];obtain⟨y,j,e⟩:=gR.mp q;obtain⟨p,l,rfl⟩:=aH.mp j;have o:p.1=k:=zv (cQ e);have d:p=(k,s):=by grind
  refine⟨B,?_,λx=>⟨.inl,λw=>w.elim id λw=>by rw[w,<-d];exact l⟩,cN _⟩;rw[bh];refine dj λx m=>?_;show(if(encP x).1=k.k then((encP x).1,Z.d s.d)else encP x)=encP x;by_cases w:(encP x).1=k.k
  .rw[aq w];have ex:x.1=k:=zv w
   grind
  .rw[aA w]
def CS(x:Ask):rG x.d=some x.k:=by cases x<;>rfl
def R9(x:Ask):D.tup (x.k.map kD)=x.d:=by cases x<;>rfl
def Ot(B:aa r)(f:r->aa Key×D)(j):j9 j (.dt<|B.map λp=>((f p).1,Z.d (f p).2))=false:=by show(B.map λp=>((f p).1,Z.d (f p).2)).any (λp=>mF j p.2)=false;rw[iH];exact bX.mpr λ_ _=>nofun
def vk(B:aa<|Ask×Rd)(j):j9 j (.dt<|B.map encP)=false:=Ot B (λp=>(p.1.k,p.2.d)) j
section
variable{S v:iZ}{n y H E:Nat}{M:om}{P:lR}{lc:rl}{l:aa Rd}{m:jh}
def Ex{fs}(h:f ρ S=.ok (.loc n) S)(k:S[n]?=some (.ob C fs))(j:fs.lookup mn=none)(d:fz ρ S=.ok zs v)(i:F (.loc n::(zs++[])) v=x):wc C mn F [] f fz ρ S=x:=by
 unfold wc;rw[h]
 show(match S[n]? with
  |some (.ob p c)=>if p=C/\c.lookup mn=none then(fz ρ S).bind λzs o=>F (.loc n::(zs++[].map Z.d)) o else .bad
  |_=>.bad)=_
 rw[k];show(if C=C/\fs.lookup mn=none then _ else _)=_;rw[aq ⟨rfl,j⟩,d];exact i
def rR(S:iZ)(c c'):(S++[c]).set S.length c'=S++[c']:=by simp
def YC(U:∀v,Sg a v n y H E M P lc l->∀r k,m [.loc n,.d r.d,.d k.d] v=.ok (.d<|qU<|see l r k) v)(g:Sg a S n y H E M P lc l)(hl:y<=S.length)(r:Rd)(A:D):∀(c:mC) (B:aa<|Ask×Rd) (q i:j3),(∀p∈B,see l r p.1=some p.2)->B.length+c.length<=10000->
    (∃k∈c,see l r k=none)/\(∃f:aa<|Ask×Rd,ki (hV 4) (qG a m) (c.map Ask.d) [ba n,iM r.d,iM A,ba S.length,q,i] (S++[.dt<|B.map encP])=.rt (.d .non) (S++[.dt<|f.map encP]))
    \/(∀k∈c,∃s,see l r k=some s)/\∃(f:aa<|Ask×Rd) (x u:j3),(∀p,p∈f↔p∈B\/(p.1∈c/\see l r p.1=some p.2))/\f.length<=B.length+c.length/\ki (hV 4) (qG a m) (c.map Ask.d) [ba n,iM r.d,iM A,ba S.length,q,i] (S++[.dt<|B.map encP])=.nx [ba n,iM r.d,iM A,ba S.length,x,u] (S++[.dt<|f.map encP]):=by
 intro c;induction c with
 |nil=>intro B q i _ _;exact .inr ⟨(λ_ h=>nomatch h),B,q,i,λp=>⟨.inl,λw=>w.elim id<|λw=>nomatch w.1⟩,af _,rfl⟩
 |cons k c Q=>
  intro B q i J R;rw[au]at R;have O:Sg a (S++[.dt<|B.map encP]) n y H E M P lc l:=g.mv λj _ hj=>aw (by walk_at "l")
  have step:qG a m [ba n,iM r.d,iM A,ba S.length,iM k.d,i] (S++[.dt (B.map encP)])=(match see l r k with
   |none=>.rt (.d .non) (S++[.dt<|B.map encP])
   |some s=>.nx [ba n,iM r.d,iM A,ba S.length,iM k.d,iM s.d] (S++[.dt (jL (B.map encP) k.k (.d s.d))])):=by
   unfold qG;rw[jC<|kj (Ex (jM rfl) O.ob (by kernel_rfl) (i3 (iV (d:=r.d) rfl)<|i3 (iV (d:=k.d) rfl) jG)<|U _ O r k)<|ar rfl];cases see l r k with
   |none=>rfl
   |some s=>show iO _ _ [ba n,iM r.d,iM A,ba S.length,iM k.d,iM s.d] _=_;rw[lX<|AD<|jM (z:=.d s.d) rfl];rw[xM (iV (d:=s.d) rfl) (jM rfl) (xU (iV (d:=k.d) rfl)<|CS k) (nF S _)<|by rw[aj];lia,rR]
  show(∃t∈k::c,see l r t=none)/\(∃f,m5 (qG a m [ba n,iM r.d,iM A,ba S.length,iM k.d,i]<|S++[.dt<|B.map encP]) _=_)\/(_/\∃f x u,_/\_/\m5 (qG a m [ba n,iM r.d,iM A,ba S.length,iM k.d,i]<|S++[.dt<|B.map encP]) _=_);cases o:see l r k with
  |none=>rw[o]at step;rw[show qG a m _ _=_ from step];exact .inl ⟨⟨k,.head _,o⟩,B,rfl⟩
  |some s=>
   rw[o]at step;rw[show qG a m _ _=kT.nx _ _ from step];obtain⟨f,e1,Y,e3⟩:=KA J o;rw[e1];have F:∀p∈f,see l r p.1=some p.2:=λp T=>by
    rcases(Y p).mp T with w|w;.exact J p w
    .rw[w];exact o
   rcases Q f (iM k.d) (iM s.d) F (by lia)with⟨⟨t,G,N⟩,I,L⟩|⟨G,I,x,u,N,L,V⟩;.exact .inl ⟨⟨t,.tail _ G,N⟩,I,L⟩
   .refine .inr ⟨λt C=>?_,I,x,u,λp=>?_,by rw[au];lia,V⟩
    .rcases aI.mp C with rfl|C;.exact⟨s,o⟩
     .exact G t C
    .grind
def Tu(f:∀v,Sg a v n y H E M P lc l->∀r k,m [.loc n,.d r.d,.d k.d] v=.ok (.d<|qU<|see l r k) v)(g:Sg a S n y H E M P lc l)(i:y<=S.length)(r)(A)(j:A.length<=10000)(b):
    (∃k∈A,see l r k=none)/\(∃B:aa<|Ask×Rd,jc (yX a m b (jR 6 [.loc n,.d r.d,.d<|.lst<|A.map Ask.d]) S)=.ok (.d .non) (S++[.dt<|B.map encP]))
    \/(∀k∈A,∃s,see l r k=some s)/\∃B:aa (Ask×Rd),Seen l r A B/\jc (yX a m b (jR 6 [.loc n,.d r.d,.d<|.lst<|A.map Ask.d]) S)=.ok (.loc S.length) (S++[.dt<|B.map encP]):=by
 have t:yX a m b (jR 6 [.loc n,.d r.d,.d<|.lst<|A.map Ask.d]) S=iO (λρ S=>ki (hV 4) (qG a m) (A.map Ask.d) ρ S) (jo<|zV 3) [ba n,iM r.d,iX<|A.map Ask.d,ba S.length,none,none] (S++[.dt<|([]:aa<|Ask×Rd).map encP]):=rfl;rw[t];rcases YC f g i r (.lst (A.map Ask.d)) A [] none none (λ_ h=>nomatch h) (by simpa using j)with⟨d,B,c⟩|⟨d,B,x,u,c,q,o⟩;.exact .inl ⟨d,B,by rw[pM c];rfl⟩
 .refine .inr ⟨d,B,⟨λp=>(c p).trans ⟨λw=>w.elim (λw=>nomatch w) id,.inr⟩,by simpa using q⟩,?_⟩;rw[jC o,y_ret<|jM rfl];rfl
variable{a:Ad}
variable{S0:iZ}{ρ mI:jk}{e f g:jd}{z:Z}
theorem IG{u}:∀(L:aa r) (acc:aa Z),(∀p∈L,∀c,e (mI.set 0<|some<|u p) (S0++[.li c])=.ok (h p) (S0++[.li c]))->acc.length+L.length<100000->
 qs qu e mI S0.length (L.map u) (S0++[.li acc])=.ok (.loc S0.length) (S0++[.li<|acc++L.map h])
 |[],acc,_,_=>by rw[dg,dg,aU];rfl
 |p::L,acc,i,k=>by
  rw[au]at k;rw[aD];unfold qs
  show(match e (mI.set 0 (some (u p))) (S0++[.li acc])with
   |.ok z j=>(match j[S0.length]? with
    |some (.li d)=>if d.length<sizeLine then qs qu e mI S0.length (L.map u) (j.set S0.length<|.li<|d++[z])else .bad
    |_=>.bad)
   |_=>.bad)=_
  rw[i p (.head _) acc]
  show(match(S0++[Cell.li acc])[S0.length]? with
   |some (.li d)=>if d.length<sizeLine then qs qu e mI S0.length (L.map u) ((S0++[Cell.li acc]).set S0.length (.li<|d++[h p]))else .bad
   |_=>RX.bad)=_
  rw[nF];show(if acc.length<sizeLine then _ else _)=_;rw[aq<|rT<|by lia,rR,IG L (acc++[h p]) (λq o=>i q<|.tail _ o)<|by rw[ag];simp;lia,aT];rfl
def F6{u}{L:aa x}{pick:yv}(hf:f ρ S=.ok (.loc n) S)(d:S[n]?=some (.dt kvs))(t:S[0]?=some .mk)(r:pick kvs=L.map u)
 (s:∀p∈L,∀c,e ((mM ci ρ).set 0 (some<|u p)) (S.set n (.ft kvs)++[.li c])=.ok (h p) (S.set n (.ft kvs)++[.li c]))(o:L.length<100000):r6 pick f ci qu e ρ S=.ok (.loc S.length) (S++[.li<|L.map h]):=by
  unfold r6;rw[hf]
  show(match S[n]?,(S[0]?:i0 Cell)with
   |some (.dt kvs),some Cell.mk=>Az n kvs (qs qu e (mM ci ρ) S.length (pick kvs)<|S.set n (.ft kvs)++[Cell.li []])
   |_,_=>RX.bad)=_
  rw[d,t];show Az n kvs (qs qu e (mM ci ρ) S.length (pick kvs)<|S.set n (.ft kvs)++[Cell.li []])=_;have k:=kQ d;have j:=IG (S0:=S.set n<|.ft kvs) (mI:=mM ci ρ) (e:=e) (u:=u) (h:=h) L [] s (by simpa using o);rw[aN]at j;rw[r,j];show RX.ok (Z.loc S.length) ((S.set n (.ft kvs)++[Cell.li<|[]++L.map h]).set n (.dt kvs))=_;rw[List.set_append_left _ _<|by rw[aN];exact k,List.set_set,cz];have:S.set n (.dt kvs)=S:=by
   apply List.ext_getElem?;intro i;by_cases q:n=i;.subst q;rw[aB k,d]
   .rw[ao q]
  rw[this]
def aaU{k}(h:f ρ S=.ok (.loc n) S)(c:g ρ S=.ok (.d<|.tup ds) S)(d:lE ds=some k)(i:S[n]?=some (.ft kvs))(hv:valZ kvs k=some z):tj f g ρ S=.ok z S:=by
 unfold tj;rw[h];show((g ρ S).bind _)=_;rw[c]
 show(match lE ds,S[n]? with
  |some k,some (.ft kvs)=>(match valZ kvs k with
   |some z=>RX.ok z S
   |none=>.bad)
  |_,_=>.bad)=_
 rw[d,i]
 show(match valZ kvs k with
  |some z=>RX.ok z S
  |none=>.bad)=_
 rw[hv]
end
def nE(s:Rd):D:=.tup [.int s.t,pr s.p s.q]
theorem G5{d}:∀(c:aa<|aa Key×D) (acc:lR),(∀q∈c,q.1=key->q.2=d)->((∃q∈c,q.1=key)\/valZ acc key=iM d)->valZ (c.foldl (λa p=>jL a p.1<|.d p.2) acc) key=iM d
 |[],acc,_,h=>h.elim (λ⟨_,w,_⟩=>nomatch w) id
 |q::c,acc,f,h=>by
  rw[eA];refine G5 c _ (λq k=>f q<|.tail _ k) ?_;by_cases e:q.1=key;.exact .inr (by rw[vX,aq e,f q (.head _) e])
  .rcases h with⟨j,l,i⟩|h
   .rcases aI.mp l with w|w;.exact absurd (by rw[<-w];exact i) e
    .exact .inl ⟨j,w,i⟩
   .exact .inr (by rw[vX,aA e];exact h)
theorem G4(j):∀(c:aa<|aa Key×D) acc,j9 j (.dt acc)=false->j9 j (.dt<|c.foldl (λa p=>jL a p.1<|.d p.2) acc)=false
 |[],acc,h=>h
 |q::c,acc,h=>by
  rw[eA];refine G4 j c _ ?_;cases w:j9 j (.dt<|jL acc q.1<|.d q.2)with
  |false=>rfl
  |true=>exact(wY<|show((jL acc q.1<|.d q.2).any λp=>mF j p.2)=true from w).elim (λw=>absurd (h.symm.trans w) av) (λw=>nomatch w)
theorem Js:∀B:aa (Ask×Rd),rQ (B.map λp=>.tup [p.1.d,nE p.2])=some (B.map λp=>(p.1.k,nE p.2))
 |[]=>rfl
 |p::B=>by show(rG p.1.d).bind (λc=>(rQ<|B.map λp=>.tup [p.1.d,nE p.2]).map ((c,nE p.2):: ·))=_;rw[CS,Js B];rfl
section
variable{S:iZ}{n:Nat}{m:aa Rd}{r:Rd}{A:mC}{B:aa<|Ask×Rd}
def envOf(m:aa Rd)(r:Rd):Env:=λk=>match see m r k with
 |some s=>(s.t,s.p,s.q)
 |none=>(0,0,1)
def OL{k s}(h:see m r k=some s):D.tup [.int (envOf m r k).1,pr (envOf m r k).2.1 (envOf m r k).2.2]=nE s:=by unfold envOf;rw[h];rfl
def S5(G:Seen m r A B)(O:∀k∈A,∃s,see m r k=some s)(I:S[n]?=some (.dt<|B.map encP))(P:S[0]?=some .mk)(U:B.length<1000)(b):
    ∃S' x,Gr S S'/\jc (BW a b (jR 1 [.loc n]) S)=.ok (.loc<|S.length+1) S'/\Fd S' (S.length+1) A (envOf m r) x:=by
 have i:∀p∈B,see m r p.1=some p.2:=λp o=>((G.mem p).mp o).2
 let L:aa Z:=B.map λp=>Z.d (.tup [p.1.d,nE p.2])
 have C:=kQ I;refine⟨S++[.li L]++[.dt<|foldZ<|B.map λp=>(p.1.k,nE p.2)],_,(Gr.app<|λj=>?_).trans (Gr.app λj=>G4 j _ [] rfl),?_,⟨(by have:=nF (S++[Cell.li L])<|.dt<|foldZ<|B.map λp=>(p.1.k,nE p.2);rw[ag]at this;exact this),λk F=>?_⟩⟩
 .show(B.map λp=>Z.d<|.tup [p.1.d,nE p.2]).any (mF j)=false;rw[iH];exact bX.mpr λ_ _=>nofun
 .unfold BW;show jc (jo _ [ba n] S)=_;have c:=F6 (pick:=pickK) (ci:=[0]) (f:=zV 0) (ρ:=[ba n]) (u:=λp:Ask×Rd=>Z.d p.1.d) (h:=λp=>Z.d (.tup [p.1.d,nE p.2])) (L:=B) (e:=zF jj (iL (zD (dV 0)) (iL (zF jj (iL (z2 jq (tj (zV 1) (zD (dV 0))) (zD (iP 1))) (iL (z2 jq (tj (zV 1) (zD (dV 0))) (zD (iP 2))) iY))) iY))) (jM rfl) I P (by
   unfold pickK;rw[bh];exact dj λp _=>bG Z.d (R9 p.1)) (λp o l=>by
   obtain⟨T,R,t⟩:=Bk p.1
   have J:tj (zV 1) (zD<|dV 0) [iM p.1.d,ba n] (S.set n (.ft<|B.map encP)++[.li l])=.ok (.d p.2.d) (S.set n (.ft<|B.map encP)++[.li l]):=
    aaU (jM rfl) (iV (d:=.tup T)<|by rw[<-R];rfl) t (by rw[aw<|by rw[aN];exact C,aB C]) (KC i o)
   exact lZ [p.1.d,nE p.2] (i3 (iV (d:=p.1.d) rfl) (i3 (lZ [.int p.2.t,pr p.2.p p.2.q] (i3 (lg J (iV (d:=.int 1) rfl) (w:=.int p.2.t) rfl) (i3 (lg J (iV (d:=.int 2) rfl) (w:=pr p.2.p p.2.q) rfl) jG)) rfl) jG)) rfl) (by walk_at "l")
  rw[y_ret (z:=.loc<|S.length+1) (S1:=S++[.li L]++[.dt<|foldZ<|B.map λp=>(p.1.k,nE p.2)])];.rfl
  .unfold Eu;rw[c]
   show(match(S++[Cell.li L])[S.length]? with
    |some (.li M)=>(match(lU M).bind rQ with
     |some v=>RX.ok (Z.loc (S++[Cell.li L]).length) (S++[Cell.li L]++[Cell.dt<|foldZ v])
     |none=>RX.bad)
    |_=>RX.bad)=_
   rw[nF]
   show(match(lU L).bind rQ with
    |some v=>RX.ok (Z.loc (S++[Cell.li L]).length) (S++[Cell.li L]++[Cell.dt<|foldZ v])
    |none=>RX.bad)=_
   have Q:L=(B.map λp=>D.tup [p.1.d,nE p.2]).map Z.d:=by rw[bh];rfl
   rw[show(lU L).bind rQ=some (B.map λp=>(p.1.k,nE p.2))from by rw[Q,qF];exact Js B];show RX.ok (Z.loc (S++[Cell.li L]).length) _=_;rw[ag];rfl
 .obtain⟨s,y⟩:=O k F;rw[OL y];refine G5 _ [] (λq N e=>?_) (.inl ⟨(k.k,nE s),aH.mpr ⟨(k,s),(G.mem (k,s)).mpr ⟨F,y⟩,rfl⟩,rfl⟩);obtain⟨p,o,rfl⟩:=aH.mp N;have:p.1=k:=zv e;have t:=i p o;rw[this,y]at t;show nE p.2=nE s;rw[Option.some.inj t]
variable{a:Ad}
abbrev Kt:=Int×iS
def kq(k:Kt):D:=.tup [.int k.1,.str k.2]
def nY(k:Kt):D:=.tup [.str k.2,.int k.1]
def rJ(k:Kt):aa Key:=[.inl k.1,.inr k.2]
noncomputable def Ie:D->Kt
 |.tup [.int i,.str x]=>(i,x)
 |_=>(0,Str.ofString "")
abbrev _root_.rp:=aa Kt
def ktL(c:rp):aa Kt:=(kJ<|(l5<|c.map rJ).map tD).map Ie
theorem Lf:∀c:aa Kt,vV (c.map kq)=some (c.map rJ)
 |[]=>rfl
 |k::r=>by show(lE [.int k.1,.str k.2]).bind (λx=>(vV<|r.map kq).map (x:: ·))=_;rw[Lf r];rfl
def Ii(ks):(ktL ks).map kq=kJ ((l5<|ks.map rJ).map tD):=by
 unfold ktL;rw[bh];have:∀d∈kJ ((l5 (ks.map rJ)).map tD),(kq∘Ie) d=d:=λd f=>by obtain⟨k,c,rfl⟩:=aH.mp ((nh _).mem_iff.mp f);obtain⟨j,_,rfl⟩:=aH.mp ((qg k _).mp c);rfl
 exact(dj this).trans (List.map_id' _)
def Sv(d:rp)(k:Kt):k∈ktL d↔k∈d:=by
 have inj:∀x y:Kt,kq x=kq y->x=y:=λx y h=>by injection h with h;injection h with c h2;injection c with c;injection h2 with h2 _;injection h2 with h2;exact Prod.ext c h2
 have c:k∈ktL d↔kq k∈(ktL d).map kq:=⟨λh=>aH.mpr ⟨k,h,rfl⟩,λh=>by obtain⟨j,f,e⟩:=aH.mp h;rw[<-inj j k e];exact f⟩;rw[c,Ii,(nh _).mem_iff];constructor
 .intro h;obtain⟨x,i,e⟩:=aH.mp h;obtain⟨j,f,rfl⟩:=aH.mp ((qg x _).mp i);rw[<-inj j k e];exact f
 .intro h;exact aH.mpr ⟨rJ k,(qg _ _).mpr (aH.mpr ⟨k,h,rfl⟩),rfl⟩
def Ig(h:∀k,k∈ks↔k∈js):ktL ks=ktL js:=by
 have o:(l5<|ks.map rJ).Perm (l5<|js.map rJ):=zS (xn _) (xn _) λx=>by rw[qg,qg,aH,aH];simp_all
 have c:∀(l:rp),∀d∈(l5 (l.map rJ)).map tD,kf d=some [2,0,1]:=λl d f=>by obtain⟨x,i,rfl⟩:=aH.mp f;obtain⟨j,_,rfl⟩:=aH.mp ((qg x _).mp i);rfl
 unfold ktL;rw[DZ ((nh _).trans ((o.map tD).trans (nh _).symm)) (λd f=>c ks d<|(nh _).mem_iff.mp f) (uF<|c ks)<|uF<|c js]
def Ih(ks):(ktL ks).length<=ks.length:=by
 have e:(ktL ks).length=(l5<|ks.map rJ).length:=by unfold ktL;rw[aj,(nh _).length_eq,aj]
 have d:∀l:aa (aa Key),(l5 l).length<=l.length:=by
  intro l;induction l with
  |nil=>exact af _
  |cons x r c=>
   unfold l5
   grind
 grind
def KR(c:rp)(h:c.length<64):pF (.lst<|c.map kq)=.ok ((ktL c).map kq):=by unfold pF;dsimp only;rw[Lf];show(if nG (c.map kq)=true/\(c.map kq).length<64 then _ else _)=_;rw[aq ⟨CC (sg:=[2,0,1]) (λ_=>rfl) c,by rw[aj];exact h⟩,Ii]
def jN(s:Rd):Kt:=(s.t,s.m)
def m_keys(j:S[n]?=some (.dt<|B.map encP))(t:S[0]?=some .mk)(s:kS S)(q:B.length<64)(b):
    ∃S',Gr S S'/\jc (BZ a b (jR 2 [.loc n]) S)=.ok (.d<|.lst<|(ktL<|B.map λp=>jN p.2).map nY) S':=by
 have y:=kQ j;refine⟨S++[.no],Gr.app λ_=>rfl,?_⟩;unfold BZ;show jc (iO (i4 1 _) _ [ba n,none] S)=_;have c:=F6 (pick:=uy) (ci:=[]) (f:=zV 0) (ρ:=[ba n,none]) (u:=λp:Ask×Rd=>Z.d p.2.d) (h:=λp=>Z.d<|kq<|jN p.2) (L:=B) (e:=zD<|dA jj<|iK (iN 0 1)<|iK (iN 0 0) iQ) (jM rfl) j t (by unfold uy;rw[bh];rfl) (λp _ k=>iV rfl) (by walk_at "l");have w:(B.map λp=>Z.d<|kq<|jN p.2)=((B.map λp=>jN p.2).map kq).map Z.d:=by rw[bh,bh];rfl
 rw[w]at c;have v:pN (r6 uy (zV 0) [] qu<|zD<|dA jj<|iK (iN 0 1)<|iK (iN 0 0) iQ) [ba n,none] S=.ok (.d<|.lst<|(B.map λp=>jN p.2).map kq) (S++[.no]):=by
  unfold pN;rw[c]
  show(match(S++[Cell.li (((B.map λp:Ask×Rd=>jN p.2).map kq).map Z.d)])[S.length]? with
   |some (.li l)=>(match lU l with
    |some i=>if S.length<=S.length/\(S++[Cell.li<|((B.map λp:Ask×Rd=>jN p.2).map kq).map Z.d]).any (j9 S.length)=false/\[some<|Z.loc n,none].any (pE S.length)=false then RX.ok (Z.d<|.lst i) ((S++[Cell.li<|((B.map λp:Ask×Rd=>jN p.2).map kq).map Z.d]).set S.length .no)else .bad
    |none=>.bad)
   |_=>.bad)=_
  rw[nF]
  show(match lU (((B.map λp=>jN p.2).map kq).map Z.d)with
   |some i=>if S.length<=S.length/\(S++[Cell.li<|((B.map λp:Ask×Rd=>jN p.2).map kq).map Z.d]).any (j9 S.length)=false/\[some<|Z.loc n,none].any (pE S.length)=false then RX.ok (Z.d<|.lst i) ((S++[Cell.li<|((B.map λp:Ask×Rd=>jN p.2).map kq).map Z.d]).set S.length .no)else RX.bad
   |none=>RX.bad)=_
  rw[qF];show(if _ then _ else _)=_;rw[aq ⟨af _,oH (s _<|af _)<|lu _ _,by show(decide (n=S.length)||(false||false))=false;rw[aG<|by walk_at "l"];rfl⟩,rR]
 have o:Ay (pN<|r6 uy (zV 0) [] qu<|zD<|dA jj<|iK (iN 0 1)<|iK (iN 0 0) iQ) [ba n,none] S=.ok (.d<|.lst<|(ktL<|B.map λp=>jN p.2).map kq) (S++[.no]):=by
  unfold Ay;rw[v]
  show(match pF (.lst ((B.map λp=>jN p.2).map kq))with
   |.ok i=>RX.ok (Z.d<|.lst i) (S++[Cell.no])
   |_=>.bad)=_
  rw[KR _<|by rw[aj];exact q]
 rw[jC<|kj o<|ar rfl];rw[y_ret<|iV (d:=.lst<|(ktL<|B.map λp=>jN p.2).map nY)<|rr<|wO (f:=kq) (g:=nY) (L:=ktL<|B.map λp=>jN p.2) rfl (by have:=Ih<|B.map λp=>jN p.2;rw[aj]at this;lia) λx _=>rfl];rfl
end
variable{a:Ad}
structure jv(n:Nat)(T T':iZ):Prop where
 len:T.length<=T'.length
 pre:∀j,j<n->T'[j]?=T[j]?
 sf:∀j,j<n->nI T j->nI T' j
 bnd:kS T->kS T'
def jv.refl(n T):jv n T T:=⟨af _,λ_ _=>rfl,λ_ _ h=>h,λh=>h⟩
def jv.trans{n}(x:jv n T T1)(y:jv n T1 T2):jv n T T2:=⟨aW x.len y.len,λj h=>(y.pre j h).trans (x.pre j h),λj h s=>y.sf j h<|x.sf j h s,λb=>y.bnd<|x.bnd b⟩
def jv.app{n}{T:iZ}(i:n<=T.length)(f:∀j,(j<n\/T.length<j)->j9 j c=false):jv n T (T++[c]):=⟨by rw[ag];exact cK ..,λj h=>aw<|by walk_at "l",λj h s=>oH s<|f j<|.inl h,λb j d=>by rw[ag]at d;exact oH (b j<|by walk_at "l") (f j<|.inr<|by simp at d;walk_at "l")⟩
def jv.set{n}{T:iZ}(k:n<=i)(f:∀j,(j<n\/T.length<=j)->j9 j c=false):jv n T (T.set i c):=⟨by rw[aN];exact af _,λj h=>ao<|by lia,λj h s=>mu s<|f j<|.inl h,λb j d=>by rw[aN]at d;exact mu (b j d) (f j<|.inr d)⟩
section
variable{T:iZ}{n H F q E C I:Nat}{M:om}{P:lR}{lc:rl}{B:aa Rd}{ρ:jk}{f fk:jd}
def aaX{d k}(hf:f ρ T=.ok (.loc n) T)(o:T[n]?=some (.dk M))(l:fk ρ T=.ok (.d d) T)(i:ml d=some k)(j:M.length<100000):tp f fk (kY (λρ=>(iQ ρ).bind ju)) ρ T=(match valZ M k with
    |some z=>RX.ok z (T++[Cell.li []])
    |none=>RX.ok (Z.loc T.length) ((T++[Cell.li []]).set n (.dk (jL M k (.loc T.length))))):=by
 have m:(T++[Cell.li []])[n]?=some (.dk M):=by grind
 unfold tp;rw[hf]
 show(match T[n]? with
  |some (.dk _)=>(fk ρ T).bind λy p=>(kY (λρ=>(iQ ρ).bind ju) ρ p).bind λx h=>(match y,h[n]? with
   |.d d,some (.dk c)=>(match ml d with
    |some k=>if c.length<sizeLine then(match valZ c k with
     |some z=>RX.ok z h
     |none=>RX.ok x (h.set n (.dk (jL c k x))))else RX.bad
    |none=>RX.bad)
   |_,_=>RX.bad)
  |_=>RX.bad)=_
 rw[o];rw[l]
 show(match Z.d d,(T++[Cell.li []])[n]? with
  |.d d,some (.dk c)=>(match ml d with
   |some k=>if c.length<sizeLine then(match valZ c k with
    |some z=>RX.ok z (T++[Cell.li []])
    |none=>RX.ok (.loc T.length) ((T++[Cell.li []]).set n (.dk (jL c k (.loc T.length)))))else RX.bad
   |none=>RX.bad)
  |_,_=>RX.bad)=_
 rw[m]
 show(match ml d with
      |some k=>if M.length<sizeLine then(match valZ M k with
       |some z=>RX.ok z (T++[Cell.li []])
       |none=>RX.ok (.loc T.length) ((T++[Cell.li []]).set n (.dk (jL M k (.loc T.length)))))else RX.bad
      |none=>RX.bad)=_
 rw[i];exact aq (rT j)
def Lg.wide{pv}(g:Lg pv T n q E C M P lc B)(h:q<=I):Lg pv T n I E C M P lc B:=
 {g with
  b2:=aE g.b2 h
  b4:=aE g.b4 h
  li:=λm q e=>let⟨d,c,i⟩:=g.li m q e;⟨d,aE c h,i⟩
  hm:=λj e=>let⟨d,c⟩:=g.hm j e;⟨d,aE c h⟩}
def IA{pv}(g:Lg pv T n T.length E C M P lc B)(r:Rd)(Y:M.length<=10000)(hf:f ρ T=.ok (.loc E) T)(N:fk ρ T=.ok (.d<|.str r.m) T):∃u M1 h q,tp f fk (kY<|λρ=>(iQ ρ).bind ju) ρ T=.ok (.loc q) u
    /\Lg pv u n u.length E C M1 P h B/\h r.m=some q/\M1.length<=M.length+1/\jv n T u:=by
 have b1:=g.b1;have b2:=g.b2;have V:=g.b3;have b4:=g.b4;have z:=aaX (d:=.str r.m) (k:=.inr r.m) hf g.mc N rfl (by omega);rw[g.vm]at z;have la:jv n T (T++[.li []]):=jv.app (by omega) λ_ _=>rfl;have U:Lg pv (T++[.li []]) n T.length E C M P lc B:=g.mv λj _ l=>aw l;cases s:lc r.m with
 |some q=>rw[s]at z;exact⟨_,M,lc,q,z,U.wide la.len,s,cN _,la⟩
 |none=>
  rw[s]at z;have x:(T++[Cell.li []]).length=T.length+1:=by rw[ag];rfl
  have i:∀j,j9 j (.dk<|jL M (.inr r.m)<|.loc T.length)=true->n<=j/\j<T.length+1:=λj e=>by
   rcases wY (show((jL M (.inr r.m) (.loc T.length)).any λp=>mF j p.2)=true from e)with w|w;.obtain⟨y,R⟩:=g.hm j w;exact⟨y,by omega⟩
   .have:T.length=j:=cQ w;omega
  refine⟨_,jL M (.inr r.m)<|.loc T.length,λm=>if m=r.m then some T.length else lc m,T.length,z,?_,aq rfl,xg,la.trans<|jv.set b1 λj l=>?_⟩
  .have L:((T++[Cell.li []]).set E (.dk<|jL M (.inr r.m)<|.loc T.length)).length=T.length+1:=by rw[aN,x]
   have keep:∀j c,j≠E->T[j]?=some c->((T++[Cell.li []]).set E (.dk<|jL M (.inr r.m)<|.loc T.length))[j]?=some c:=λj c l e=>by rw[ao<|bK l,aw<|kQ e];exact e
   rw[L];refine⟨b1,by omega,V,by omega,g.b5,aB<|by rw[x];omega,keep C _ (bK g.b5) g.pc,g.vp,λm=>?_,λm e=>?_,λm q e=>?_,λm A q t o=>?_,i,g.hp⟩
   .rw[vX,g.vm];by_cases w:m=r.m;.subst w;rw[aq rfl,aq rfl];rfl
    .rw[aA w,aA λv=>w (Sum.inr.inj v).symm]
   .split at e;.cases e
    .exact g.no m e
   .split at e
    .rename_i w;cases e;refine⟨by omega,by simp,by omega,by omega,?_⟩;rw[ao<|by omega,nF,w,g.no _ s];rfl
    .obtain⟨y,R,D,Q,O⟩:=g.li m q e;exact⟨y,by omega,D,Q,keep q _ D O⟩
   .split at t
    .rename_i J;split at o;.rename_i G;rw[J,G]
     .cases t;have:=(g.li A _ o).2.1;simp_all
    .split at o
     .cases o;have:=(g.li m _ t).2.1;simp_all
     .exact g.ij m A q t o
  .rw[x]at l;cases w:j9 j (.dk<|jL M (.inr r.m)<|.loc T.length)with
   |false=>rfl
   |true=>have:=i j w;omega
def IC{pv z6:iS->Int->i0 Z}(g:Lg pv T n T.length E C M P lc B)(r:Rd)(i:lc r.m=some q)(z:D)(hv:∀m t,z6 m t=if r.m=m/\r.t=t then iM z else pv m t):
    Lg z6 ((T.set C<|.dt<|jL P (pk r.m r.t)<|.d z).set q (.li<|((own B r.m).map λr=>Z.d r.d)++[.d r.d])) n ((T.set C<|.dt<|jL P (pk r.m r.t)<|.d z).set q (.li<|((own B r.m).map λr=>Z.d r.d)++[.d r.d])).length E C M (jL P (pk r.m r.t)<|.d z) lc (B++[r])/\jv n T ((T.set C<|.dt<|jL P (pk r.m r.t)<|.d z).set q (.li<|((own B r.m).map λr=>Z.d r.d)++[.d r.d])):=by
 obtain⟨G,A,y,x,R⟩:=g.li _ _ i
 let l:Cell:=.dt (jL P (pk r.m r.t)<|.d z)
 let k:Cell:=.li (((own B r.m).map λr=>Z.d r.d)++[.d r.d])
 have d:∀j,j9 j l=false:=λj=>by
  cases w:j9 j l with
  |false=>rfl
  |true=>exact(wY<|show((jL P (pk r.m r.t)<|.d z).any λp=>mF j p.2)=true from w).elim (λw=>absurd ((g.hp j).symm.trans w) av) (λw=>nomatch w)
 have o:∀j,j9 j k=false:=λj=>by
  have:k=.li (((own B r.m++[r]).map Rd.d).map Z.d):=by show Cell.li _=_;rw[bh,bj];rfl
  rw[this];exact lu _ _
 refine⟨?_,(jv.set g.b3 λj _=>d j).trans (jv.set G λj _=>o j)⟩;have L:((T.set C l).set q k).length=T.length:=by rw[aN,aN]
 have keep:∀j c,j≠C->j≠q->T[j]?=some c->((T.set C l).set q k)[j]?=some c:=λj c u s e=>by rw[ao<|bK s,ao<|bK u];exact e
 rw[L];refine⟨g.b1,g.b2,g.b3,g.b4,g.b5,keep E _ g.b5 (bK y) g.mc,?_,λm t=>?_,g.vm,λm e=>?_,λm h e=>?_,g.ij,g.hm,d⟩;.rw[ao x,aB g.b4]
 .rw[vX,hv,g.vp]
  grind
 .have ne:r.m≠m:=λw=>by rw[<-w,i]at e;cases e
  rw[vJ,g.no m e,aA ne];rfl
 .by_cases w:h=q
  .have Q:m=r.m:=g.ij m r.m h e (by rw[w];exact i);rw[w,Q];refine⟨G,A,y,x,?_⟩;rw[aB<|by rw[aN];exact A,vJ,aq rfl,bj];rfl
  .obtain⟨u,s,O,J,N⟩:=g.li m h e;have ne:r.m≠m:=λv=>w (by rw[<-v,i]at e;exact(Option.some.inj e).symm);refine⟨u,s,O,J,?_⟩;rw[vJ,aA ne,aU];exact keep h _ J w N
def jv.le{m}(h:jv n T T1)(d:m<=n):jv m T T1:=⟨h.len,λj c=>h.pre j<|aE c d,λj c=>h.sf j<|aE c d,h.bnd⟩
def Rr(g:Sg a T n T.length H F M P lc B)(r:Rd)(j:M.length<=10000)(A s3):∃d M1 c q,tp (qr a.Sight (zV 0) "masts") (zD<|iN 2 0) (kY<|λρ=>(iQ ρ).bind ju) [ba n,A,iM r.d,s3] T=.ok (.loc q) d
    /\Sg a d n d.length H F M1 P c B/\c r.m=some q/\M1.length<=M.length+1/\jv n T d:=by
 obtain⟨d,M1,c,q,e,k,h,i,l⟩:=IA g.toLg r j (f:=qr a.Sight (zV 0) "masts") (fk:=zD (iN 2 0)) (ρ:=[ba n,A,iM r.d,s3]) (AB (jM rfl) g.ob rfl) (iV rfl);exact⟨d,M1,c,q,e,⟨k,(l.pre n<|bB _).trans g.ob⟩,h,i,l.le<|cN _⟩
def Rt(g:Sg a T n T.length H F M P lc B)(r:Rd)(k:lc r.m=some q)(z:P.length<=10000)(y:B.length<=10000)(A):
    ∃c l,(iO (rZ (qr a.Sight (zV 0) "places") (uH<|iL (zD<|iN 2 0)<|iL (zD<|iN 2 1) iY)<|zR<|dA l7<|iK (dV 3) iQ)<|nj 3<|zD<|dV 2) [ba n,A,iM r.d,ba q] T=.nx [ba n,A,iM r.d,ba q] c
     /\Sg a c n c.length H F M l lc (B++[r])/\l.length<=P.length+1/\jv n T c:=by
 obtain⟨x,v,u,o,h⟩:=g.li _ _ k;have d:T[q]?=some (.li<|((own B r.m).map Rd.d).map Z.d):=by rw[bh];exact h
 have p:zR (dA l7<|iK (dV 3) iQ) [ba n,A,iM r.d,ba q] T=.ok (.d<|.int (own B r.m).length) T:=by refine si ?_ rfl;show(dA l7<|iK (dV 3) iQ) [mw T<|ba n,mw T A,.sh r.d,mw T<|ba q]=_;rw[rY d];show R.ok (D.int ((own B r.m).map Rd.d).length)=_;rw[aj]
 obtain⟨s,j⟩:=IC g.toLg r k (.int (own B r.m).length) (z6:=λm t=>(place (B++[r]) m t).map λ(i:Nat)=>Z.d (.int i)) λm t=>by
  show Option.map _ (place (B++[r]) m t)=_;rw[JP];split;.rename_i w;rw[w.1];rfl
  .rfl
 refine⟨_,_,?_,⟨s,(j.pre n<|bB _).trans g.ob⟩,xg,j.le<|cN _⟩;rw[jC<|xM p (AB (jM rfl) g.ob rfl) (Ew (ds:=[.str r.m,.int r.t]) (i3 (iV rfl)<|i3 (iV rfl) jG) rfl (by decide:2<1000)) g.pc<|by walk_at "l"];have e:(T.set F<|.dt<|jL P (pk r.m r.t)<|.d<|.int (own B r.m).length)[q]?=some (.li<|(own B r.m).map λr=>Z.d r.d):=by rw[ao<|bK o];exact h
 exact sZ rfl e (iV rfl) e (by rw[aj];exact b7 (fF ..) (by walk_at "l"))
theorem HB(N A):∀(rest B:aa Rd) T M P lc s2 s3,Sg a T N T.length H F M P lc B->M.length<=B.length->P.length<=B.length->B.length+rest.length<=10000->
 ∃d M1 Q c i h,ki (hV 2) (tR a) (rest.map Rd.d) [ba N,A,s2,s3] T=.nx [ba N,A,i,h] d/\Sg a d N d.length H F M1 Q c (B++rest)/\jv N T d
 |[],B,T,M,P,lc,s2,s3,g,_,_,_=>⟨T,M,P,lc,s2,s3,rfl,by rw[aU];exact g,.refl _ _⟩
 |r::rest,B,T,M,P,lc,s2,s3,g,V,U,t=>by
  rw[au]at t;obtain⟨d,M1,c,q,G,y,u,w,s⟩:=Rr g r (by lia) A s3;obtain⟨m,O,D,x,v,p⟩:=Rt y r u (by lia) (by walk_at "l") A;have k:(B++[r]).length=B.length+1:=by rw[ag];rfl
  obtain⟨J,R,L,j,i,h,z,l,o⟩:=HB N A rest (B++[r]) m M1 O c (iM r.d) (ba q) x (by rw[k];lia) (by rw[k];lia) (by rw[k];lia);refine⟨J,R,L,j,i,h,?_,by rw[aT]at l;exact l,(s.trans p).trans o⟩;have st:tR a [ba N,A,iM r.d,s3] T=.nx [ba N,A,iM r.d,ba q] m:=by unfold tR;rw[jC<|kj G<|ar rfl];exact D
  show m5 (tR a [ba N,A,iM r.d,s3] T) (ki (hV 2) (tR a)<|rest.map Rd.d)=_;rw[st];exact z
end
def Ta(S:iZ)(d:aa Rd)(u:d.length<=10000)(b):∃S',jc (BR a b (jR 4 [.loc S.length,.d<|.lst<|d.map Rd.d])<|S++[.ob a.Sight []])=.ok (.d .non) S'/\(∃q p M P lc,Sg a S' S.length S'.length q p M P lc d)/\Gr S S':=by
 let f:Cell:=.ob a.Sight [("masts",.loc<|S.length+1),("places",.loc<|S.length+2)]
 have y:Sg a (S++[f,.dk [],.dt []]) S.length (S++[f,.dk [],.dt []]).length (S.length+1) (S.length+2) [] [] (λ_=>none) []:=by
  have at_:∀(i:Nat) (c:Cell),[f,Cell.dk [],Cell.dt []][i]?=some c->(S++[f,.dk [],.dt []])[S.length+i]?=some c:=λi c h=>by rw[aK<|by simp,Nat.add_sub_cancel_left];exact h
  have v:(S++[f,Cell.dk [],Cell.dt []]).length=S.length+3:=by rw[ag];rfl
  rw[v];exact⟨⟨by simp,by simp,by simp,by simp,by simp,at_ 1 _ rfl,at_ 2 _ rfl,λ_ _=>rfl,λ_=>rfl,λ_ _=>rfl,(λ_ _ e=>by cases e),(λ_ _ _ e=>by cases e),(λ_ e=>by cases e),λ_=>rfl⟩,at_ 0 _ rfl⟩
 obtain⟨D,M1,F,m,I,G,C,x,r⟩:=HB (a:=a) S.length (iX (d.map Rd.d)) d [] _ [] [] (λ_=>none) none none y (af _) (af _) (by simpa using u);have t:jv S.length S (S++[f,.dk [],.dt []]):=by
  have o:∀j,(j<S.length\/S.length+2<j)->j9 j f=false:=λj n=>by show(decide (S.length+1=j)||(decide (S.length+2=j)||false))=false;rw[aG<|by lia,aG<|by lia];rfl
  refine⟨by rw[ag];exact cK ..,λj h=>aw h,λj h s=>?_,λb j n=>?_⟩
  .show(S++[f,.dk [],.dt []]).any (j9 j)=false;rw[List.any_append,s];show(false||(j9 j f||(false||(false||false))))=false;rw[o j<|.inl h];rfl
  .rw[ag]at n;have w:S.length+3<=j:=n;show(S++[f,.dk [],.dt []]).any (j9 j)=false;rw[List.any_append,show S.any (j9 j)=false from b j (by walk_at "l")];show(false||(j9 j f||(false||(false||false))))=false;rw[o j<|.inr<|by walk_at "l"];rfl
 have l:=t.trans r;refine⟨D,?_,⟨_,_,M1,F,m,by simpa using x⟩,⟨l.len,l.pre,l.sf,l.bnd⟩⟩;unfold BR;show jc (iO _ _ [ba S.length,iX<|d.map Rd.d,none,none]<|S++[.ob a.Sight []])=_;have A:xK a.Sight (zV 0) "masts" uI [ba S.length,iX<|d.map Rd.d,none,none] (S++[.ob a.Sight []])=.nx [ba S.length,iX<|d.map Rd.d,none,none] (S++[.ob a.Sight [("masts",.loc<|S.length+1)],.dk []]):=by
  show(match(S++[Cell.ob a.Sight []]++[Cell.dk []])[S.length]? with
   |some (.ob k fs)=>if k=a.Sight/\fs.length<1000 then kT.nx [ba S.length,iX<|d.map Rd.d,none,none] ((S++[Cell.ob a.Sight []]++[Cell.dk []]).set S.length (.ob k<|uA "masts" (.loc (S++[Cell.ob a.Sight []]).length) fs))else .bad
   |_=>.bad)=_
  rw[aT,aK<|af _,eQ];show(if a.Sight=a.Sight/\0<1000 then _ else _)=_;rw[aq ⟨rfl,by decide⟩,fG _ _<|af _,eQ,ag];rfl
 have z:xK a.Sight (zV 0) "places" qY [ba S.length,iX<|d.map Rd.d,none,none] (S++[.ob a.Sight [("masts",.loc<|S.length+1)],.dk []])=.nx [ba S.length,iX<|d.map Rd.d,none,none] (S++[f,.dk [],.dt []]):=by
  show(match(S++[Cell.ob a.Sight [("masts",.loc (S.length+1))],.dk []]++[Cell.dt []])[S.length]? with
   |some (.ob k fs)=>if k=a.Sight/\fs.length<1000 then kT.nx [ba S.length,iX<|d.map Rd.d,none,none] ((S++[Cell.ob a.Sight [("masts",.loc<|S.length+1)],.dk []]++[Cell.dt []]).set S.length (.ob k<|uA "places" (.loc (S++[Cell.ob a.Sight [("masts",.loc<|S.length+1)],.dk []]).length) fs))else .bad
   |_=>.bad)=_
  rw[aT,aK<|af _,eQ];show(if a.Sight=a.Sight/\1<1000 then _ else _)=_;rw[aq ⟨rfl,by decide⟩,fG _ _<|af _,eQ,ag];kernel_rfl
 rw[jC A,jC z];show jc (ki (hV 2) (tR a) (d.map Rd.d) [ba S.length,iX<|d.map Rd.d,none,none]<|S++[f,.dk [],.dt []])=_;rw[C];rfl
variable{a:Ad}
structure nB(r:Rd):Prop where
 t:Sz 61 r.t
 low:FM.qA r.p r.q
 p:Sz 62 r.p
 q:Sz 62 r.q
def nB.n(h:nB r):r.q≠0:=by have:=h.low.pos;lia
def Pe{p q:Int}(L:FM.qA p q):fr p q=pr p q:=by have:=FM.scaled L (show(1:Int)≠0 by decide);simp_all
def GN(h:∀r∈row,nB r)(r):pP (envOf row r):=by
 have c:∀x,Sz 61 (envOf row r x).1/\Sz 62 (envOf row r x).2.1/\Sz 62 (envOf row r x).2.2/\(envOf row r x).2.2≠0:=λx=>by
  unfold envOf;cases q:see row r x with
  |none=>exact⟨(by unfold Sz;decide:Sz 61 0),(by unfold Sz;decide:Sz 62 0),uw,by decide⟩
  |some s=>have k:=h s (D5 q);exact⟨k.t,k.p,k.q,k.n⟩
 exact⟨λx=>(c x).1,λx=>(c x).2.1,λx=>(c x).2.2.1,λx=>(c x).2.2.2⟩
abbrev uU:=iS×T7
def jB(r:uU):D:=.tup [.str r.1,r.2.d]
def hit(c:aa Rd)(A:mC)(t:T7)(r:Rd):i6:=(A.all λk=>(see c r k).isSome)&&hv (envOf c r) t
noncomputable def ke(c:aa Rd)(A:mC)(d:iS)(r:Rd):D:=.tup [.str r.m,.int r.t,.str d,.lst<|(ktL<|(A.filterMap<|see c r).map jN).map nY]
structure tG(A:mC)(t:T7):Prop where
 w:Cw t
 dep:t.dep<8
 here:Ask.here∈A
 asks:∀x∈t.asks,x∈A
 len:A.length<64
structure Jd(a:Ad)(Ff Fa:jg)(Zi Zs Zf Zh Zk:jh):Prop where
 f:HF Ff
 i:∀(S:iZ) (row:aa Rd),row.length<=10000->∃S',Zi [.loc S.length,.d<|.lst<|row.map Rd.d] (S++[.ob a.Sight []])=.ok (.d .non) S'/\(∃nm np M P lc,Sg a S' S.length S'.length nm np M P lc row)/\Gr S S'
 s:∀{S:iZ} {n hi nm np:Nat} {M:om} {P:lR} {lc:rl} {row:aa Rd},Sg a S n hi nm np M P lc row->hi<=S.length->∀(r:Rd) (A:mC),A.length<=10000->
  (∃k∈A,see row r k=none)/\(∃B:aa<|Ask×Rd,Zs [.loc n,.d r.d,.d<|.lst<|A.map Ask.d] S=.ok (.d .non) (S++[.dt<|B.map encP]))
  \/(∀k∈A,∃s,see row r k=some s)/\∃B:aa (Ask×Rd),Seen row r A B/\Zs [.loc n,.d r.d,.d<|.lst<|A.map Ask.d] S=.ok (.loc S.length) (S++[.dt<|B.map encP])
 o:∀{S:iZ} {n:Nat} {row:aa Rd} {r:Rd} {A:mC} {B:aa<|Ask×Rd},Seen row r A B->(∀k∈A,∃s,see row r k=some s)->S[n]?=some (.dt<|B.map encP)->S[0]?=some .mk->B.length<1000->
  ∃S' kvs,Gr S S'/\Zf [.loc n] S=.ok (.loc<|S.length+1) S'/\Fd S' (S.length+1) A (envOf row r) kvs
 h:∀{S:iZ} {n:Nat} {A:mC} {e:Env} {kvs:lR} {t:T7},Fd S n A e kvs->pP e->tG A t->Zh [.d t.d,.loc n] S=.ok (.d<|.bl<|hv e t) S
 k:∀{S:iZ} {n:Nat} {B:aa<|Ask×Rd},S[n]?=some (.dt<|B.map encP)->S[0]?=some .mk->kS S->B.length<64->∃S',Gr S S'/\Zk [.loc n] S=.ok (.d<|.lst<|(ktL<|B.map λp=>jN p.2).map nY) S'
structure In(a:Ad)(S:iZ)(nt ns nl:Nat)(row:aa Rd)(told left:jD):Prop where
 m0:S[0]?=some .mk
 bnd:kS S
 tt:S[nt]?=some (.li<|told.map .d)
 st:nI S nt
 ll:S[nl]?=some (.li<|left.map .d)
 sl:nI S nl
 sg:∃hi nm np M P lc,hi<=nl/\Sg a S ns hi nm np M P lc row
 o0:0<nt
 o1:nt<ns
 o2:ns<nl
section
variable{S E:iZ}{q v y b:Nat}{f:aa Rd}{m left:jD}
def In.gr(h:In a S q v y f m left)(g:Gr S E):In a E q v y f m left:=
 ⟨g.get h.m0,g.bnd h.bnd,g.get h.tt,g.sf _ (kQ h.tt) h.st,g.get h.ll,g.sf _ (kQ h.ll) h.sl,let⟨i,d,c,M,P,lc,l,k⟩:=h.sg;⟨i,d,c,M,P,lc,l,k.mv λj _ n=>g.pre j (by have:=kQ h.ll;lia)⟩,h.o0,h.o1,h.o2⟩
def In.tld(h:In a S q v y f m left)(d):In a (S.set q<|.li<|(m++[d]).map .d) q v y f (m++[d]) left:=by have l:=h.o0;have k:=h.o1;have i:=h.o2;exact⟨by rw[ao<|by walk_at "l"];exact h.m0,λj c=>mu (h.bnd j<|by rw[aN]at c;exact c)<|lu _ _,aB<|kQ h.tt,mu h.st<|lu _ _,by rw[ao<|by lia];exact h.ll,mu h.sl<|lu _ _,let⟨p,o,n,M,P,lc,s,r⟩:=h.sg;⟨p,o,n,M,P,lc,s,r.mv λj c _=>ao<|by lia⟩,l,k,i⟩
def In.Iz(h:In a S q v y f m left)(d):In a (S.set y<|.li<|(left++[d]).map .d) q v y f m (left++[d]):=by have l:=h.o0;have k:=h.o1;have i:=h.o2;exact⟨by rw[ao<|by lia];exact h.m0,λj c=>mu (h.bnd j<|by rw[aN]at c;exact c)<|lu _ _,by rw[ao<|by lia];exact h.tt,mu h.st<|lu _ _,aB<|kQ h.ll,mu h.sl<|lu _ _,let⟨p,o,n,M,P,lc,s,r⟩:=h.sg;⟨p,o,n,M,P,lc,s,r.mv λj _ c=>ao<|by lia⟩,l,k,i⟩
def Gr.lw(g:Gr S E)(c:b<=S.length):jv b S E:=⟨g.len,λj h=>g.pre j<|by walk_at "l",λj h=>g.sf j<|by walk_at "l",g.bnd⟩
def jv.vR{L:jD}(h:b<=i):jv b S (S.set i<|.li<|L.map .d):=jv.set h λj _=>lu _ _
variable{U N:jg}{T O K I H:jh}
def Su(h:Seen f r A B):ktL (B.map λp=>jN p.2)=ktL ((A.filterMap<|see f r).map jN):=Ig λk=>by
 rw[aH,aH];constructor
 .rintro ⟨p,j,rfl⟩
  obtain⟨d,c⟩:=(h.mem p).mp j;exact⟨p.2,aZ.mpr ⟨p.1,d,c⟩,rfl⟩
 .rintro ⟨s,i,rfl⟩
  obtain⟨k,d,c⟩:=aZ.mp i;exact⟨(k,s),(h.mem (k,s)).mpr ⟨d,c⟩,rfl⟩
def RY(J:Jd a U N T O K I H){t}(L:tG A t)(C:∀r∈f,nB r)(h:In a S q v y f m left)(hb:b<=q)(hz:m.length<50000/\left.length<50000)(r:Rd)(R0 R1 R3 s9):
    ∃E t9,pU a U N T O K I H [R0,R1,ba q,R3,iM<|jB (nm,t),ba v,iX<|A.map Ask.d,ba y,iM r.d,s9] S
     =.nx [R0,R1,ba q,R3,iM<|jB (nm,t),ba v,iX<|A.map Ask.d,ba y,iM r.d,t9] E
     /\In a E q v y f (if hit f A t r=true then m++[ke f A nm r]else m) (if hit f A t r=true then left else left++[r.d])/\jv b S E:=by
 obtain⟨hi,nm',np,M,P,lc,h1,g⟩:=h.sg;have Y:=kQ h.ll;have o1:=h.o1;have o2:=h.o2;unfold pU;rcases J.s g (by lia) r A (by have:=L.len;lia)with⟨⟨k,k1,k2⟩,B,e⟩|⟨i,B,R,e⟩
 ·-- not all is there
  have l:hit f A t r=false:=by unfold hit;rw[show(A.all λk=>(see f r k).isSome)=false from List.all_eq_false.mpr ⟨k,k1,by rw[k2];exact av⟩];rfl
  rw[l,aA av,aA av];have w:Gr S (S++[.dt<|B.map encP]):=Gr.app (vk B);have u:=h.gr w;rw[jC<|kj (Ex (jM rfl) g.ob (by kernel_rfl) (i3 (iV (d:=r.d) rfl)<|i3 (iV (d:=.lst<|A.map Ask.d) rfl) jG) e)<|ar rfl];refine⟨_,iM .non,?_,u.Iz r.d,(w.lw<|by lia).trans (jv.vR<|by lia)⟩;show jr _ _ _ [R0,R1,ba q,R3,iM<|jB (nm,t),ba v,iX<|A.map Ask.d,ba y,iM r.d,iM .non] (S++[.dt<|B.map encP])=_;rw[tf<|aaS<|LP<|jM (z:=.d .non) rfl];rw[sZ rfl u.ll (iV (d:=r.d) rfl) u.ll<|by rw[aj];lia,bj];rfl
 .have j:(A.all λk=>(see f r k).isSome)=true:=b9.mpr λk hk=>by obtain⟨s,hs⟩:=i k hk;rw[hs];rfl
  have w:Gr S (S++[.dt<|B.map encP]):=Gr.app (vk B);have u:=h.gr w;have Q:B.length<64:=b7 R.len L.len;obtain⟨V,kvs,G,e2,fd⟩:=J.o (S:=S++[.dt (B.map encP)]) (n:=S.length) R i (nF S _) u.m0 (by walk_at "l");have o:=u.gr G;have eh:=J.h fd (GN C r) L;rw[jC<|kj (Ex (jM rfl) g.ob (by kernel_rfl) (i3 (iV (d:=r.d) rfl)<|i3 (iV (d:=.lst<|A.map Ask.d) rfl) jG) e)<|ar rfl];have c:th (wa<|zV 9) (o6 tT<|zZ I<|iL (zD<|iN 4 1)<|iL (zZ K<|iL (zV 9) iY) iY) [R0,R1,ba q,R3,iM<|jB (nm,t),ba v,iX<|A.map Ask.d,ba y,iM r.d,ba S.length] (S++[.dt<|B.map encP])=.ok (hv (envOf f r) t) V:=by rw[aaR<|LP<|jM (z:=.loc S.length) rfl];exact xV (lP (i3 (iV (d:=t.d) rfl)<|i3 (lP (i3 (jM rfl) jG) e2) jG) eh) rfl
  cases F:hv (envOf f r) t with
  |false=>
   have l:hit f A t r=false:=by unfold hit;rw[F,iw]
   rw[l,aA av,aA av];rw[F]at c;refine⟨_,ba S.length,?_,o.Iz r.d,((w.trans G).lw (by lia)).trans (jv.vR<|by lia)⟩;show jr _ _ _ [R0,R1,ba q,R3,iM<|jB (nm,t),ba v,iX<|A.map Ask.d,ba y,iM r.d,ba S.length] (S++[.dt<|B.map encP])=_;rw[tf c];rw[sZ rfl o.ll (iV (d:=r.d) rfl) o.ll<|by rw[aj];lia,bj];rfl
  |true=>
   have x:hit f A t r=true:=by unfold hit;rw[F,j];rfl
   rw[x,aq rfl,aq rfl];rw[F]at c;obtain⟨S3,g3,e3⟩:=J.k (S:=V) (n:=S.length) (G.get (nF S _)) o.m0 o.bnd Q;have Z:=o.gr g3;have em:ke f A nm r=.tup [.str r.m,.int r.t,.str nm,.lst<|(ktL<|B.map λp=>jN p.2).map nY]:=by unfold ke;rw[Su R]
   refine⟨_,ba S.length,?_,Z.tld<|ke f A nm r,(((w.trans G).trans g3).lw (by lia)).trans (jv.vR hb)⟩;show jr _ _ _ [R0,R1,ba q,R3,iM<|jB (nm,t),ba v,iX<|A.map Ask.d,ba y,iM r.d,ba S.length] (S++[.dt<|B.map encP])=_;rw[nq c];have ev:zF jj (iL (zD<|iN 8 0)<|iL (zD<|iN 8 1)<|iL (zD<|iN 4 0)<|iL (zZ H<|iL (zV 9) iY) iY) [R0,R1,ba q,R3,iM<|jB (nm,t),ba v,iX<|A.map Ask.d,ba y,iM r.d,ba S.length] V=.ok (.d<|ke f A nm r) S3:=by rw[em];exact lZ [.str r.m,.int r.t,.str nm,.lst<|(ktL<|B.map λp=>jN p.2).map nY] (i3 (iV rfl)<|i3 (iV rfl)<|i3 (iV rfl)<|i3 (lP (i3 (jM rfl) jG) e3) jG) rfl
   rw[sZ rfl o.tt ev Z.tt<|by rw[aj];lia,bj];rfl
variable{a:Ad}
variable{X:jk}
def aaV{F:jh}{fs:nM}(i:fs X S=.ok zs S)(h:F (.loc S.length::zs) (S++[.ob C []])=.ok (.d .non) E):wb C F fs X S=.ok (.loc S.length) E:=by
 unfold wb;rw[i]
 show(match F (.loc S.length::zs) (S++[.ob C []])with
  |.ok (.d .non) d=>RX.ok (Z.loc S.length) d
  |.ex c v ds d=>.ex c v ds d
  |_=>.bad)=_
 rw[h]
def v3{n g}{L:jD}(d:X[i]?=some (ba n))(c:S[n]?=some (.li<|L.map .d))(j:b<=n)(h:nI S n):qq b i g X S=g (X.map<|oK n<|.lst L) (S.set n .no):=by
 unfold qq vq;rw[d];dsimp only;rw[c];dsimp only;rw[qF]
 lia
theorem Aj{c:Type}(p):∀l:aa c,(l.filter p).length+(l.filter λx=>!p x).length=l.length
 |[]=>rfl
 |x::l=>by
  have:=Aj p l;cases h:p x with
  |true=>rw[cc h,cf<|by rw[h];decide,au,au];lia
  |false=>rw[cf<|by rw[h];decide,cc<|by rw[h];rfl,au,au];lia
theorem CO(J:Jd a U N T O K I H){t}(s:tG A t)(c:∀r∈f,nB r)(p:b<=q)(R0 R1 R3):∀(rest:aa Rd) S m left s8 s9,In a S q v y f m left->m.length+left.length+rest.length<50000->
 ∃E F i,ki (hV 8) (pU a U N T O K I H) (rest.map Rd.d) [R0,R1,ba q,R3,iM<|jB (nm,t),ba v,iX<|A.map Ask.d,ba y,s8,s9] S
  =.nx [R0,R1,ba q,R3,iM<|jB (nm,t),ba v,iX<|A.map Ask.d,ba y,F,i] E
  /\In a E q v y f (m++(rest.filter<|hit f A t).map (ke f A nm)) (left++(rest.filter λr=>!hit f A t r).map Rd.d)/\jv b S E
 |[],S,m,left,s8,s9,h,_=>⟨S,s8,s9,rfl,by simpa using h,.refl _ _⟩
 |r::rest,S,m,left,s8,s9,h,G=>by
  rw[au]at G;obtain⟨z,i,M,k,C⟩:=RY (nm:=nm) J s c h p ⟨by lia,by lia⟩ r R0 R1 R3 s9;have st:∀x:kT,ki (hV 8) (pU a U N T O K I H) (rest.map Rd.d) [R0,R1,ba q,R3,iM<|jB (nm,t),ba v,iX<|A.map Ask.d,ba y,iM r.d,i] z=x->ki (hV 8) (pU a U N T O K I H) ((r::rest).map Rd.d) [R0,R1,ba q,R3,iM<|jB (nm,t),ba v,iX<|A.map Ask.d,ba y,s8,s9] S=x:=λx L=>by show m5 (pU a U N T O K I H [R0,R1,ba q,R3,iM<|jB (nm,t),ba v,iX<|A.map Ask.d,ba y,iM r.d,s9] S) (ki (hV 8) (pU a U N T O K I H)<|rest.map Rd.d)=_;rw[M];exact L
  cases d:hit f A t r with
  |true=>rw[d,aq rfl,aq rfl]at k;obtain⟨w,n,l,u,j,o⟩:=CO J s c p R0 R1 R3 rest z _ _ (iM r.d) i k (by rw[ag];simp;lia);refine⟨w,n,l,st _ u,?_,C.trans o⟩;rw[cc d,cf (by rw[d];decide),aD];rw[aT]at j;exact j
  |false=>rw[d,aA av,aA av]at k;obtain⟨w,n,l,u,j,o⟩:=CO J s c p R0 R1 R3 rest z _ _ (iM r.d) i k (by rw[ag];simp;lia);refine⟨w,n,l,st _ u,?_,C.trans o⟩;rw[cf (by rw[d];decide),cc (by rw[d];rfl),aD];rw[aT]at j;exact j
structure Out(S:iZ)(q:Nat)(m:jD):Prop where
 m0:S[0]?=some .mk
 bnd:kS S
 tt:S[q]?=some (.li<|m.map .d)
 st:nI S q
 o0:0<q
abbrev _root_.pq:=T7->aa Ask
noncomputable def j5(d:pq)(st:aa D×aa Rd)(c:uU):aa D×aa Rd:=(st.1++(st.2.filter<|hit st.2 (d c.2) c.2).map (ke st.2 (d c.2) c.1),st.2.filter λr=>!hit st.2 (d c.2) c.2 r)
abbrev _root_.nC:=aa uU
def judge(d:pq)(c:nC)(f:aa Rd):aa D×aa Rd:=c.foldl (j5 d) ([],f)
def Kp(b:Nat)(s:j3):Prop:=∀n d,b<=n->oK n d s=s
def RV(J:Jd a U N T O K I H){i:pq}(k:uU)(hF:N [k.2.d]=.ok (.lst<|(i k.2).map Ask.d))(hR:tG (i k.2) k.2)(p:∀r∈f,nB r)(h:Out S q m)(hb:b<=q)(hz:m.length+f.length<10000){n l:j3}(L:Kp b n/\Kp b l)(s5 s6 s7 s8 s9):
    ∃E V R Q z x,qH a U N T O K I H b [n,l,ba q,iX<|f.map Rd.d,iM<|jB k,s5,s6,s7,s8,s9] S
     =.nx [n,l,ba q,iX<|(j5 i (m,f) k).2.map Rd.d,iM<|jB k,V,R,Q,z,x] E/\Out E q (j5 i (m,f) k).1/\jv b S E:=by
 obtain⟨nm,t⟩:=k;have s:=kQ h.tt;obtain⟨c,e1,⟨m1,Y,M,P,lc,C⟩,w⟩:=J.i S f (by lia);have g1b:=C.b1;have g1c:=C.b2;have u:Gr c (c++[.li []]):=Gr.app λ_=>rfl;have gr:=w.trans u
 have h2:In a (c++[.li []]) q S.length c.length f m []:=
  ⟨gr.get h.m0,gr.bnd h.bnd,gr.get h.tt,gr.sf _ s h.st,nF c _,oH (w.bnd h.bnd _<|af _) rfl,⟨c.length,m1,Y,M,P,lc,af _,C.mv λj _ A=>u.pre j A⟩,h.o0,s,by lia⟩
 obtain⟨F,z,x,e3,o,l3⟩:=CO (nm:=nm) J hR p hb n l (iX (f.map Rd.d)) f (c++[.li []]) m [] s8 s9 h2 (by simp;walk_at "l");rw[cz]at o;have G:q≠c.length:=by lia
 have l4:jv b F (F.set c.length .no):=jv.set (by lia) λ_ _=>rfl;refine⟨F.set c.length .no,ba S.length,iX<|(i t).map Ask.d,iX<|(f.filter λr=>!hit f (i t) t r).map Rd.d,oK c.length (.lst<|(f.filter λr=>!hit f (i t) t r).map Rd.d) z,oK c.length (.lst<|(f.filter λr=>!hit f (i t) t r).map Rd.d) x,?_,⟨?_,λj A=>mu (o.bnd j<|by rw[aN]at A;exact A) rfl,?_,mu o.st rfl,h.o0⟩,((gr.lw<|by lia).trans l3).trans l4⟩
 .unfold qH;rw[jC<|kj (aaV (i3 (iV (d:=.lst<|f.map Rd.d) rfl) jG) e1)<|ar rfl];rw[jC<|kj (iV (d:=.lst<|(i t).map Ask.d) hF)<|ar rfl];show iO (k8 _ _ _) _ [n,l,ba q,iX<|f.map Rd.d,iM<|jB (nm,t),ba S.length,iX<|(i t).map Ask.d,ba c.length,s8,s9] (c++[.li []])=_;rw[jC<|show k8 (λX=>((dV 3) X).bind jT) (hV 8) (pU a U N T O K I H) [n,l,ba q,iX<|f.map Rd.d,iM<|jB (nm,t),ba S.length,iX<|(i t).map Ask.d,ba c.length,s8,s9] (c++[.li []])=_ from e3];rw[v3 rfl o.ll (by lia) o.sl];rw[aD,aD,L.1 _ _<|by lia,L.2 _ _<|by lia];show i4 3 _ [n,l,(if q=c.length then _ else ba q),iX<|f.map Rd.d,iM<|jB (nm,t),(if S.length=c.length then _ else ba S.length),iX<|(i t).map Ask.d,(if c.length=c.length then iX ((f.filter λr=>!hit f (i t) t r).map Rd.d)else _),oK c.length (.lst<|(f.filter λr=>!hit f (i t) t r).map Rd.d) z,oK c.length (.lst<|(f.filter λr=>!hit f (i t) t r).map Rd.d) x] _=_;rw[aA G,aA<|show¬S.length=c.length by lia,aq rfl];rfl
 .rw[ao<|by lia];exact o.m0
 .rw[ao<|bK G];exact o.tt
end
variable{a:Ad}
abbrev sc(x b:Int):Cell:=.li [.d<|.int x,.d<|.int b]
abbrev sx(S:iZ)(nn:Nat)(x b:Int):iZ:=S.set nn (sc x b)
variable{S:iZ}{nn:Nat}
def K5(c:nn<S.length)(x b):(sx S nn x b)[nn]?=some (.li<|([.int x,.int b]:aa D).map Z.d):=aB c
def vT(c:nn<S.length)(x b)(s):vw (sx S nn x b) (ba nn::s)=kg [.int x,.int b]::vw (sx S nn x b) s:=by show mw _ _::_=_;rw[rY<|K5 c x b];rfl
def K6(c:nn<S.length){b}{s}(h:f (ba nn::s) (sx S nn x b)=.ok (.d<|.int y) (sx S nn x b)):vZ 0 (iP 0) f (ba nn::s) (sx S nn x b)=.nx (ba nn::s) (sx S nn y b):=by
 unfold vZ;rw[h]
 show(match D.int 0,(sx S nn x b)[nn]? with
  |.int j,some (.li zs)=>(match qO zs.length j with
   |some m=>kT.nx (ba nn::s) ((sx S nn x b).set nn (.li<|zs.set m<|.d<|.int y))
   |none=>.bad)
  |_,_=>.bad)=_
 rw[K5 c];show kT.nx (ba nn::s) ((sx S nn x b).set nn (sc y b))=_;simp
def Xa(d:0<j)(c:j.natAbs<2^300):kx (.int i) (.int j)=.ok (.int<|i/j):=by have f:bits j<=300:=bits_le c;rw[DQ,aq<|by unfold vH;simp only[aS,bx];lia,f5 _<|by walk_at "l"]
def To(f:nn<S.length)(m x b)(h:0<m)(o:m.natAbs<2^300)(bb):∃r c:Int,0<=r/\r<m/\jc (Cj a bb (jR 3 [.loc nn,.d<|.int m])<|sx S nn x b)=.ok (.d<|.int r) (sx S nn c b):=by
 have l:=da x (show m≠0 by lia);have k:=c0 x h;unfold Cj;show∃r c:Int,0<=r/\r<m/\jc (iO (jr (qt _) _ _) _ [ba nn,iW m,none]<|sx S nn x b)=_;by_cases j:b=0
 .subst j;refine⟨x%m,x/m,l,k,?_⟩;rw[pM (z:=.d<|.int<|x%m) (S1:=sx S nn (x/m) 0)];.rfl
  .rw[nq<|AA (d:=true)<|by rw[vT f];rfl];rw[jC<|kj (si (d:=.int<|x%m) (by rw[vT f];show jJ (.int x) (.int m)=_;exact oG h) rfl)<|ar rfl];show iO (vZ 0 _ _) _ [ba nn,iW m,iW<|x%m] (sx S nn x 0)=_;rw[jC<|K6 f (y:=x/m)<|si (by rw[vT f];show kx (.int x) (.int m)=_;exact Xa h o) rfl];exact y_ret (iV rfl)
 .generalize n:(x%2147483647*48271+1013)%2147483629=c;generalize i:c*69621%2147483587/11%m=r;refine⟨r,c,by rw[<-i];exact da _ (by lia),by rw[<-i];exact c0 _ h,?_⟩;rw[lX (AA (d:=false) (S:=sx S nn x b) (by rw[vT f];show(R.ok (decide (b=0)):R i6)=_;rw[aG j]))];rw[jC (K6 f (y:=c) (si (by
   rw[vT f];show(((((jJ (.int x) (.int 2147483647)).bind λy=>jF y (.int 48271)).bind λy=>jV y (.int 1013)).bind λy=>jJ y (.int 2147483629)))=_;rw[oG (by decide)];show(((jF (.int (x%2147483647)) (.int 48271)).bind λy=>jV y (.int 1013)).bind λy=>jJ y (.int 2147483629))=_;rw[DR (by decide) (by decide)];show jJ (.int (x%2147483647*48271+1013)) (.int 2147483629)=_;rw[oG (by decide),n]) rfl))]
  rw[y_ret<|si (d:=.int r) (by rw[vT f];show(((((jF (.int c)<|.int 69621).bind λy=>jJ y<|.int 2147483587).bind λy=>kx y<|.int 11).bind λy=>jJ y<|.int m))=_;rw[DR (by decide)<|by decide];show(((jJ (.int<|c*69621)<|.int 2147483587).bind λy=>kx y<|.int 11).bind λy=>jJ y<|.int m)=_;rw[oG<|by decide];show((kx (.int<|c*69621%2147483587)<|.int 11).bind λy=>jJ y<|.int m)=_;rw[vP (by decide)<|by decide];show jJ (.int<|c*69621%2147483587/11) (.int m)=_;rw[oG h,i]) rfl]
  rfl
def T7.Ok(c:jy):T7->Prop
 |.at w=>PyData.strOk w=true/\w∈c
 |.far _ n=>0<=n
 |.times _ _ t=>t.Ok c
 |.abs t=>t.Ok c
 |.not t=>t.Ok c
 |.bin _ l r=>l.Ok c/\r.Ok c
 |_=>True
structure Gd(ws:jy)(Q:T7->Prop)(n k:Nat)(t:T7):Prop where
 ok:t.Ok ws
 dep:t.dep<=n
 sz:t.parts.length<=k
 w:Q t
def QS(t:T7):Prop:=∃s,s<=190/\Tw s t
def Pk(d:jh):Prop:=∀{S:iZ} {nn:Nat},nn<S.length->∀m x b:Int,0<m->m.natAbs<2^300->∃r c:Int,0<=r/\r<m/\d [.loc nn,.d<|.int m] (sx S nn x b)=.ok (.d<|.int r) (sx S nn c b)
def Lw(c:jg):Prop:=∀t b:Int,0<b->b.natAbs<10^400->c [.int t,.int b]=.ok (fr t b)
def Gv(f:jh)(c:jy)(Q:T7->Prop)(n k:Nat):Prop:=∀{S:iZ} {nn:Nat},nn<S.length->∀x b:Int,∃(t:T7) (d:Int),Gd c Q n k t/\f [.loc nn,.d<|.lst<|c.map D.str] (sx S nn x b)=.ok (.d t.d) (sx S nn d b)
variable{Zp Zt Zs Zc:jh}{Fl:jg}{b:Int}{ws:jy}{Q:T7->Prop}{n k:Nat}
def Jq{m:Int}(d:0<m)(c:m<1000):m.natAbs<2^300:=aE (by omega:m.natAbs<1000) (by decide)
def oY(h:Pk Zp)(i:nn<S.length)(m x:Int)(f:0<m)(o:m<1000):∃r c:Int,0<=r/\r<m/\∀ρ:jk,ρ[0]?=some (ba nn)->zZ Zp (iL (zV 0) (iL (zD (iP m)) iY)) ρ (sx S nn x b)=.ok (.d (.int r)) (sx S nn c b):=by obtain⟨r,c,l,j,e⟩:=h i m x b f (Jq f o);exact⟨r,c,l,j,λρ d=>lP (i3 (jM d)<|i3 (iV rfl) jG) e⟩
def gv(f:Gv Zt ws Q n k)(d:nn<S.length)(x):∃(t:T7) (c:Int),Gd ws Q n k t/\∀ρ:jk,ρ[0]?=some (ba nn)->ρ[1]?=some (iX (ws.map D.str))->zZ Zt (iL (zV 0) (iL (zD (dV 1)) iY)) ρ (sx S nn x b)=.ok (.d t.d) (sx S nn c b):=by obtain⟨t,c,h,e⟩:=f d x b;refine⟨t,c,h,λρ j i=>lP (i3 (jM j)<|i3 (iV ?_) jG) e⟩;unfold dV j6;rw[aC,i];rfl
def IJ{t b}(d:0<b)(f:b<1000)(c:t.natAbs<1000):0<(lo t b).2/\Sz 62 (lo t b).1/\Sz 62 (lo t b).2:=by have h:=pC (t:=t) (b:=b) (s:=62) (r:=62) (by lia) (aE c<|by decide) (aE (by grind:b.natAbs<1000)<|by decide);exact⟨(FM.uk (t:=t)<|by lia).pos,h.1,h.2.1⟩
def C4(c:Pk Zp)(o:Lw Fl)(d:nn<S.length)(m k x:Int)(f:0<m/\m<1000)(u:0<k/\k<900):∃p q l:Int,(0<q/\Sz 62 p/\Sz 62 q)/\∀ρ:jk,ρ[0]?=some (ba nn)->
    zF Fl (iL (zZ Zp<|iL (zV 0)<|iL (zD<|iP m) iY)<|iL (z2 jV (zD<|iP 1)<|zZ Zp<|iL (zV 0)<|iL (zD<|iP k) iY) iY) ρ (sx S nn x b)=.ok (.d<|.tup [.int p,.int q]) (sx S nn l b):=by
 obtain⟨r,j,C,A,w⟩:=oY (b:=b) c d m x f.1 f.2;obtain⟨s,i,z,y,v⟩:=oY (b:=b) c d k j u.1 (by lia);exact⟨_,_,i,IJ (t:=r) (b:=1+s) (by lia) (by lia)<|by lia,λρ h=>lZ [.int r,.int<|1+s] (i3 (w ρ h)<|i3 (lg (iV rfl) (v ρ h) rfl) jG)<|o r (1+s) (by lia)<|aE (by grind:(1+s).natAbs<2000)<|by decide⟩
def Ue(j:∀w∈ws,PyData.strOk w=true):qi (.lst<|ws.map D.str) (.lst [])=.ok (.bl<|!ws.isEmpty):=by
 have l:∀L:aa iS,(∀w∈L,PyData.strOk w=true)->lM (L.map D.str)=true/\m9 (L.map D.str)=0:=by
  intro L;induction L with
  |nil=>intro _;exact⟨rfl,rfl⟩
  |cons w L f=>
   intro h;obtain⟨d,c⟩:=f λx i=>h x (.tail _ i);refine⟨?_,?_⟩
   .show(PyData.strOk w&&lM (L.map D.str))=true;simp_all
   .show max 0 (m9<|L.map D.str)=0;rw[c];rfl
 obtain⟨d,c⟩:=l ws j;obtain⟨r,e,h⟩:=yS (a:=.lst (ws.map D.str)) (b:=.lst []) d rfl (by show m9 (ws.map D.str)+1<=60;simp_all) (by decide);unfold qi;rw[e];cases ws with
 |nil=>rw[h.mpr rfl];rfl
 |cons w L=>simp_all
def OW(r:Int)(a:3<=r)(b:r<=7):r=3\/r=4\/r=5\/r=6\/r=7:=by lia
def Rp(r:Int)(c:0<=r)(d:r<10):pZ (.int r) (.lst [.int 1,.int 2,.int 8,.int 9])=.ok (.bl<|decide<|r=1\/r=2\/r=8\/r=9):=by
 obtain⟨r,rfl⟩:=bp c;have:r=0\/r=1\/r=2\/r=3\/r=4\/r=5\/r=6\/r=7\/r=8\/r=9:=by lia
 rcases this with rfl|rfl|rfl|rfl|rfl|rfl|rfl|rfl|rfl|rfl<;>kernel_rfl
abbrev wd(ws:jy):D:=.lst (ws.map D.str)
def TB(v:Pk Zp)(hl:Lw Fl)(M:∀w∈ws,PyData.strOk w=true)(o:ws.length<1000):Gv (λT S=>jc<|Cp a Fl Zp S.length (jR 4 T) S) ws (Tw 62) 0 1:=by
 intro S nn o x b;obtain⟨r,l,Y,V,e1⟩:=oY (b:=b) v o 10 x (by decide) (by decide);have Z:=Ue M;have F:=Rp r Y V;have step:∀g:ji,iO (i4 2<|zZ Zp<|iL (zV 0)<|iL (zD<|iP 10) iY) g [ba nn,iM<|wd ws,none,none] (sx S nn x b)=g [ba nn,iM<|wd ws,iW r,none] (sx S nn l b):=λg=>jC (kj (e1 _ rfl)<|ar rfl);have L:∀S,zB (b1 tB<|d2 jm (dV 2)<|iP 0) [ba nn,iM<|wd ws,iW r,none] S=.ok (decide<|r=0) S:=λS=>lY rfl;have J:∀S,zB (sL (b1 tB (d2 jm (dV 2) (iP 8))) (b1 tB (d2 qi (dV 1) (jt (λρ=>(iQ ρ).bind ju))))) [ba nn,iM (wd ws),iW r,none] S=.ok (decide (r=8)&&!ws.isEmpty) S:=λS=>lY (by show((R.ok (decide (r=8)):R i6).bind λk=>if k=true then(qi (wd ws) (.lst [])).bind P2.tB else .ok false)=_;rw[Z];by_cases h:r=8<;>simp[h,R.bind,P2.tB])
 have I:∀S,zB (b1 tB<|d2 pZ (dV 2)<|jt<|λρ=>((iK (iP 1)<|iK (iP 2)<|iK (iP 8)<|iK (iP 9) iQ) ρ).bind ju) [ba nn,iM<|wd ws,iW r,none] S=.ok (decide<|r=1\/r=2\/r=8\/r=9) S:=λS=>lY (by show(pZ (.int r)<|.lst [.int 1,.int 2,.int 8,.int 9]).bind P2.tB=_;rw[F];rfl)
 dsimp only;unfold Cp;show∃(t:T7) (U:Int),Gd ws (Tw 62) 0 1 t/\jc (iO _ _ [ba nn,iM<|wd ws,none,none]<|sx S nn x b)=_;rw[step];by_cases P:r=0
 .obtain⟨p,q,c,m,A⟩:=C4 (b:=b) v hl o 9 3 l (by decide) (by decide);refine⟨.num p q,c,⟨trivial,af _,af _,.num m.1 m.2.1 m.2.2⟩,?_⟩;rw[pM (z:=.d (T7.num p q).d) (S1:=sx S nn c b)];.rfl
  .rw[nq<|(L _).trans (by rw[aR P])];exact y_ret (lZ [.str "num",.tup [.int p,.int q]] (i3 (iV rfl)<|i3 (A _ rfl) jG) rfl)
 .rw[lX<|(L _).trans (by rw[aG P])];by_cases C:r=8/\ws≠[]
  .obtain⟨C,y⟩:=C;have lw:0<ws.length:=List.length_pos_iff.mpr y;obtain⟨k,c,k0,k1,A⟩:=v o (ws.length:Int) l b (by simp_all) (Jq (by simp_all)<|by lia);obtain⟨j,rfl⟩:=bp k0;have jl:j<ws.length:=by simp_all
   refine⟨.at ws[j],c,⟨⟨M _<|bU _,bU _⟩,af _,af _,.at _⟩,?_⟩;rw[pM (z:=.d (T7.at ws[j]).d) (S1:=sx S nn c b)];.rfl
   .rw[nq<|(J _).trans (by rw[aR C,List.isEmpty_eq_false_iff.mpr y];rfl)];have ea:zZ Zp (iL (zV 0)<|iL (zD<|dA l7<|iK (dV 1) iQ) iY) [ba nn,iM<|wd ws,iW r,none] (sx S nn l b)=.ok (.d<|.int (j:Int)) (sx S nn c b):=lP (i3 rfl<|i3 (iV (d:=.int (ws.length:Int))<|by show l7 [wd ws]=_;show R.ok (D.int ((ws.map D.str).length:Int))=_;rw[aj]) jG) A;refine y_ret (lZ [.str "at",.str ws[j]] (i3 (iV rfl)<|i3 (lg (x:=wd ws) (iV rfl) ea ?_) jG) rfl);show(match L2.jO (ws.map D.str) (j:Int)with|some d=>R.ok d|none=>.bad)=_;rw[L2.ry<|show(ws.map D.str)[j]?=some (.str ws[j])by rw[aC,ax jl];rfl]
  .rw[lX ((J _).trans (by
    congr 1
    by_cases z:r=8
    · have:ws=[]:=bW λw=>C ⟨z,w⟩;rw[this];simp
    · rw[aG z];rfl))]
   by_cases N:r=1\/r=2\/r=8\/r=9
   .refine⟨.here,l,⟨trivial,af _,af _,.here⟩,?_⟩;rw[pM (z:=.d T7.here.d) (S1:=sx S nn l b)];.rfl
    .rw[nq<|(I _).trans (by rw[aR N])];exact y_ret (iV rfl)
   .rw[lX<|(I _).trans (by rw[aG N])];obtain⟨f,c,f0,f1,A⟩:=oY (b:=b) v o 3 l (by decide) (by decide);rw[jC<|kj (z:=.d<|.int<|1+f) (lg (iV rfl) (A _ rfl) rfl)<|ar rfl];have u:∃(n i:Int),0<=n/\jr (zB<|b1 tB<|d2 jm (dV 3)<|iP 3) (i4 3<|z2 jV (zD<|iP 1)<|zZ Zp<|iL (zV 0)<|iL (zD<|iP 9) iY) jA [ba nn,iM<|wd ws,iW r,iW<|1+f] (sx S nn c b)=.nx [ba nn,iM<|wd ws,iW r,iW n] (sx S nn i b):=by
     by_cases O:1+f=3
     .obtain⟨g,i,g0,g1,G⟩:=oY (b:=b) v o 9 c (by decide) (by decide);refine⟨1+g,i,by lia,?_⟩;rw[nq (lY (d:=true) (by show(R.ok (decide (1+f=3)):R i6)=_;rw[aR O]))];exact kj (lg (iV rfl) (G _ rfl) rfl) (ar rfl)
     .refine⟨1+f,c,by lia,?_⟩;rw[tf<|lY (d:=false)<|by show(R.ok<|decide<|1+f=3:R i6)=_;rw[aG O]];rfl
    obtain⟨n,i,s,G⟩:=u;show∃(t:T7) (U:Int),Gd ws (Tw 62) 0 1 t/\jc (iO _ _ [ba nn,iM<|wd ws,iW r,iW<|1+f]<|sx S nn c b)=_;rw[jC G];have hk:=OW r (by lia) (by lia);rcases hk with rfl|rfl|rfl|rfl|rfl;.exact⟨.far .back n,i,⟨s,af _,af _,.far _ _⟩,by kernel_rfl⟩
    .exact⟨.far .back n,i,⟨s,af _,af _,.far _ _⟩,by kernel_rfl⟩
    .exact⟨.far .on n,i,⟨s,af _,af _,.far _ _⟩,by kernel_rfl⟩
    .exact⟨.far .ago n,i,⟨s,af _,af _,.far _ _⟩,by kernel_rfl⟩
    .exact⟨.far .pG n,i,⟨s,af _,af _,.far _ _⟩,by kernel_rfl⟩
def vt{n k}(q)(d:Gd ws Q n k l)(c:Gd ws Q n k r)(w:Q'<|.bin q l r):Gd ws Q' (n+1) (2*k+1) (.bin q l r):=
 ⟨⟨d.ok,c.ok⟩,by show max l.dep r.dep+1<=n+1;have:=d.dep;have:=c.dep;lia,by show(l.parts++r.parts).length+1<=_;rw[ag];have:=d.sz;have:=c.sz;lia,w⟩
def Gd.up{n k}{t}(h:Gd ws Q n k t)(d:n<=m)(c:k<=j)(w:Q t->Q' t):Gd ws Q' m j t:=⟨h.ok,aW h.dep d,aW h.sz c,w h.w⟩
def Tz(y:Pk Zp)(I:Lw Fl)(v:Gv Zt ws (Tw 62) 0 1):Gv (λD S=>jc<|Co a Fl Zp Zt S.length (jR 5 D) S) ws QS 2 4:=by
 intro S nn l x b;obtain⟨r,F,O,N,M⟩:=oY (b:=b) y l 6 x (by decide) (by decide);obtain⟨t,j,c,L⟩:=gv (b:=b) v l F;dsimp only;unfold Co;show∃(m:T7) (G:Int),Gd ws QS 2 4 m/\jc (iO _ _ [ba nn,iM<|wd ws,none,none,none]<|sx S nn x b)=_;rw[jC<|kj (M _ rfl)<|ar rfl,jC<|kj (L _ rfl rfl)<|ar rfl];show∃(m:T7) (G:Int),Gd ws QS 2 4 m/\jc (iO (jr _ _ _) _ [ba nn,iM<|wd ws,iW r,iM t.d,none]<|sx S nn j b)=_;by_cases C:r=3
 .obtain⟨p,q,i,f,s⟩:=C4 (b:=b) y I l 4 3 j (by decide) (by decide);refine⟨.times p q t,i,⟨c.ok,by show t.dep+1<=2;have:=c.dep;walk_at "l",by show t.parts.length+1<=4;have:=c.sz;walk_at "l",⟨62+62,by decide,.times f.1 f.2.1 f.2.2 c.w (by decide)⟩⟩,?_⟩;rw[pM (z:=.d (T7.times p q t).d) (S1:=sx S nn i b)];.rfl
  .rw[nq<|lY (d:=true)<|by show(R.ok<|decide<|r=3:R i6)=_;rw[aR C]];exact y_ret (lZ [.str "times",.tup [.int p,.int q],t.d] (i3 (iV rfl)<|i3 (s _ rfl)<|i3 (iV rfl) jG) rfl)
 .rw[lX<|lY (d:=false)<|by show(R.ok<|decide<|r=3:R i6)=_;rw[aG C]];by_cases A:3<r
  .refine⟨t,j,c.up (by decide) (by decide) λw=>⟨62,by decide,w⟩,?_⟩;rw[pM (z:=.d t.d) (S1:=sx S nn j b)];.rfl
   .rw[nq<|lY (d:=true)<|by show(R.ok<|decide<|r>3:R i6)=_;rw[aR A]];exact y_ret (iV rfl)
  .rw[lX (lY (d:=false) (by show(R.ok (decide (r>3)):R i6)=_;rw[aG A]))];obtain⟨u,i,h,s⟩:=gv (b:=b) v l j;rw[jC<|kj (s _ rfl rfl)<|ar rfl];have J:r=0\/r=1\/r=2:=by lia
   rcases J with rfl|rfl|rfl
   .have o:=vt (Q':=QS) .sub c h ⟨62+62+1,by decide,.sub c.w h.w (by decide)<|by decide⟩;exact⟨.abs<|.bin .sub t u,i,⟨o.ok,by show(T7.bin .sub t u).dep+1<=2;have:=o.dep;walk_at "l",by show(T7.bin .sub t u).parts.length+1<=4;have:=o.sz;walk_at "l",⟨62+62+1,by decide,.abs<|.sub c.w h.w (by decide)<|by decide⟩⟩,by kernel_rfl⟩
   .exact⟨.bin .add t u,i,(vt (Q':=QS) .add c h ⟨62+62+1,by decide,.add c.w h.w (by decide)<|by decide⟩).up (by decide) (by decide) id,by kernel_rfl⟩
   .exact⟨.bin .sub t u,i,(vt (Q':=QS) .sub c h ⟨62+62+1,by decide,.sub c.w h.w (by decide)<|by decide⟩).up (by decide) (by decide) id,by kernel_rfl⟩
def SX(C:Pk Zp)(P:Lw Fl)(F:Gv Zs ws QS 2 4):Gv (λL S=>jc<|Ce a Fl Zp Zs S.length (jR 4 L) S) ws Cw 3 9:=by
 intro S nn i x b;obtain⟨r,M,r0,Z,V⟩:=oY (b:=b) C i 3 x (by decide) (by decide);obtain⟨t,A,w,U⟩:=gv (b:=b) F i M;obtain⟨k,y,k0,k1,T⟩:=oY (b:=b) C i 2 A (by decide) (by decide);have R:∃q:Bq,(∀t u,QS t->QS u->Cw (.bin q t u))/\jq (.lst [.str "<",.str "<",.str "="]) (.int r)=.ok (.str q.s):=by
  have:r=0\/r=1\/r=2:=by lia
  rcases this with rfl|rfl|rfl;.exact⟨.lt,λ_ _ ⟨_,o,m⟩ ⟨_,l,j⟩=>.lt m j o l,rfl⟩
  .exact⟨.lt,λ_ _ ⟨_,o,m⟩ ⟨_,l,j⟩=>.lt m j o l,rfl⟩
  .exact⟨.eq,λ_ _ ⟨_,o,m⟩ ⟨_,l,j⟩=>.eq m j o l,rfl⟩
 obtain⟨q,h,O⟩:=R;dsimp only;unfold Ce;rw[jC<|kj (lg (iV (d:=.lst [.str "<",.str "<",.str "="]) rfl) (V _ rfl) O)<|ar rfl,jC<|kj (U _ rfl rfl)<|ar rfl];show∃(N:T7) (Y:Int),Gd ws Cw 3 9 N/\jc (iO (jr _ _ _) _ [ba nn,iM<|wd ws,iM<|.str q.s,iM t.d]<|sx S nn A b)=_;have f:o6 tB (z2 jm (zZ Zp<|iL (zV 0)<|iL (zD<|iP 2) iY)<|zD<|iP 0) [ba nn,iM<|wd ws,iM<|.str q.s,iM t.d] (sx S nn A b)=.ok (decide<|k=0) (sx S nn y b):=xV (lg (T _ rfl) (iV rfl) rfl) rfl;by_cases G:k=0
 .obtain⟨p,s,v,c,D⟩:=C4 (b:=b) C P i 6 2 y (by decide) (by decide);have J:Gd ws QS 2 4 (T7.num p s):=⟨trivial,by show 0<=2;decide,by show 1<=4;decide,⟨62,by decide,.num c.1 c.2.1 c.2.2⟩⟩;refine⟨.bin q t<|.num p s,v,vt q w J<|h _ _ w.w J.w,?_⟩;rw[pM (z:=.d (T7.bin q t<|.num p s).d) (S1:=sx S nn v b)];.rfl
  .rw[nq<|f.trans<|by rw[aR G]];exact y_ret (lZ [.str q.s,t.d,.tup [.str "num",.tup [.int p,.int s]]] (i3 (iV rfl)<|i3 (iV rfl)<|i3 (lZ [.str "num",.tup [.int p,.int s]] (i3 (iV rfl)<|i3 (D _ rfl) jG) rfl) jG) rfl)
 .rw[lX<|f.trans<|by rw[aG G]];obtain⟨u,v,I,D⟩:=gv (b:=b) F i y;refine⟨.bin q t u,v,vt q w I<|h _ _ w.w I.w,?_⟩;rw[y_ret<|lZ [.str q.s,t.d,u.d] (i3 (iV rfl)<|i3 (iV rfl)<|i3 (D _ rfl rfl) jG) rfl];rfl
def SY(A:Pk Zp)(j:Gv Zc ws Cw 3 9):Gv (λp S=>jc<|Cf a Zp Zc S.length (jR 4 p) S) ws Cw 4 19:=by
 intro S nn i x b;obtain⟨r,v,L,J,G⟩:=oY (b:=b) A i 6 x (by decide) (by decide);obtain⟨t,f,c,F⟩:=gv (b:=b) j i v;dsimp only;unfold Cf;rw[jC<|kj (G _ rfl)<|ar rfl,jC<|kj (F _ rfl rfl)<|ar rfl];show∃(w:T7) (I:Int),Gd ws Cw 4 19 w/\jc (iO (jr _ _ _) _ [ba nn,iM<|wd ws,iW r,iM t.d]<|sx S nn f b)=_;by_cases m:r<3
 .refine⟨t,f,c.up (by decide) (by decide) id,?_⟩;rw[pM (z:=.d t.d) (S1:=sx S nn f b)];.rfl
  .rw[nq<|lY (d:=true)<|by show(R.ok<|decide<|r<3:R i6)=_;rw[aR m]];exact y_ret (iV rfl)
 .rw[lX<|lY (d:=false)<|by show(R.ok<|decide<|r<3:R i6)=_;rw[aG m]];by_cases l:r=3
  .refine⟨.not t,f,⟨c.ok,by show t.dep+1<=4;have:=c.dep;walk_at "l",by show t.parts.length+1<=19;have:=c.sz;walk_at "l",.not c.w⟩,?_⟩;rw[pM (z:=.d (T7.not t).d) (S1:=sx S nn f b)];.rfl
   .rw[nq<|lY (d:=true)<|by show(R.ok<|decide<|r=3:R i6)=_;rw[aR l]];exact y_ret (iV rfl)
  .rw[lX (lY (d:=false) (by show(R.ok (decide (r=3)):R i6)=_;rw[aG l]))];obtain⟨u,s,o,D⟩:=gv (b:=b) j i f;have C:∃q:Bq,(∀t u,Cw t->Cw u->Cw (.bin q t u))/\∀S:iZ,zD (d2 jq (jt<|λρ=>((iK (i8 "and")<|iK (i8 "or") iQ) ρ).bind ju)<|d2 ni (dV 2)<|iP 4) [ba nn,iM<|wd ws,iW r,iM t.d] S=.ok (.d<|.str q.s) S:=by
    have:r=4\/r=5:=by lia
    rcases this with rfl|rfl;.exact⟨.and,λ_ _=>.and,λS=>iV rfl⟩
    .exact⟨.or,λ_ _=>.or,λS=>iV rfl⟩
   obtain⟨q,h,y⟩:=C;refine⟨.bin q t u,s,vt q c o<|h _ _ c.w o.w,?_⟩;rw[y_ret<|lZ [.str q.s,t.d,u.d] (i3 (y _)<|i3 (iV rfl)<|i3 (D _ rfl rfl) jG) rfl];rfl
end WM
namespace WP
open PySem L2 P2 TM T2 PySem.NumText
variable{a:Ad}
def oS(j:Int):Nat:=(L2.jO (Str.ofString "qxz").cps.toList j).getD 0
def ox(j:Int):Nat:=(L2.jO (Str.ofString "abcdefghijklmnopqrstuvwxyz").cps.toList j).getD 0
def F2(j)(h:0<=j/\j<3):oS j<128/\L2.jO (Str.ofString "qxz").cps.toList j=some (oS j):=by obtain⟨c,f,d⟩:=RN j h;unfold oS;rw[d];exact⟨f,rfl⟩
def M0(j)(h:0<=j/\j<26):ox j<128/\L2.jO (Str.ofString "abcdefghijklmnopqrstuvwxyz").cps.toList j=some (ox j):=by obtain⟨c,f,d⟩:=RM j h;unfold ox;rw[d];exact⟨f,rfl⟩
def M3(f:0<=i/\i<26)(d:0<=j/\j<26)(h:ox i=ox j):i=j:=by
 have c:∀n:Nat,n<26->ox (n:Int)=97+n:=by decide+kernel
 obtain⟨n,rfl⟩:=bp f.1;obtain⟨m,rfl⟩:=bp d.1;have l:=c n (by lia);have k:=c m (by lia);have:ox (n:Int)=ox (m:Int):=h;simp_all
def more(c:Int)(d:lJ)(z:iS):iS:=d.foldl (λz j=>z++⟨#[oS<|c/(3+j)%3]⟩) z
theorem LF(c)(s1 s2 s3 s4):∀d z h,(∀j∈d,0<=j/\j<100)->PyData.strOk z=true->z.length+d.length<=100->
 ∃f,PyData.strOk (more c d z)=true/\(more c d z).length=z.length+d.length/\mi (gV 6) (wD a) (d.map D.int) [kN c,s1,s2,s3,s4,oI z,h]=.nx [kN c,s1,s2,s3,s4,oI<|more c d z,f]
 |[],z,h,_,l,m=>⟨h,l,by simp[more],rfl⟩
 |j::d,z,h,n,l,m=>by
  have p:=n j (bT ..);rw[au]at m;obtain⟨r,o⟩:=F2 (c/(3+j)%3) (by grind);have v:kx (.int c) (.int<|3+j)=.ok (.int<|c/(3+j)):=vP (by lia) (by lia);have k:(⟨#[oS<|c/(3+j)%3]⟩:iS).length=1:=rfl;have w:jV (.str z) (.str ⟨#[oS (c/(3+j)%3)]⟩)=.ok (.str (z++⟨#[oS (c/(3+j)%3)]⟩)):=xA (by lia) (by rw[k];decide);obtain⟨f,u,t,s⟩:=LF c s1 s2 s3 s4 d (z++⟨#[oS (c/(3+j)%3)]⟩) (kN j) (λi q=>n i (bo _ q)) (zN l (Dl r)) (by rw[len_app,k];lia);refine⟨f,u,by show(more c d (z++_)).length=_;rw[t,len_app,k,au];lia,?_⟩;rw[aD,Xe];walk_at "d"
  have e:wD a [kN c,s1,s2,s3,s4,oI z,kN j]=.nx [kN c,s1,s2,s3,s4,oI<|z++⟨#[oS<|c/(3+j)%3]⟩,kN j]:=by unfold wD;iterate 4 (walk_at "d";try simp only[v,aq lq,o,w])
  rw[e,Kg];exact s
def qQ(c:Int):iS:=more c ((List.range (c/312%7).toNat).map λ(k:Nat)=>(k:Int)) (Str.ofString "")
def oF(c st k:Int):iS:=⟨#[ox<|(c+k*st)%26]⟩++⟨#[oS<|k/26%3]⟩
def og(c st k:Int):iS:=if c/2184%2=1 then qQ c++oF c st k else oF c st k++qQ c
def MB(n:Nat)(h:n<12):∃st:Int,(st%26≠0/\st*2%26≠0)/\0<st/\st<26/\L2.jO [D.int 1,.int 3,.int 5,.int 7,.int 9,.int 11,.int 15,.int 17,.int 19,.int 21,.int 23,.int 25] (n:Int)=some (.int st):=by
 have:n=0\/n=1\/n=2\/n=3\/n=4\/n=5\/n=6\/n=7\/n=8\/n=9\/n=10\/n=11:=by revert n;decide
 rcases this with rfl|rfl|rfl|rfl|rfl|rfl|rfl|rfl|rfl|rfl|rfl|rfl<;>exact⟨_,by decide,by decide,by decide,rfl⟩
def TN(c):∃st:Int,(st%26≠0/\st*2%26≠0)/\∀k:Int,0<=k->k<26->PyData.strOk (og c st k)=true/\ky (zj a<|k7 7 [.int c,.int k])=.ok (.str<|og c st k):=by
 obtain⟨n,x⟩:=bp (show 0<=c/26%12 by lia);obtain⟨st,G,C,A,o⟩:=MB n (by lia);refine⟨st,G,λk L J=>?_⟩;have mk:jF (.int k) (.int st)=.ok (.int<|k*st):=DR (by lia) (by walk_at "l");obtain⟨P,t⟩:=M0 ((c+k*st)%26) (by grind);obtain⟨O,s⟩:=F2 (k/26%3) (by lia);have w:(⟨#[ox<|(c+k*st)%26]⟩:iS).length=1:=rfl;have v:(⟨#[oS<|k/26%3]⟩:iS).length=1:=rfl;have U:jV (.str ⟨#[ox ((c+k*st)%26)]⟩) (.str ⟨#[oS (k/26%3)]⟩)=.ok (.str (oF c st k)):=xA (by rw[w];decide) (by rw[v];decide);have h:PyData.strOk (oF c st k)=true:=zN (Dl P) (Dl O);have F:(oF c st k).length=2:=by unfold oF;rw[len_app,w,v]
 obtain⟨d,l⟩:∃d,d=oF c st k:=⟨_,rfl⟩;have f:d=(⟨#[ox<|(c+k*st)%26]⟩:iS)++⟨#[oS<|k/26%3]⟩:=l;rw[<-l]at U h F;have I:0<=c/312%7/\c/312%7<7:=by lia
 have u:qT [.int<|c/312%7]=.ok (qk 0 (c/312%7).toNat):=Kf I.1 (by lia);have T:PyData.strOk (Str.ofString "")=true:=by decide+kernel
 have m:(Str.ofString "").length=0:=by decide
 obtain⟨D,R,Q,y⟩:=LF (a:=a) c (kN k) (oI (Str.ofString "abcdefghijklmnopqrstuvwxyz")) (kN st) (oI d) ((List.range (c/312%7).toNat).map λ(k:Nat)=>(k:Int)) (Str.ofString "") .no (λj M=>by
  obtain⟨i,N,rfl⟩:=aH.mp M;have:=bS.mp N
  lia) T (by rw[m,aj,fm];lia)
 rw[<-Kl]at y;have Z:(qQ c).length<=7:=by show(more c _ _).length<=7;rw[Q,m,aj,fm];lia
 have p:mi (gV 6) (wD a) (qk 0 (c/312%7).toNat) [kN c,kN k,oI<|Str.ofString "abcdefghijklmnopqrstuvwxyz",kN st,oI d,oI<|Str.ofString "",.no]=.nx [kN c,kN k,oI<|Str.ofString "abcdefghijklmnopqrstuvwxyz",kN st,oI d,oI<|qQ c,D]:=y;have q:PyData.strOk (qQ c)=true:=R;unfold og;rw[<-l];generalize qQ c=z at*;have Y:jV (.str z) (.str d)=.ok (.str<|z++d):=xA (by walk_at "l") (by lia);have V:jV (.str d) (.str z)=.ok (.str<|d++z):=xA (by lia) (by walk_at "l");by_cases r:c/2184%2=1
 .rw[aq r];refine⟨zN q h,?_⟩;unfold zj;iterate 6 (walk_at "d";try simp only[x,o,mk,aq lq,aq la,t,s,<-f,u])
  simp only[p];iterate 6 (walk_at "d";try simp only[r,Y,iA])
 .rw[aA r];refine⟨zN h q,?_⟩;unfold zj;iterate 6 (walk_at "d";try simp only[x,o,mk,aq lq,aq la,t,s,<-f,u])
  simp only[p];iterate 6 (walk_at "d";try simp only[r,V,eP])
def vi(x y:iS):(x++y).cps.toList=x.cps.toList++y.cps.toList:=by show(x.cps++y.cps).toList=_;simp
def Et{st}(m:st%26≠0/\st*2%26≠0)(o:0<=i/\i<3)(n:0<=j/\j<3)(h:i≠j):og c st i≠og c st j:=by
 intro w;have e:oF c st i=oF c st j:=by
  unfold og at w;have inj:∀x y:iS,x.cps=y.cps->x=y:=λx y h=>by cases x;cases y;exact bG Str.mk h
  split at w
  .have k:=bG (λs:iS=>s.cps.toList) w;refine inj _ _ (gE.mp ?_);have f:(qQ c).cps.toList++(oF c st i).cps.toList=(qQ c).cps.toList++(oF c st j).cps.toList:=by rw[<-vi,<-vi];exact k
   exact List.append_cancel_left f
  .have k:=bG (λs:iS=>s.cps.toList) w;refine inj _ _ (gE.mp ?_);have f:(oF c st i).cps.toList++(qQ c).cps.toList=(oF c st j).cps.toList++(qQ c).cps.toList:=by rw[<-vi,<-vi];exact k
   exact List.append_cancel_right f
 have l:ox ((c+i*st)%26)=ox ((c+j*st)%26):=by
  have:=bG (λs:iS=>s.cps.toList[0]?) e;unfold oF at this;try dsimp only at this
  rw[vi,vi]at this;exact Option.some.inj this
 have p:=M3 (by grind) (by grind) l;have d:(i=0\/i=1\/i=2)/\(j=0\/j=1\/j=2):=by lia
 rcases d with⟨rfl|rfl|rfl,rfl|rfl|rfl⟩<;>lia
end WP
namespace WM
open PySem L2 P2 WP TM T2 PySem.NumText
variable{a:Ad}
def Vl(f:jh):Prop:=∀{S:iZ} {c:Nat},c<S.length->∀x b:Int,∃p q d:Int,(FM.qA p q/\Sz 62 p/\Sz 62 q)/\f [.loc c] (sx S c x b)=.ok (.d<|pr p q) (sx S c d b)
def IH(p:Int):FM.qA p 1:=⟨by decide,by simp⟩
section
variable{m l:jh}{z A:jg}
def TH(f:Pk m)(L:Lw z):Vl (λF S=>jc<|Cq a z m S.length (jR 2 F) S):=by
 intro S s h x b;obtain⟨r,j,U,T,N⟩:=oY (b:=b) f h 8 x (by decide) (by decide);dsimp only;unfold Cq;show∃p q O:Int,_/\jc (iO (i4 1 _) _ [ba s,none]<|sx S s x b)=_;rw[jC<|kj (N _ rfl)<|ar rfl];by_cases C:r=7
 .obtain⟨u,c,Q,P,i⟩:=f h (10^60) j b (by decide) (by decide);obtain⟨v,G,o,n,M⟩:=oY (b:=b) f h 2 c (by decide) (by decide);have hv:v=0\/v=1:=by lia
  have k:Sz 62 u:=aE (show u.natAbs<10^60 by lia) (by decide);have I:Sz 62 (1 - 2*v):=aE (show(1 - 2*v).natAbs<10 by omega) (by decide);have J:Sz 62 (u*(1 - 2*v)):=by
   rcases hv with rfl|rfl;.rw[show u*(1 - 2*0)=u by simp];exact k
   .rw[show u*(1 - 2*1)= -u by simp];unfold Sz;rw[Int.natAbs_neg];exact k
  refine⟨u*(1 - 2*v),1,G,⟨IH _,J,uw⟩,?_⟩;rw[v5 (lY (d:=true)<|by show(R.ok<|decide<|r=7:R i6)=_;rw[aR C])<|y_ret<|lZ [.int<|u*(1 - 2*v),.int 1] (i3 (lg (lP (i3 (jM rfl)<|i3 (iV (d:=.int<|10^60) rfl) jG) i) (lg (iV (d:=.int 1) rfl) (lg (iV (d:=.int 2) rfl) (M _ rfl)<|Kd (by decide)<|by decide) (w:=.int<|1 - 2*v) rfl)<|ng (k.mono<|by decide)<|I.mono<|by decide)<|i3 (iV (d:=.int 1) rfl) jG) rfl];rfl
 .rw[lX<|lY (d:=false)<|by show(R.ok<|decide<|r=7:R i6)=_;rw[aG C]];by_cases D:r=6
  .obtain⟨v,c,o,n,i⟩:=oY (b:=b) f h 9 j (by decide) (by decide);have y:=IJ (t:=v - 3) (b:=2) (by decide) (by decide) (by omega);refine⟨_,_,c,⟨FM.uk (t:=v - 3) (b:=2)<|by decide,y.2.1,y.2.2⟩,?_⟩;rw[v5 (lY (d:=true) (by show(R.ok (decide (r=6)):R i6)=_;rw[aR D])) (y_ret (lZ [.int (v - 3),.int 2] (i3 (lg (i _ rfl) (iV (d:=.int 3) rfl) (w:=.int (v - 3)) rfl) (i3 (iV (d:=.int 2) rfl) jG)) (L (v - 3) 2 (by decide) (by decide))))];rfl
  .rw[lX (lY (d:=false) (by show(R.ok (decide (r=6)):R i6)=_;rw[aG D]))];obtain⟨v,c,o,n,i⟩:=oY (b:=b) f h 4 j (by decide) (by decide);refine⟨v,1,c,⟨IH _,aE (show v.natAbs<10 by lia)<|by decide,uw⟩,?_⟩;rw[y_ret<|lZ [.int v,.int 1] (i3 (i _ rfl)<|i3 (iV (d:=.int 1) rfl) jG) rfl];rfl
def Lx(a b:Rd):Prop:=a.t<b.t\/a.t=b.t/\a.m.cps.toList<b.m.cps.toList
def Lx.ne{a b:Rd}(h:Lx a b):jN a≠jN b:=λe=>by
 have d:a.t=b.t:=bG Prod.fst e;have c:a.m=b.m:=bG Prod.snd e;rcases h with h|h;.simp_all
 .rw[c]at h;exact List.lt_irrefl _ h.2
structure RowOk(row:aa Rd):Prop where
 ok:∀r∈row,nB r/\PyData.strOk r.m=true
 so:row.Pairwise Lx
 tm:∀r∈row,0<=r.t/\r.t<10000000000
def RowOk.nd(h:RowOk row):(row.map jN).Nodup:=gp.mpr (h.so.imp Lx.ne)
def RowOk.add(h:RowOk row){r:Rd}(n:0<=r.t/\r.t<10000000000)(k:nB r)(j:PyData.strOk r.m=true)(i:∀s∈row,Lx s r):RowOk (row++[r]):=
 ⟨λs c=>by
   rcases aY.mp c with w|w;· exact h.ok s w
   · rw[aQ]at w;subst w;exact⟨k,j⟩,ip.mpr ⟨h.so,eF ..,λx f y d=>by rw[aQ]at d;subst d;exact i x f⟩,λs c=>by
   rcases aY.mp c with w|w;· exact h.tm s w
   · rw[aQ]at w;subst w;exact n⟩
structure RowW(ws:jy)(row:aa Rd):Prop extends RowOk row where
 wd:∀r∈row,r.m∈ws
def RowW.add(h:RowW ws row){r:Rd}(k:0<=r.t/\r.t<10000000000)(j:nB r)(i:PyData.strOk r.m=true)(d:r.m∈ws)(f:∀s∈row,Lx s r):RowW ws (row++[r]):=
 ⟨h.toRowOk.add k j i f,λs c=>by
   rcases aY.mp c with w|w;· exact h.wd s w
   · rw[aQ]at w;subst w;exact d⟩
structure Mk(B:iZ)(nr nn:Nat)(row:aa Rd):Prop extends Out B nr (row.map Rd.d) where
 hn:nn<B.length
 ne:nr≠nn
 n0:0<nn
section
variable{B:iZ}{i f b0:Nat}{c:aa Rd}{ρ:jk}
def Mk.out(h:Mk B i f c)(x b:Int):Out (sx B f x b) i (c.map Rd.d):=
 ⟨by have:=h.n0;rw[ao<|by walk_at "l"];exact h.m0,λj d=>mu (h.bnd j<|by rw[aN]at d;exact d)<|lu [.int x,.int b] _,by rw[ao<|bK h.ne];exact h.tt,mu h.st<|lu [.int x,.int b] _,h.o0⟩
def jv.sx(d:b0<=f)(x b:Int):jv b0 B (sx B f x b):=jv.set d λj _=>lu [.int x,.int b] j
def FE(hv:Vl l)(h:Mk B i f c)(r:b0<=i)(D:c.length<10000){w:iS}{t:Int}{f1 f2:jx}(u:ρ[4]?=some (ba i))(s:ρ[7]?=some (ba f))(C:f1 (j6 ρ)=.ok (.str w))(y:f2 (j6 ρ)=.ok (.int t))(x b:Int):
    ∃(p q d:Int) (n:iZ),(FM.qA p q/\Sz 62 p/\Sz 62 q)/\nj 4 (zF jj<|iL (zD f1)<|iL (zD f2)<|iL (zZ l<|iL (zV 7) iY) iY) ρ (sx B f x b)=.nx ρ (sx n f d b)/\Mk n i f (c++[⟨w,t,p,q⟩])/\jv b0 B n:=by
 obtain⟨p,q,d,k,e⟩:=hv h.hn x b;refine⟨p,q,d,B.set i (.li (((c++[(⟨w,t,p,q⟩:Rd)]).map Rd.d).map .d)),k,?_,⟨⟨?_,λj o=>mu (h.bnd j (by rw[aN]at o;exact o)) (lu _ _),aB (kQ h.tt),mu h.st (lu _ _),h.o0⟩,by rw[aN];exact h.hn,h.ne,h.n0⟩,jv.vR r⟩
 .have v:zF jj (iL (zD f1)<|iL (zD f2)<|iL (zZ l<|iL (zV 7) iY) iY) ρ (sx B f x b)=.ok (.d<|Rd.d ⟨w,t,p,q⟩) (sx B f d b):=lZ [.str w,.int t,pr p q] (i3 (iV C)<|i3 (iV y)<|i3 (lP (i3 (jM s) jG) e) jG) rfl;rw[sZ u (h.out x b).tt v (h.out d b).tt (by rw[aj,aj];walk_at "l")];rw[iE _ _<|bK h.ne,bj,bj];rfl
 .have:=h.o0;rw[ao<|by walk_at "l"];exact h.m0
end
end
variable{a:Ad}
abbrev Fn(L:jy):Prop:=L.Pairwise λx y=>x.cps.toList<y.cps.toList
def Y4(c:jy)(h:c.length<64)(nd:c.Nodup):∃L:aa iS,L.Perm c/\Fn L/\xE (.lst<|c.map D.str)=.ok (L.map D.str):=by
 let bk:D->iS:=λd=>match d with|.str x=>x|_=>Str.ofString ""
 have n:nG (c.map D.str)=true:=CC (λ_=>rfl) c;have j:((kJ<|c.map D.str).map bk).Perm c:=by
  have:=(nh<|c.map D.str).map bk
  grind
 refine⟨(kJ<|c.map D.str).map bk,j,?_,?_⟩
 .have k:=uF (s:=[1]) (ds:=c.map D.str) λd i=>by obtain⟨w,_,rfl⟩:=aH.mp i;rfl
  have f:=j.nodup_iff.mpr nd;refine gp.mpr (ez (λ{x y} m l q=>?_)<|k.and<|gp.mp f);obtain⟨u,_,rfl⟩:=aH.mp ((nh _).mem_iff.mp m);obtain⟨v,_,rfl⟩:=aH.mp ((nh _).mem_iff.mp l);by_cases z:u.cps.toList<v.cps.toList;.exact z
  .exact absurd (D8 z<|dF q.1) q.2
 .show(if nG (c.map D.str)=true/\(c.map D.str).length<64 then R.ok (kJ<|c.map D.str)else .bad)=_;rw[aq ⟨n,by rw[aj];exact h⟩,bh]
  congr 1
  refine((dj λd i=>?_).trans (List.map_id' _)).symm;obtain⟨w,_,rfl⟩:=aH.mp ((nh _).mem_iff.mp i);rfl
structure W3(ws:jy):Prop where
 ok:∀w∈ws,PyData.strOk w=true
 nd:ws.Nodup
 len:ws.length=3
def Lc{t:Int}(d:0<=t)(c:t<10000000000):Sz 61 t:=aE (show t.natAbs<10000000000 by lia) (by decide)
section
variable{Zp H:jh}{Fc:jg}{F E b0:Nat}{C:jy}
def RU(W:W3 C)(c:Int):∃w∈C,((jJ (.int c)<|.int 3).bind λi=>jq (.lst<|C.map D.str) i)=.ok (.str w):=by
 have k:=da c (show(3:Int)≠0 by decide);obtain⟨j,h⟩:=bp k;have f:j<C.length:=by rw[W.len];lia
 refine⟨C[j],bU _,?_⟩;rw[oG<|by decide,h];show(match L2.jO (C.map D.str) (j:Int)with|some d=>R.ok d|none=>.bad)=_;rw[L2.ry<|show(C.map D.str)[j]?=some (.str C[j])by rw[aC,ax f];rfl]
theorem nine(hv:Vl H)(W:W3 C)(U:b0<=F)(o n m:j3)(c b:Int)(l i f:j3):∀(j:jD) (T:Int) (row:aa Rd) (B:iZ) (x:Int) (A:j3),Mk B F E row->RowW C row->(∀r∈row,r.t<T)->0<=T->T+j.length<10000000000->row.length+j.length<9000->
 ∃(v:Int) (d:aa Rd) (z:iZ) (I:Int) (J:j3),ki (hV 9) (tU a Fc Zp H) j [o,n,m,iX<|C.map D.str,ba F,iW T,iW c,ba E,l,A,i,f] (sx B E x b)
  =.nx [o,n,m,iX<|C.map D.str,ba F,iW v,iW c,ba E,l,J,i,f] (sx z E I b)/\Mk z F E d/\RowW C d/\(∀r∈d,r.t<v)/\T<=v/\v<=T+j.length/\d.length=row.length+j.length/\jv b0 B z
 |[],T,row,B,x,A,h,y,G,O,V,Q=>⟨T,row,B,x,A,rfl,h,y,G,iJ _,by simp,rfl,.refl _ _⟩
 |k::j,T,row,B,x,A,h,y,G,O,V,Q=>by
  rw[au]at V Q;obtain⟨w,R,ew⟩:=RU W c;obtain⟨p,q,P,Y,u,e1,h2,l1⟩:=FE (b0:=b0) (ρ:=[o,n,m,iX (C.map D.str),ba F,iW T,iW c,ba E,l,iM k,i,f]) (w:=w) (t:=T) (f1:=d2 jq (dV 3) (d2 jJ (dV 6) (iP 3))) (f2:=dV 5) hv h U (by lia) rfl rfl ew rfl x b;have N:RowW C (row++[⟨w,T,p,q⟩]):=y.add ⟨O,(show T<10000000000 by lia)⟩ ⟨Lc O<|show T<10000000000 by lia,u.1,u.2.1,u.2.2⟩ (W.ok w R) R λs hs=>.inl (G s hs);obtain⟨v,d,z,I,J,e2,h3,M,L,g1,g2,g3,l2⟩:=nine hv W U o n m c b l i f j (T+1) (row++[⟨w,T,p,q⟩]) Y P (iM k) h2 N (λr y=>by
   rcases aY.mp y with w'|w';· have:=G r w';lia
   · rw[aQ]at w';subst w';show T<T+1;lia) (by lia) (by lia) (by rw[ag];simp;lia)
  refine⟨v,d,z,I,J,?_,h3,M,L,by walk_at "l",by rw[au];lia,by rw[g3,ag,au];simp;lia,l1.trans l2⟩;have st:tU a Fc Zp H [o,n,m,iX<|C.map D.str,ba F,iW T,iW c,ba E,l,iM k,i,f] (sx B E x b)=.nx [o,n,m,iX<|C.map D.str,ba F,iW<|T+1,iW c,ba E,l,iM k,i,f] (sx Y E P b):=by unfold tU;rw[jC e1];rfl
  show m5 (tU a Fc Zp H [o,n,m,iX<|C.map D.str,ba F,iW T,iW c,ba E,l,iM k,i,f]<|sx B E x b) (ki (hV 9) (tU a Fc Zp H) j)=_;rw[st];exact e2
theorem three(hv:Vl H)(W:W3 C)(hb:b0<=F)(A y u o:j3)(T:Int)(U:0<=T)(R:T<10000000000)(n:j3)(b:Int)(m l d:j3):∀(L:jy) (row:aa Rd) (B:iZ) (x:Int) (f:j3),Mk B F E row->RowW C row->(∀w∈L,w∈C)->Fn L->(∀r∈row,r.t<=T)->(∀r∈row,r.t=T->∀w∈L,r.m.cps.toList<w.cps.toList)->row.length+L.length<9000->
 ∃(c:aa Rd) (I:iZ) (M:Int) (i:j3),ki (hV 11) (wF a Fc Zp H) (L.map D.str) [A,y,u,o,ba F,iW T,n,ba E,m,l,d,f] (sx B E x b)
  =.nx [A,y,u,o,ba F,iW T,n,ba E,m,l,d,i] (sx I E M b)/\Mk I F E c/\RowW C c/\(∀r∈c,r.t<=T)/\c.length=row.length+L.length/\jv b0 B I
 |[],row,B,x,f,h,j,_,_,J,_,_=>⟨row,B,x,f,rfl,h,j,J,rfl,.refl _ _⟩
 |w::L,row,B,x,f,h,j,Q,hd,J,Y,hz=>by
  rw[au]at hz;obtain⟨p,q,x1,B1,k,e1,h2,l1⟩:=FE (b0:=b0) (ρ:=[A,y,u,o,ba F,iW T,n,ba E,m,l,d,iM (.str w)]) (w:=w) (t:=T) (f1:=dV 11) (f2:=dV 5) hv h hb (by lia) rfl rfl rfl rfl x b;have G:=dG.mp hd;have P:RowW C (row++[⟨w,T,p,q⟩]):=j.add ⟨U,R⟩ ⟨Lc U R,k.1,k.2.1,k.2.2⟩ (W.ok w<|Q w<|.head _) (Q w<|.head _) λs V=>(Int.lt_or_eq_of_le<|J s V).imp id λe=>⟨e,Y s V e w<|.head _⟩;obtain⟨c,I,M,i,e2,h3,O,N,g3,l2⟩:=three hv W hb A y u o T U R n b m l d L (row++[⟨w,T,p,q⟩]) B1 x1 (iM (.str w)) h2 P (λv hv=>Q v (.tail _ hv)) G.2 (λr j=>by
   rcases aY.mp j with w'|w';· exact J r w'
   · rw[aQ]at w';subst w';exact iJ _) (λr j e=>by
   rcases aY.mp j with w'|w';· exact λv z=>Y r w' e v (.tail _ z)
   · rw[aQ]at w';subst w';exact G.1) (by rw[ag];simp;lia)
  refine⟨c,I,M,i,?_,h3,O,N,by rw[g3,ag,au];simp;lia,l1.trans l2⟩;show m5 (wF a Fc Zp H [A,y,u,o,ba F,iW T,n,ba E,m,l,d,iM<|.str w]<|sx B E x b) (ki (hV 11) (wF a Fc Zp H)<|L.map D.str)=_;rw[show wF a Fc Zp H [A,y,u,o,ba F,iW T,n,ba E,m,l,d,iM<|.str w] (sx B E x b)=_ from e1];exact e2
def YX(W:W3 C)(r:Int)(l:0<=r)(n:r<12):∃(h:lJ) (L:jy),L.Nodup/\(∀w∈L,w∈C)/\L.length<=3/\
    jq (.lst [.lst [.int 0],.lst [.int 0],.lst [.int 0],.lst [.int 1],.lst [.int 0,.int 1],.lst [.int 0,.int 1,.int 2],.lst [.int 2],.lst [.int 0,.int 2],.lst [.int 1,.int 2],.lst [.int 1],.lst [.int 0],.lst [.int 0,.int 1]]) (.int r)=.ok (.lst<|h.map D.int)/\h.map (λi=>jq (.lst<|C.map D.str)<|.int i)=L.map λw=>R.ok (D.str w):=by
 have m:∃u v w,C=[u,v,w]:=by
  have k:=W.len;match C,k with
  |[u,v,w],_=>simp
 obtain⟨u,v,w,rfl⟩:=m;have nd:=W.nd;simp only[bA,aI,cH,fZ,not_or]at nd;obtain⟨⟨c,f⟩,d,_⟩:=nd;obtain⟨r,rfl⟩:=bp l;have j:r=0\/r=1\/r=2\/r=3\/r=4\/r=5\/r=6\/r=7\/r=8\/r=9\/r=10\/r=11:=by lia
 rcases j with rfl|rfl|rfl|rfl|rfl|rfl|rfl|rfl|rfl|rfl|rfl|rfl;.exact⟨[0],[u],by simp,by simp,by simp,rfl,rfl⟩
 .exact⟨[0],[u],by simp,by simp,by simp,rfl,rfl⟩
 .exact⟨[0],[u],by simp,by simp,by simp,rfl,rfl⟩
 .exact⟨[1],[v],by simp,by simp,by simp,rfl,rfl⟩
 .exact⟨[0,1],[u,v],by simp[c],by simp,by simp,rfl,rfl⟩
 .exact⟨[0,1,2],[u,v,w],by simp[c,f,d],by simp,by simp,rfl,rfl⟩
 .exact⟨[2],[w],by simp,by simp,by simp,rfl,rfl⟩
 .exact⟨[0,2],[u,w],by simp[f],by simp,by simp,rfl,rfl⟩
 .exact⟨[1,2],[v,w],by simp[d],by simp,by simp,rfl,rfl⟩
 .exact⟨[1],[v],by simp,by simp,by simp,rfl,rfl⟩
 .exact⟨[0],[u],by simp,by simp,by simp,rfl,rfl⟩
 .exact⟨[0,1],[u,v],by simp[c],by simp,by simp,rfl,rfl⟩
variable{a:Ad}
variable{S:iZ}{A:aa Rd}
def qW(e:fi (j6 ρ)=.ok ds):k8 fi h gb ρ S=ki h gb ds ρ S:=by unfold k8;rw[e];rfl
def zT(f:Pk Zp)(h:E<S.length)(i)(m x b)(l:0<m)(n:m<10000):∃r c:Int,0<=r/\r<m/\∀ρ:jk,ρ[i]?=some (ba E)->zZ Zp (iL (zV i) (iL (zD (iP m)) iY)) ρ (sx S E x b)=.ok (.d (.int r)) (sx S E c b):=by obtain⟨r,c,k,j,e⟩:=f h m x b l (aE (by grind:m.natAbs<10000)<|by decide);exact⟨r,c,k,j,λρ d=>lP (i3 (jM d)<|i3 (iV rfl) jG) e⟩
abbrev Cl(Fc:jg):Prop:=∀(ns:lJ) (k:Nat),Fc [.lst<|ns.map .int,.int k]=.ok (.int<|ns.getD k 0)
def Yj(hp:Pk Zp)(hv:Vl H)(hc:Cl Fc)(W:W3 C)(hb:b0<=F)(m:lJ)(s1)(f T c:Int)(h:Out S F<|A.map Rd.d)(J:RowW C A)(ht:∀r∈A,r.t<=T)(h0:0<=T)(h1:T<9000000000)(hz:A.length<=5000)(s7 s8 s9 kr mH):
    (f<A.length/\sJ a Fc Zp H [iX<|m.map .int,s1,iW f,iX<|C.map D.str,ba F,iW T,iW c,s7,s8,s9,kr,mH] S=.bk [iX<|m.map .int,s1,iW f,iX<|C.map D.str,ba F,iW T,iW c,s7,s8,s9,kr,mH] S)
    \/(A.length<=f/\∃(O:Int) (n:aa Rd) (S':iZ) (t7 z o G s:j3),sJ a Fc Zp H [iX (m.map .int),s1,iW f,iX (C.map D.str),ba F,iW T,iW c,s7,s8,s9,kr,mH] S=.nx [iX (m.map .int),s1,iW f,iX (C.map D.str),ba F,iW O,iW c,t7,z,o,G,s] S'
     /\Out S' F (n.map Rd.d)/\RowW C n/\(∀r∈n,r.t<=O)/\T<=O/\O<=T+4000/\n.length<=A.length+12/\jv b0 S S'):=by
 have V:∀k:i6,decide (f<(A.length:Int))=k->qt (b1 tB<|d2 sQ (dA l7<|iK (dV 4) iQ)<|dV 2) [iX<|m.map .int,s1,iW f,iX<|C.map D.str,ba F,iW T,iW c,s7,s8,s9,kr,mH] S=.ok k S:=λk hk=>by refine AA ?_;show(b1 tB<|d2 sQ (dA l7<|iK (dV 4) iQ)<|dV 2) [_,_,kN f,_,mw S<|ba F,_,_,_,_,_,_,_]=_;rw[rY h.tt];show R.ok (decide<|f<(((A.map Rd.d).length:Nat):Int))=_;rw[aj,hk]
 unfold sJ;by_cases hm:f<(A.length:Int)
 .left;refine⟨hm,?_⟩;unfold iO;rw[nq<|V true<|aR hm];rfl
 right;refine⟨by simp_all,?_⟩;rw[lX<|V false<|aG hm];generalize hbb:m.getD 0 0/7%2=b;have e7:kY (λρ=>((iK (dV 6)<|iK (d2 jJ (d2 kx (dA Fc<|iK (dV 0)<|iK (iP 0) iQ)<|iP 7)<|iP 2) iQ) ρ).bind ju) [iX<|m.map .int,s1,iW f,iX<|C.map D.str,ba F,iW T,iW c,s7,s8,s9,kr,mH] S=.ok (.loc S.length) (S++[sc c b]):=by show(kR ((((((Fc [.lst<|m.map .int,.int (0:Nat)]).bind λx=>kx x<|.int 7).bind λy=>jJ y<|.int 2).bind λy=>R.ok [y]).bind λQ=>R.ok<|D.int c::Q).bind ju) S).bind _=_;rw[hc m 0];show(kR ((((((kx (.int<|m.getD 0 0)<|.int 7).bind λy=>jJ y<|.int 2).bind λy=>R.ok [y]).bind λQ=>R.ok<|D.int c::Q).bind ju)) S).bind _=_;rw[vP (by decide)<|by decide];show(kR (((((jJ (.int<|m.getD 0 0/7)<|.int 2).bind λy=>R.ok [y]).bind λQ=>R.ok<|D.int c::Q).bind ju)) S).bind _=_;rw[oG<|by decide,hbb];rfl
 rw[jC<|kj e7<|ar rfl];have Q1:=kQ h.tt;have gB:Gr S (S++[sc c b]):=Gr.app λj=>lu [.int c,.int b] j;have hn:S.length<(S++[sc c b]).length:=by rw[ag];exact bB _
 have mB:Mk (S++[sc c b]) F S.length A:=⟨⟨gB.get h.m0,gB.bnd h.bnd,gB.get h.tt,gB.sf _ Q1 h.st,h.o0⟩,hn,by walk_at "l",by have:=h.o0;lia⟩;have lB:jv b0 S (S++[sc c b]):=gB.lw (by lia);have eB:S++[sc c b]=sx (S++[sc c b]) S.length c b:=(rR S _ _).symm;generalize S++[sc c b]=B at*;generalize S.length=E at*;rw[eB];obtain⟨I,x1,r40,r41,e4⟩:=zT hp hn 7 4 c b (by decide) (by decide);show∃(O:Int) (n:aa Rd) (S':iZ) (t7 z o G s:j3),iO _ _ [iX<|m.map .int,s1,iW f,iX<|C.map D.str,ba F,iW T,iW c,ba E,s8,s9,kr,mH] (sx B E c b)=_/\_;rw[jC<|kj (lg (iV (d:=.int<|T+1) rfl) (e4 _ rfl) (w:=.int<|T+1+I) rfl)<|ar rfl];obtain⟨r9,x2,r90,r91,e9⟩:=zT hp hn 7 9 x1 b (by decide) (by decide);have far:∃(t U:Int),T+1<=t/\t<=T+3900/\jr (o6 tB<|z2 jm (zZ Zp<|iL (zV 7)<|iL (zD<|iP 9) iY)<|zD<|iP 1) (i4 5<|z2 jV (zD<|dV 5)<|zZ Zp<|iL (zV 7)<|iL (zD<|iP 3000) iY) jA [iX<|m.map .int,s1,iW f,iX<|C.map D.str,ba F,iW<|T+1+I,iW c,ba E,s8,s9,kr,mH] (sx B E x1 b)=.nx [iX<|m.map .int,s1,iW f,iX<|C.map D.str,ba F,iW t,iW c,ba E,s8,s9,kr,mH] (sx B E U b):=by
  have o:o6 tB (z2 jm (zZ Zp<|iL (zV 7)<|iL (zD<|iP 9) iY)<|zD<|iP 1) [iX<|m.map .int,s1,iW f,iX<|C.map D.str,ba F,iW<|T+1+I,iW c,ba E,s8,s9,kr,mH] (sx B E x1 b)=.ok (decide<|r9=1) (sx B E x2 b):=xV (lg (e9 _ rfl) (iV (d:=.int 1) rfl) (w:=.bl<|decide<|r9=1) rfl) rfl;by_cases h9:r9=1
  .rw[aR h9]at o;obtain⟨r3,U,r30,r31,e3⟩:=zT hp hn 7 3000 x2 b (by decide) (by decide);refine⟨T+1+I+r3,U,by omega,by omega,?_⟩;rw[nq o,kj (lg (iV (d:=.int<|T+1+I) rfl) (e3 _ rfl) (w:=.int<|T+1+I+r3) rfl)<|ar rfl];rfl
  .rw[aG h9]at o;exact⟨T+1+I,x2,by omega,by omega,(tf o).trans rfl⟩
 obtain⟨t,U,T20,T21,ef⟩:=far;show∃(O:Int) (n:aa Rd) (S':iZ) (t7 z o G s:j3),iO _ _ [iX<|m.map .int,s1,iW f,iX<|C.map D.str,ba F,iW<|T+1+I,iW c,ba E,s8,s9,kr,mH] (sx B E x1 b)=_/\_;rw[jC ef];obtain⟨q,N,XU,XW,e8⟩:=zT hp hn 7 12 U b (by decide) (by decide);rw[jC<|kj (e8 _ rfl)<|ar rfl];show∃(O:Int) (n:aa Rd) (S':iZ) (t7 z o G s:j3),iO _ _ [iX<|m.map .int,s1,iW f,iX<|C.map D.str,ba F,iW t,iW c,ba E,iW q,s9,kr,mH] (sx B E N b)=_/\_;have Hy:∀r∈A,r.t<t:=λr J=>by have:=ht r J;omega
 have Uh:∃(u:Int) (l:aa Rd) (M:iZ) (P:Int) (o:j3),jr (qt<|sL (b1 tB<|d2 jm (dV 8)<|iP 11)<|b1 tB<|d2 mQ (dA l7<|iK (dV 4) iQ)<|iP 50) (k8 (λρ=>((iK (iP 9) iQ) ρ).bind qT) (hV 9)<|tU a Fc Zp H) jA [iX<|m.map .int,s1,iW f,iX<|C.map D.str,ba F,iW t,iW c,ba E,iW q,s9,kr,mH] (sx B E N b)
  =.nx [iX<|m.map .int,s1,iW f,iX<|C.map D.str,ba F,iW u,iW c,ba E,iW q,o,kr,mH] (sx M E P b)/\Mk M F E l/\RowW C l/\(∀r∈l,r.t<u)/\t<=u/\u<=t+9/\l.length<=A.length+9/\jv b0 B M:=by
  have z:qt (sL (b1 tB<|d2 jm (dV 8)<|iP 11)<|b1 tB<|d2 mQ (dA l7<|iK (dV 4) iQ)<|iP 50) [iX<|m.map .int,s1,iW f,iX<|C.map D.str,ba F,iW t,iW c,ba E,iW q,s9,kr,mH] (sx B E N b)=.ok (decide (q=11)&&decide ((A.length:Int)<50)) (sx B E N b):=by refine AA ?_;show(sL (b1 tB<|d2 jm (dV 8)<|iP 11)<|b1 tB<|d2 mQ (dA l7<|iK (dV 4) iQ)<|iP 50) [_,_,_,_,mw _<|ba F,_,_,_,kN q,_,_,_]=_;rw[rY (mB.out N b).tt];show(if decide (q=11)=true then R.ok (decide<|(((A.map Rd.d).length:Nat):Int)<50)else R.ok false)=_;rw[aj];cases decide (q=11)<;>rfl
  cases hk:(decide (q=11)&&decide ((A.length:Int)<50))with
  |false=>rw[hk]at z;exact⟨t,A,B,N,s9,(tf z).trans rfl,mB,J,Hy,iJ _,by omega,by omega,.refl _ _⟩
  |true=>rw[hk]at z;obtain⟨u,l,M,P,o,e5,m3,r3,l3,g1,g2,g3,g4⟩:=nine (a:=a) (Fc:=Fc) (Zp:=Zp) hv W hb (iX (m.map .int)) s1 (iW f) c b (iW q) kr mH (qk 0 9) t A B N s9 mB J Hy (by omega) (show t+9<10000000000 by omega) (show A.length+9<9000 by omega);exact⟨u,l,M,P,o,(nq z).trans e5,m3,r3,l3,g1,g2,iF g3,g4⟩
 obtain⟨u,l,M,P,o,en,m3,Q7,Hz,T30,T31,hl3,l3⟩:=Uh;rw[jC en];obtain⟨p,L,PL,hL2,hL3,OC,yQ⟩:=YX W q XU XW;rw[jC<|kj (iV (d:=.lst<|p.map D.int) OC)<|ar rfl];obtain⟨L',pL,uL,eL⟩:=Y4 L (by omega) PL;have it:((jt<|λρ=>((jt<|kW (λρ=>((dV 10) ρ).bind jT) 1 [3] (gV 0) (λ_=>.ok true)<|d2 jq (dV 1)<|dV 0) ρ).bind xE) (j6 [iX<|m.map .int,s1,iW f,iX<|C.map D.str,ba F,iW u,iW c,ba E,iW q,o,iX<|p.map D.int,mH])).bind jT=.ok (L'.map D.str):=by
  have cp:∀(p:lJ) (L:jy),p.map (λi=>jq (.lst<|C.map D.str)<|.int i)=L.map (λw=>R.ok<|D.str w)->mP (gV 0) (λ_=>R.ok true) (d2 jq (dV 1)<|dV 0) [.no,kg<|C.map D.str] (p.map D.int)=some (L.map D.str):=by
   intro p;induction p with
   |nil=>intro L h;cases L with|nil=>rfl|cons _ _=>cases h
   |cons i p ih=>
    intro L h;cases L with
    |nil=>cases h
    |cons w L=>rw[aD,aD,List.cons.injEq]at h;rw[aD,aD];unfold mP;show((rN<|jq (.lst<|C.map D.str)<|.int i).bind λv=>(mP (gV 0) (λ_=>R.ok true) (d2 jq (dV 1)<|dV 0) [.no,kg<|C.map D.str]<|p.map D.int).bind λvs=>some<|v::vs)=_;rw[h.1,ih L h.2];rfl
  have ixl:p.length<=3:=by have:=bG List.length yQ;rw[aj,aj]at this;omega
  have hd:kW (λρ=>((dV 10) ρ).bind jT) 1 [3] (gV 0) (λ_=>.ok true) (d2 jq (dV 1)<|dV 0) (j6 [iX<|m.map .int,s1,iW f,iX<|C.map D.str,ba F,iW u,iW c,ba E,iW q,o,iX<|p.map D.int,mH])=.ok (L.map D.str):=by show(if(p.map D.int).length<=sizeLine then vG (mP (gV 0) (λ_=>R.ok true) (d2 jq (dV 1)<|dV 0) [.no,kg<|C.map D.str]<|p.map D.int)else .bad)=_;rw[aq<|by rw[aj];exact dD (rT<|by omega),cp p L yQ];rfl
  rw[rr (X:=L'.map D.str)<|by rw[rr hd];exact eL];rfl
 obtain⟨Y,B4,x6,s,OD,m4,Q8,Rc,QG,l4⟩:=three (a:=a) (Fc:=Fc) (Zp:=Zp) hv W hb (iX (m.map .int)) s1 (iW f) (iX (C.map D.str)) u (by omega) (by omega) (iW c) b (iW q) o (iX (p.map D.int)) L' l M P mH m3 Q7 (λw hw=>hL2 w (pL.mem_iff.mp hw)) uL (λr J=>by have:=Hz r J;omega) (λr J e=>by have:=Hz r J;omega) (by rw[pL.length_eq];omega);refine⟨u,Y,sx B4 E x6 b,ba E,iW q,o,iX (p.map D.int),s,?_,m4.out x6 b,Q8,Rc,by omega,by omega,by rw[QG,pL.length_eq];omega,((lB.trans l3).trans l4).trans (jv.sx (by omega) x6 b)⟩;show k8 _ _ _ [iX<|m.map .int,s1,iW f,iX<|C.map D.str,ba F,iW u,iW c,ba E,iW q,o,iX<|p.map D.int,mH] (sx M E P b)=_;exact(qW it).trans OD
theorem Ks(N:Pk Zp)(hv:Vl H)(O:Cl Fc)(W:W3 C)(P:b0<=F)(o:lJ)(s1)(most)(hm:most<=1000):∀(p:lJ) (T:Int) (A:aa Rd) (S:iZ) (q l k j f d:j3),Out S F (A.map Rd.d)->RowW C A->(∀r∈A,r.t<=T)->0<=T->T+p.length*4000<9000000000->(A.length:Int)<=most+12->
 ∃(i:aa Rd) (S':iZ) (t5 t6 z y w n m:j3),ki (hV 6) (sJ a Fc Zp H) (p.map D.int) [iX<|o.map .int,s1,iW most,iX<|C.map D.str,ba F,iW T,q,l,k,j,f,d] S
  =.nx [iX<|o.map .int,s1,iW most,iX<|C.map D.str,ba F,t5,t6,z,y,w,n,m] S'/\Out S' F (i.map Rd.d)/\RowW C i/\(i.length:Int)<=most+12/\jv b0 S S'
 |[],T,A,S,q,l,k,j,f,d,h,t,_,_,_,M=>⟨A,S,_,q,l,k,j,f,d,rfl,h,t,M,.refl _ _⟩
 |c::p,T,A,S,q,l,k,j,f,d,h,t,ht,h0,Q,M=>by
  rw[au]at Q;have st:∀x:kT,m5 (sJ a Fc Zp H [iX<|o.map .int,s1,iW most,iX<|C.map D.str,ba F,iW T,iW c,l,k,j,f,d] S) (ki (hV 6) (sJ a Fc Zp H)<|p.map D.int)=x->ki (hV 6) (sJ a Fc Zp H) ((c::p).map D.int) [iX<|o.map .int,s1,iW most,iX<|C.map D.str,ba F,iW T,q,l,k,j,f,d] S=x:=λx hx=>hx;rcases Yj (b0:=b0) (a:=a) N hv O W P o s1 most T c h t ht h0 (by lia) (by lia) l k j f d with⟨_,e⟩|⟨hle,T',i,S',z,y,w,n,m,e,h',J,G,g1,g2,g3,l1⟩;.exact⟨A,S,_,_,l,k,j,f,d,st _ (by rw[e];rfl),h,t,M,.refl _ _⟩
  .obtain⟨s,S2,u5,Y,V,U,R,v,u,e2,h2,I,L,l2⟩:=Ks N hv O W P o s1 most hm p T' i S' (iW c) z y w n m h' J G (by walk_at "l") (by push_cast at Q;lia) (by lia);exact⟨s,S2,u5,Y,V,U,R,v,u,st _ (by rw[e];exact e2),h2,I,L,l1.trans l2⟩
def Nm(f)(c:aa r)(lo hi):∃d:aa r,cutD (c.map f) lo hi=d.map f/\d.length<=c.length:=by
 unfold cutD;refine⟨?_,?_,?_⟩
 rotate_left
 .rw[aj,<-List.map_drop,<-List.map_take]
 .rw[cX,cY];lia
def Tr(y:Pk Zp)(hv:Vl H)(n:Cl Fc)(W:W3 C)(f:lJ)(z:f.length<=63)(first c:Int)(G:c<=1000/\0<=c)(q:S[0]?=some .mk)(o:kS S):
    ∃(A:aa Rd) (S':iZ),RowW C A/\(A.length:Int)<=c+12/\Gr S S'/\jc (zg a Fc Zp H S.length (jR 12 [.d<|.lst<|f.map .int,.d<|.int first,.d<|.int c,.d<|.lst<|C.map D.str]) S)=.ok (.d<|.lst<|A.map Rd.d) S':=by
 have J:=kQ q;have gr:Gr S (S++[.li []]):=Gr.app λ_=>rfl;have L:Out (S++[.li []]) S.length (([]:aa Rd).map Rd.d):=⟨gr.get q,gr.bnd o,nF S _,oH (o _<|af _) rfl,J⟩;obtain⟨i,N,lc⟩:=Nm D.int f (some first) (some<|first+60);have m:=da (f.getD 1 0) (show(10^9 - 10^6:Int)≠0 by decide);have t:=c0 (f.getD 1 0) (show(0:Int)<10^9 - 10^6 by decide);generalize hT:f.getD 1 0%(10^9 - 10^6)=T at m t;have j:T+(i.length:Int)*4000<9000000000:=by
  have M:(i.length:Int)<=63:=by lia
  lia
 obtain⟨A,k,Y,V,U,Q,P,s,r,O,p,w,I,v⟩:=Ks (b0:=S.length) (a:=a) y hv n W (af _) f (iW first) c G.1 i T [] (S++[.li []]) none none none none none none L ⟨⟨(λ_ h=>nomatch h),List.Pairwise.nil,(λ_ h=>nomatch h)⟩,λ_ h=>nomatch h⟩ (λ_ h=>nomatch h) m j (by simp;lia);have u:jv S.length k (k.set S.length .no):=jv.set (af _) λ_ _=>rfl;have l:=((gr.lw<|af _).trans v).trans u;refine⟨A,k.set S.length .no,w,I,⟨l.len,l.pre,l.sf,l.bnd⟩,?_⟩;unfold zg;show jc (iO (i4 4 _) _ [iX<|f.map .int,iW first,iW c,iX<|C.map D.str,none,none,none,none,none,none,none,none] S)=_;rw[jC<|kj (show kY (λρ=>(iQ ρ).bind ju) _ S=.ok (.loc S.length) (S++[.li []])from rfl)<|ar rfl];rw[jC (kj (iV (d:=.int T) (by show((Fc [.lst (f.map .int),.int (1:Nat)]).bind λx=>jJ x (.int (10^9 - 10^6)))=_;rw[n f 1];show jJ (.int<|f.getD 1 0) (.int<|10^9 - 10^6)=_;rw[oG (by decide),hT])) (ar rfl))]
 show jc (iO (k8 _ _ _) _ [iX<|f.map .int,iW first,iW c,iX<|C.map D.str,ba S.length,iW T,none,none,none,none,none,none]<|S++[.li []])=_;rw[jC<|(qW (ds:=i.map D.int)<|by show R.ok (cutD (f.map D.int) (some first)<|some<|first+60)=_;rw[N]).trans O]
 rw[v3 rfl p.tt (af _) p.st];show jc (jo _ [iX<|f.map .int,iW first,iW c,iX<|C.map D.str,(if S.length=S.length then iX (A.map Rd.d)else _),_,_,_,_,_,_,_] _)=_;rw[aq rfl,y_ret<|iV (d:=.lst<|A.map Rd.d) rfl];rfl
def Tq(i:Pk Zp)(hv:Vl H)(k:Cl Fc)(W:W3 C)(d:lJ)(f:d.length<=63)(first c:Int)(j:c<=1000/\0<=c)(m:S[0]?=some .mk)(l:kS S):
    ∃(A:aa Rd) (S':iZ),RowOk A/\(A.length:Int)<=c+12/\Gr S S'/\jc (zg a Fc Zp H S.length (jR 12 [.d<|.lst<|d.map .int,.d<|.int first,.d<|.int c,.d<|.lst<|C.map D.str]) S)=.ok (.d<|.lst<|A.map Rd.d) S':=
 let⟨A,S',h,r⟩:=Tr i hv k W d f first c j m l;⟨A,S',h.toRowOk,r⟩
end
variable{a:Ad}
noncomputable def ur:aa iS:=["a","bb","ab","ba","c","b","aa","d","e","f","g","h"]
structure uW(ws:jy)(R:nC):Prop where
 ok:∀r∈R,PyData.strOk r.1=true/\Gd ws Cw 4 19 r.2
 nm:∀r∈R,r.1∈ur
section
variable{m:jh}{i:jg}{f b0:Nat}{e:jy}{S:iZ}
noncomputable def oW:aa D:=[.str "a",.str "bb",.str "ab",.str "ba",.str "c",.str "b",.str "aa",.str "d",.str "e",.str "f",.str "g",.str "h"]
def Uj:∀w∈ur,PyData.strOk w=true:=by decide+kernel
def Ui(k:Nat)(h:k<12):∃c:iS,c∈ur/\jq (.lst oW) (.int k)=.ok (.str c):=by have j:k<ur.length:=h;refine⟨ur[k],bU _,?_⟩;show(match L2.jO oW (k:Int)with|some d=>R.ok d|none=>.bad)=_;rw[L2.ry<|show oW[k]?=some (.str ur[k])by rw[show oW=ur.map D.str from rfl,aC,ax j];rfl]
theorem Ku(Y:Gv m e Cw 4 19)(N:Cl i)(hb:b0<=f)(l:lJ)(first:Nat)(s2):∀(q:lC) (R:nC) (S:iZ) (z o:j3),Out S f (R.map jB)->uW e R->(∀k∈q,k<12)->R.length+q.length<1000->
 ∃(U:nC) (S':iZ) (G F:j3),ki (hV 6) (ve a i m) (q.map λ(k:Nat)=>D.int (k:Int)) [iX<|l.map .int,iW first,s2,iX<|e.map D.str,iX oW,ba f,z,o] S
  =.nx [iX<|l.map .int,iW first,s2,iX<|e.map D.str,iX oW,ba f,G,F] S'/\Out S' f (U.map jB)/\uW e U/\U.length=R.length+q.length/\jv b0 S S'
 |[],R,S,z,o,h,C,_,_=>⟨R,S,z,o,rfl,h,C,rfl,.refl _ _⟩
 |k::q,R,S,z,o,h,C,V,hz=>by
  rw[au]at hz;obtain⟨p,v,T⟩:=Ui k (V k<|.head _);generalize M:l.getD (first+k) 0=c;generalize O:l.getD 0 0/7%2=b;have e7:kY (λρ=>((iK (dA i<|iK (dV 0)<|iK (d2 jV (dV 1)<|dV 6) iQ)<|iK (d2 jJ (d2 kx (dA i<|iK (dV 0)<|iK (iP 0) iQ)<|iP 7)<|iP 2) iQ) ρ).bind ju) [iX<|l.map .int,iW first,s2,iX<|e.map D.str,iX oW,ba f,iW k,o] S=.ok (.loc S.length) (S++[sc c b]):=by show(kR (((i [.lst<|l.map .int,.int<|(first:Int)+(k:Int)]).bind λx=>((((i [.lst<|l.map .int,.int (0:Nat)]).bind λx=>kx x<|.int 7).bind λy=>jJ y<|.int 2).bind λy=>P2.R.ok [y]).bind λs=>P2.R.ok<|x::s).bind ju) S).bind _=_;rw[show((first:Int)+(k:Int))=((first+k:Nat):Int)from rfl,N l<|first+k,N l 0,M];show(kR ((((((kx (.int<|l.getD 0 0)<|.int 7).bind λy=>jJ y<|.int 2).bind λy=>P2.R.ok [y]).bind λs=>P2.R.ok<|D.int c::s).bind ju)) S).bind _=_;rw[vP (by decide)<|by decide];show(kR (((((jJ (.int<|l.getD 0 0/7)<|.int 2).bind λy=>P2.R.ok [y]).bind λs=>P2.R.ok<|D.int c::s).bind ju)) S).bind _=_;rw[oG<|by decide,O];rfl
  have J:=kQ h.tt;have hn:S.length<(S++[sc c b]).length:=by rw[ag];exact bB _
  have gB:Gr S (S++[sc c b]):=Gr.app λj=>lu [.int c,.int b] j;obtain⟨t,n,gd,et⟩:=Y (S:=S++[sc c b]) hn c b;rw[show sx (S++[sc c b]) S.length c b=S++[sc c b]from rR S _ _,show sx (S++[sc c b]) S.length n b=S++[sc n b]from rR S _ _]at et;have gC:Gr S (S++[sc n b]):=Gr.app λj=>lu [.int n,.int b] j;have u:Out (S++[sc n b]) f (R.map jB):=⟨gC.get h.m0,gC.bnd h.bnd,gC.get h.tt,gC.sf _ J h.st,h.o0⟩
  have oD:Out ((S++[sc n b]).set f (.li<|((R++[(p,t)]).map jB).map .d)) f ((R++[(p,t)]).map jB):=
   ⟨by have:=h.o0;rw[ao<|by walk_at "l"];exact u.m0,λj A=>mu (u.bnd j<|by rw[aN]at A;exact A)<|lu _ _,aB<|kQ u.tt,mu u.st<|lu _ _,h.o0⟩
  have Q:uW e (R++[(p,t)]):=⟨λr I=>by
   rcases aY.mp I with w|w;· exact C.ok r w
   · rw[aQ]at w;subst w;exact⟨Uj _ v,gd⟩,λr I=>by
   rcases aY.mp I with w|w;· exact C.nm r w
   · rw[aQ]at w;subst w;exact v⟩
  obtain⟨R2,S2,G,F,e2,h2,P,L,l2⟩:=Ku Y N hb l first s2 q (R++[(p,t)]) _ (iW k) (ba S.length) oD Q (λj A=>V j (.tail _ A)) (by rw[ag];simp;lia)
  refine⟨R2,S2,G,F,?_,h2,P,by rw[L,ag,au];simp;lia,((gC.lw<|by lia).trans (jv.vR hb)).trans l2⟩;have st:ve a i m [iX<|l.map .int,iW first,s2,iX<|e.map D.str,iX oW,ba f,iW k,o] S=.nx [iX<|l.map .int,iW first,s2,iX<|e.map D.str,iX oW,ba f,iW k,ba S.length] ((S++[sc n b]).set f (.li<|((R++[(p,t)]).map jB).map .d)):=by unfold ve;rw[jC<|kj e7<|ar rfl];have oB:(S++[sc c b])[f]?=some (.li<|(R.map jB).map .d):=gB.get h.tt;show nj 5 _ [iX<|l.map .int,iW first,s2,iX<|e.map D.str,iX oW,ba f,iW k,ba S.length] (S++[sc c b])=_;rw[sZ rfl oB (lZ [.str p,t.d] (i3 (iV T)<|i3 (lP (i3 (jM rfl)<|i3 (iV (d:=.lst<|e.map D.str) rfl) jG) et) jG) (d:=jB (p,t)) rfl) u.tt<|by rw[aj,aj];lia];rw[bj,bj];rfl
  show m5 (ve a i m [iX<|l.map .int,iW first,s2,iX<|e.map D.str,iX oW,ba f,iW k,o] S) (ki (hV 6) (ve a i m)<|q.map λ(k:Nat)=>D.int (k:Int))=_;rw[st];exact e2
def Ts(v:Gv m e Cw 4 19)(w:Cl i)(j:lJ)(first c:Nat)(G:c<=12)(q:S[0]?=some .mk)(o:kS S):
    ∃(R:nC) (S':iZ),uW e R/\R.length=c/\Gr S S'/\jc (Cn a i m S.length (jR 8 [.d<|.lst<|j.map .int,.d<|.int first,.d<|.int c,.d<|.lst<|e.map D.str]) S)=.ok (.d<|.lst<|R.map jB) S':=by
 have x:=kQ q;have gr:Gr S (S++[.li []]):=Gr.app λ_=>rfl;have z:Out (S++[.li []]) S.length (([]:aa uU).map jB):=⟨gr.get q,gr.bnd o,nF S _,oH (o _<|af _) rfl,x⟩;obtain⟨R,n,F,C,A,p,y,t,s⟩:=Ku (b0:=S.length) (a:=a) v w (af _) j first (some (.d (.int c))) (List.range c) [] (S++[.li []]) none none z ⟨(λ_ h=>nomatch h),(λ_ h=>nomatch h)⟩ (λk u=>by have:=bS.mp u;walk_at "l") (by simp;walk_at "l")
 have r:jv S.length n (n.set S.length .no):=jv.set (af _) λ_ _=>rfl;have l:=((gr.lw<|af _).trans s).trans r;refine⟨R,n.set S.length .no,y,by simpa using t,⟨l.len,l.pre,l.sf,l.bnd⟩,?_⟩;unfold Cn;rw[jC<|kj (iV (d:=.lst oW) rfl)<|ar rfl];generalize oW=nm at*;show jc (iO (i4 5 _) _ [some<|.d<|.lst<|j.map .int,some<|.d<|.int first,some<|.d<|.int c,some<|.d<|.lst<|e.map D.str,some<|.d<|.lst nm,none,none,none] S)=_;rw[jC<|kj (show kY (λρ=>(iQ ρ).bind ju) _ S=.ok (.loc S.length) (S++[.li []])from rfl)<|ar rfl];rw[show List.set [some<|Z.d<|.lst<|j.map .int,some<|.d<|.int first,some<|.d<|.int c,some<|.d<|.lst<|e.map D.str,some<|.d<|.lst nm,none,none,none] 5 (some<|Z.loc S.length)=[some<|.d<|.lst<|j.map .int,some<|.d<|.int first,some<|.d<|.int c,some<|.d<|.lst<|e.map D.str,some<|.d<|.lst nm,some<|.loc S.length,none,none]from rfl];rw[jC<|(qW (ds:=(List.range c).map λ(k:Nat)=>D.int (k:Int))<|by rw[show(iK (dV 2) iQ) (j6 [some<|.d<|.lst<|j.map .int,some<|.d<|.int first,some<|.d<|.int c,some<|.d<|.lst<|e.map D.str,some<|.d<|.lst nm,some<|.loc S.length,none,none])=.ok [.int (c:Int)]from rfl,Kb,Kf (by simp)<|by omega,Kl,bh];rfl).trans A]
 rw[v3 rfl p.tt (af _) p.st];show jc (jo _ [some<|.d<|.lst<|j.map .int,some<|.d<|.int first,some<|.d<|.int c,some<|.d<|.lst<|e.map D.str,some<|.d<|.lst nm,(if S.length=S.length then some (.d<|.lst<|R.map jB)else _),_,_] _)=_;rw[aq rfl,y_ret<|iV (d:=.lst<|R.map jB) rfl];rfl
end
variable{a:Ad}{ak:pq}
def R5(f:nC):∀d c,f.foldl (j5 ak) (d,c)=(d++(judge ak f c).1,(judge ak f c).2):=by
 induction f with
 |nil=>intro d c;show(d,c)=(d++[],c);rw[aU]
 |cons h R i=>
  intro d c;unfold judge;rw[eA,eA];have k:j5 ak (d,c) h=(d++(j5 ak ([],c) h).1,(j5 ak ([],c) h).2):=by unfold j5;dsimp only;rw[cz]
  rw[k,i];have j:=i (j5 ak ([],c) h).1 (j5 ak ([],c) h).2;rw[show((j5 ak ([],c) h).1,(j5 ak ([],c) h).2)=j5 ak ([],c) h from rfl]at j;rw[j,aT]
def R7(R1 R2 row):judge ak (R1++R2) row=((judge ak R1 row).1++(judge ak R2 (judge ak R1 row).2).1,(judge ak R2 (judge ak R1 row).2).2):=by show(R1++R2).foldl (j5 ak) ([],row)=_;rw[gk];exact R5 R2 (judge ak R1 row).1 (judge ak R1 row).2
def HW(ru R row):judge ak (ru::R) row=((j5 ak ([],row) ru).1++(judge ak R (j5 ak ([],row) ru).2).1,(judge ak R (j5 ak ([],row) ru).2).2):=R7 [ru] R row
abbrev Mark:=Rd×iS×aa Kt
def rM(g:Mark):D:=.tup [.str g.1.m,.int g.1.t,.str g.2.1,.lst<|g.2.2.map nY]
def stay(ak:pq):aa uU->aa Rd->Rd->i6
 |[],_,_=>true
 |ru::R,c,r=>!hit c (ak ru.2) ru.2 r&&stay ak R (j5 ak ([],c) ru).2 r
theorem HY:∀(R:nC) (row:aa Rd),(judge ak R row).2=row.filter (stay ak R row)
 |[],row=>(List.filter_eq_self.mpr λ_ _=>rfl).symm
 |ru::R,row=>by rw[HW];show(judge ak R (j5 ak ([],row) ru).2).2=_;rw[HY R];show((row.filter λr=>!hit row (ak ru.2) ru.2 r).filter (stay ak R _))=_;rw[List.filter_filter];refine List.filter_congr λr _=>?_;show(stay ak R _ r&&!hit row (ak ru.2) ru.2 r)=(!hit row (ak ru.2) ru.2 r&&stay ak R _ r);rw[Bool.and_comm]
theorem HX:∀(R:nC) (row:aa Rd),∃G:aa Mark,(judge ak R row).1=G.map rM/\(∀g∈G,g.1∈row/\(∃c∈R,g.2.1=c.1)/\∀k∈g.2.2,∃s∈row,k=jN s)/\(∀r∈row,(∃g∈G,g.1=r)↔stay ak R row r=false)/\(row.Nodup->(G.map (·.1)).Nodup)/\G.length<=row.length
 |[],row=>⟨[],rfl,(λ_ h=>nomatch h),(λr _=>⟨(λ⟨_,h,_⟩=>nomatch h),(λh=>by cases h)⟩),(λ_=>List.Pairwise.nil),bI _⟩
 |c::R,row=>by
  obtain⟨G,e,q,D,C,A⟩:=HX R (j5 ak ([],row) c).2;have sub:∀r∈(j5 ak ([],row) c).2,r∈row:=λr i=>(bF.mp i).1;refine⟨(row.filter<|hit row (ak c.2) c.2).map (λr=>(r,c.1,ktL<|((ak c.2).filterMap (see row r)).map jN))++G,?_,λg d=>?_,λr i=>?_,λnd=>?_,?_⟩
  .rw[HW,e,bj,bh];rfl
  .rcases aY.mp d with d|d
   .obtain⟨r,i,rfl⟩:=aH.mp d;refine⟨(bF.mp i).1,⟨c,.head _,rfl⟩,λk o=>?_⟩;obtain⟨s,f,rfl⟩:=aH.mp ((Sv _ k).mp o);obtain⟨x,_,m⟩:=aZ.mp f;exact⟨s,D5 m,rfl⟩
   .obtain⟨j,⟨t,l,v⟩,u⟩:=q g d;exact⟨sub _ j,⟨t,.tail _ l,v⟩,λk o=>let⟨s,f,e⟩:=u k o;⟨s,sub s f,e⟩⟩
  .show _↔(!hit row (ak c.2) c.2 r&&stay ak R (j5 ak ([],row) c).2 r)=false;cases p:hit row (ak c.2) c.2 r with
   |true=>refine⟨λ_=>rfl,λ_=>⟨_,aY.mpr<|.inl<|aH.mpr ⟨r,bF.mpr ⟨i,p⟩,rfl⟩,rfl⟩⟩
   |false=>
    have n:r∈(j5 ak ([],row) c).2:=bF.mpr ⟨i,by rw[p];rfl⟩;show _↔stay ak R (j5 ak ([],row) c).2 r=false;rw[<-D r n];constructor
    .rintro ⟨g,d,rfl⟩
     rcases aY.mp d with d|d
     .obtain⟨s,f,rfl⟩:=aH.mp d;have:=(bF.mp f).2;rw[show hit row (ak c.2) c.2 s=false from p]at this;exact absurd this av
     .exact⟨g,d,rfl⟩
    .rintro ⟨g,d,rfl⟩
     exact⟨g,aY.mpr<|.inr d,rfl⟩
  .rw[bj,bh];refine eY.mpr ⟨?_,C<|nd.filter _,λx m y w e=>?_⟩
   .rw[show((λg:Mark=>g.1)∘λr=>((r,c.1,ktL<|((ak c.2).filterMap (see row r)).map jN):Mark))=id from rfl,List.map_id];exact nd.filter _
   .obtain⟨s,f,rfl⟩:=aH.mp m;obtain⟨g,d,rfl⟩:=aH.mp w;have j:=(bF.mp (q g d).1).2;have l:=(bF.mp f).2;rw[<-show s=g.1 from e,l]at j;exact absurd j (by decide)
  .rw[ag,aj];have:=Aj (hit row (ak c.2) c.2) row;have z:G.length<=(row.filter λr=>!hit row (ak c.2) c.2 r).length:=A;omega
def UC{c:rp}(h:∀k∈c,PyData.strOk k.2=true):lM (c.map nY)=true:=zM λk d=>by show(PyData.strOk k.2&&(true&&true))=true;rw[h k d];rfl
def UD{g:Mark}(f:PyData.strOk g.1.m=true)(d:PyData.strOk g.2.1=true)(c:∀k∈g.2.2,PyData.strOk k.2=true):kM (rM g)=true/\kX (rM g)<=5:=by
 constructor
 .show(PyData.strOk g.1.m&&(true&&(PyData.strOk g.2.1&&(lM (g.2.2.map nY)&&true))))=true;rw[f,d,UC c];rfl
 .have:m9 (g.2.2.map nY)<=1:=yO λk _=>af _;show max 0 (max 0<|max 0<|max (m9 (g.2.2.map nY)+1) 0)+1<=5;omega
def Dn{r:Rd}(h:PyData.strOk r.m=true):kM r.d=true/\kX r.d<=5:=by
 constructor
 .show(PyData.strOk r.m&&(true&&((true&&(true&&true))&&true)))=true;rw[h];rfl
 .show 2<=5;decide
def IK{d:Type}{f:d->D}{l:aa d}(h:∀x∈l,kM (f x)=true/\kX (f x)<=5):kM (.lst<|l.map f)=true/\kX (.lst<|l.map f)<=60:=by have:m9 (l.map f)<=5:=yO λx c=>(h x c).2;exact⟨zM λx c=>(h x c).1,by show m9 (l.map f)+1<=60;walk_at "l"⟩
variable{a:Ad}{ak:pq}
abbrev uV(R:nC):Prop:=∀ru∈R,Cw ru.2/\ru.2.dep<=4/\ru.2.parts.length<=19
abbrev yn(row:aa Rd):Prop:=(∀r∈row,nB r)/\row.length<10000
def wm(c:jg)(t:T7)(A:mC):Prop:=c [t.d]=.ok (.lst<|A.map Ask.d)/\A.length<=3*t.parts.length+1/\∀x,x∈A↔x=.here\/x∈t.asks
open Classical in
def tP(c:jg)(t:T7):aa Ask:=if h:∃A,wm c t A then h.choose else[]
def Fv{t}(h:∃A,wm Fa t A):wm Fa t (tP Fa t):=by
 unfold tP
 grind
def Yn(k:∀t:T7,t.dep<8->t.parts.length<64->∃A,wm Fa t A){R}(h:uV R):∀c∈R,Fa [c.2.d]=.ok (.lst ((tP Fa c.2).map Ask.d))/\tG (tP Fa c.2) c.2:=λc j=>by obtain⟨l,o,n⟩:=h c j;obtain⟨f,m,d⟩:=Fv (k c.2 (by walk_at "l")<|by walk_at "l");exact⟨f,l,by walk_at "l",(d _).mpr (.inl rfl),λx i=>(d x).mpr (.inr i),by lia⟩
end WM
namespace nD
open PySem L2 P2 WP WM
variable{a:Ad}{C H:jg}{M I O N K:jh}{S:iZ}{T j b:Nat}{all:nC}
def kl{q:lI}{u w:ji}{ρ:jk}(e:autoParam (q (j6 ρ)=.ok false) aZ8):iO (jr (zB q) u jA) w ρ S=w ρ S:=lX (lY e)
def pK{q:lI}{u w:ji}{ρ:jk}{z S2}(h:u ρ S=.rt z S2)(e:autoParam (q (j6 ρ)=.ok true) aZ8):iO (jr (zB q) u jA) w ρ S=.rt z S2:=v5 (lY e) h
def kB{i f}{w:ji}{ρ:jk}{z S1}(e:f ρ S=.ok z S1)(c:i<ρ.length:=by exact ar rfl):iO (i4 i f) w ρ S=w (ρ.set i<|some z) S1:=jC (kj e c)
def zw{n:Nat}(h:n<b):Kp b (ba n):=λm d c=>by show(if n=m then _ else some (Z.loc n))=_;rw[aA<|by omega]
theorem HS(J:Jd a C H M I O N K){c:pq}(Q:b<=T)(G:j<b){s0 s1:j3}(L:Kp b s0/\Kp b s1)(A:∀q∈all,H [q.2.d]=.ok (.lst<|(c q.2).map Ask.d)/\tG (c q.2) q.2):∀(m k:Nat) (S:iZ) (told:jD) (row:aa Rd) (p o n l i f:j3),k+m=all.length->S[j]?=some (.li<|(all.map jB).map .d)->(∀r∈row,nB r)->Out S T told->told.length+row.length<10000->
 ∃S' t4 x w v u t,oT j (hV 4) (WM.qH a C H M I O N K b) m k [s0,s1,ba T,iX<|row.map Rd.d,p,o,n,l,i,f] S
  =.nx [s0,s1,ba T,iX<|((all.drop k).foldl (j5 c) (told,row)).2.map Rd.d,t4,x,w,v,u,t] S'/\Out S' T ((all.drop k).foldl (j5 c) (told,row)).1/\jv b S S'
 |0,k,S,told,row,p,o,n,l,i,f,hk,s,_,h,_=>by rw[cm<|by omega];refine⟨S,p,o,n,l,i,f,?_,h,.refl _ _⟩;unfold oT;rw[s];exact aq (by rw[aj,aj];omega)
 |m+1,k,S,told,row,p,o,n,l,i,f,hk,s,d,h,hz=>by
  have y:k<all.length:=by omega
  have P:all[k]∈all:=bU y;obtain⟨S1,x,w,v,u,t,e1,h1,F⟩:=RV J all[k] (A _ P).1 (A _ P).2 d h Q hz L o n l i f;have z:(j5 c (told,row) all[k]).1.length+(j5 c (told,row) all[k]).2.length<10000:=by
   show(told++(row.filter<|hit row (c all[k].2) all[k].2).map _).length+(row.filter λr=>!hit row (c all[k].2) all[k].2 r).length<10000;have:=Aj (hit row (c all[k].2) all[k].2) row;rw[ag,aj]
   lia
  obtain⟨S2,u4,u5,Y,V,U,R,e2,h2,l2⟩:=HS J Q G L A m (k+1) S1 (j5 c (told,row) all[k]).1 (j5 c (told,row) all[k]).2 (iM<|jB all[k]) x w v u t (by omega) ((F.pre j G).trans s) (λr hr=>d r (bF.mp hr).1) h1 z;rw[bV y];refine⟨S2,u4,u5,Y,V,U,R,?_,h2,F.trans l2⟩;unfold oT;rw[s];have e:((all.map jB).map Z.d)[k]?=iM (jB all[k]):=by simp[y]
  dsimp only;rw[e];show m5 (WM.qH a C H M I O N K b [s0,s1,ba T,iX<|row.map Rd.d,iM<|jB all[k],o,n,l,i,f] S) (oT j (hV 4) (WM.qH a C H M I O N K b) m<|k+1)=_;rw[e1];exact e2
theorem I9:∀c:aa Rd,qR (c.map Rd.d)=true
 |[]=>rfl
 |r::l=>by show(true&&qR (l.map Rd.d))=true;rw[I9 l];rfl
def Tc(J:Jd a C H M I O N K){n:pq}(c:nC)(h:aa Rd)(Z:∀o∈c,H [o.2.d]=.ok (.lst<|(n o.2).map Ask.d)/\tG (n o.2) o.2)(m:∀r∈h,nB r)(V:h.length<10000)(F:S[0]?=some .mk)(w:kS S){i:Nat}(A:S[i]?=some (.li<|(h.map Rd.d).map .d))(u:S[j]?=some (.li<|(c.map jB).map .d)):
    ∃S',Gr S S'/\jc (BY a C H M I O N K S.length (jR 10 [.loc i,.loc j]) S)=.ok (.d<|.tup [.lst (judge n c h).1,.lst<|(judge n c h).2.map Rd.d]) S':=by
 have Y:=kQ F;have q:=kQ A;have p:=kQ u;have gr:Gr S (S++[.li []]):=Gr.app λ_=>rfl;have hO:Out (S++[.li []]) S.length []:=⟨gr.get F,gr.bnd w,nF S _,oH (w _<|af _) rfl,Y⟩;obtain⟨v,t4,t5,t6,t7,t8,t9,G,t,U⟩:=HS (b:=S.length) J (af _) p (s0:=ba i) (s1:=ba j) ⟨zw q,zw p⟩ Z c.length 0 (S++[.li []]) [] h none none none none none none (Nat.zero_add _) (gr.get u) m hO (by simpa using V);rw[List.drop_zero]at G t;have Q:jv S.length v (v.set S.length .no):=jv.set (af _) λ_ _=>rfl;have l:=((gr.lw<|af _).trans U).trans Q;refine⟨v.set S.length .no,⟨l.len,l.pre,l.sf,l.bnd⟩,?_⟩;unfold BY;rw[kB<|show kY (λρ=>(iQ ρ).bind ju) _ S=.ok (.loc S.length) (S++[.li []])from rfl];have e2:xR (kW (λρ=>((dV 0) ρ).bind jT) 1 [] (gV 0) (λ_=>.ok true)<|dA jj<|iK (iN 0 0)<|iK (iN 0 1)<|iK (dA C<|iK (d2 jq (iN 0 2)<|iP 0)<|iK (d2 jq (iN 0 2)<|iP 1) iQ) iQ) [ba i,ba j,ba S.length,none,none,none,none,none,none,none] (S++[.li []])=.ok (.d<|.lst<|h.map Rd.d) (S++[.li []]):=by
  have ev:vw (S++[.li []]) [ba i,ba j,ba S.length,none,none,none,none,none,none,none]=kg (h.map Rd.d)::vw (S++[.li []]) [ba j,ba S.length,none,none,none,none,none,none,none]:=by unfold vw;rw[aD,rY<|gr.get A]
  unfold xR;rw[ev,wO (f:=Rd.d) (g:=Rd.d) (L:=h) rfl (by lia) λr q=>by have k:=m r q;show((R.ok<|D.str r.m).bind λx=>((R.ok<|D.int r.t).bind λy=>((C [.int r.p,.int r.q]).bind λz=>(R.ok [z])).bind λs=>R.ok<|y::s).bind λP=>R.ok<|x::P).bind jj=_;rw[J.f r.p r.q k.n<|Au k.q<|by decide,Pe k.low];rfl]
  exact aq (I9 h)
 show jc (iO (i4 3 _) _ [ba i,ba j,ba S.length,none,none,none,none,none,none,none]<|S++[.li []])=_;rw[kB e2];show jc (iO (vY _ _ _ _) _ [ba i,ba j,ba S.length,iX<|h.map Rd.d,none,none,none,none,none,none]<|S++[.li []])=_;have e3:vY S.length 1 (hV 4) (nD.qH a C H M I O N K S.length) [ba i,ba j,ba S.length,iX<|h.map Rd.d,none,none,none,none,none,none] (S++[.li []])=oT j (hV 4) (WM.qH a C H M I O N K S.length) c.length 0 [ba i,ba j,ba S.length,iX<|h.map Rd.d,none,none,none,none,none,none] (S++[.li []]):=by unfold vY;show(match(S++[.li []])[j]? with|some (.li s)=>if j<S.length then oT j (hV 4) (nD.qH a C H M I O N K S.length) s.length 0 _ _ else kT.bad|_=>.bad)=_;rw[gr.get u];dsimp only;rw[aq p,aj,aj];rfl
 rw[jC<|e3.trans G,v3 rfl t.tt (af _) t.st];rw[aD,aD,zw q _ _<|af _,zw p _ _<|af _];show jc (jo _ [ba i,ba j,(if S.length=S.length then iX (c.foldl (j5 n) ([],h)).1 else _),iX<|(c.foldl (j5 n) ([],h)).2.map Rd.d,_,_,_,_,_,_] _)=_;rw[aq rfl,y_ret<|iV (d:=.tup [.lst (judge n c h).1,.lst<|(judge n c h).2.map Rd.d]) rfl];rfl
def Th{d}{c:Nat}{A B:D}{S'}(h:d [.loc c,.loc j] S=.ok (.d<|.tup [A,B]) S'):jc (B6 a d b (jR 2 [.loc c,.loc j]) S)=.ok (.d A) S':=by unfold B6;rw[y_ret<|lg (x:=.tup [A,B]) (y:=.int 0) (w:=A) (lP (i3 (jM rfl)<|i3 (jM rfl) jG) h) (iV rfl) rfl];rfl
def Tv{d}{c:Nat}{A B:D}{S'}(h:d [.loc c,.loc j] S=.ok (.d<|.tup [A,B]) S'):jc (B9 a d b (jR 2 [.loc c,.loc j]) S)=.ok (.d B) S':=by unfold B9;rw[y_ret<|lg (x:=.tup [A,B]) (y:=.int 1) (w:=B) (lP (i3 (jM rfl)<|i3 (jM rfl) jG) h) (iV rfl) rfl];rfl
variable{F:jg}
def yI(k l r):(T7.bin k l r).asks=l.asks++r.asks:=List.filterMap_append
def Bl(t:T7):t.asks.length<=t.parts.length:=cM ..
def yH{t:T7}(h:F [t.d]=.ok (.lst<|t.asks.map Ask.d))(s0)(c:jD)(i:c.length+t.parts.length<=1000000):
    nN a F [s0,.ow c,.sh t.d]=.nx [s0,.ow<|c++t.asks.map Ask.d,.sh t.d]:=by
 have e:nN a F [s0,.ow c,.sh t.d]=toS (F [t.d]) λd=>(match d with
  |.lst f=>if c.length+f.length<=sizeLine then .nx [s0,.ow<|c++f,.sh t.d]else .bad
  |_=>.bad):=by
  cases t with
  |far k n=>cases k<;>rfl
  |bin k l r=>cases k<;>rfl
  |_=>rfl
 rw[e,h];show(if c.length+(t.asks.map Ask.d).length<=sizeLine then RT.nx _ else .bad)=_;rw[aq (by rw[aj];have:=Bl t;exact aW (show _<=1000000 by omega) (by decide))]
abbrev RA(a:Ad):(jg)->jg:=λF ds=>ky (Hk a F<|k7 3 ds)
theorem IP:∀(n:Nat) (t:T7),t.dep<n->t.parts.length<=1000000->oA (RA a) n [t.d]=.ok (.lst<|t.asks.map Ask.d)
 |0,t,h,_=>by omega
 |n+1,t,h,i=>by
  show RA a (oA (RA a) n) [t.d]=_;have c:∀u:T7,u.dep<n->u.parts.length<=1000000->oA (RA a) n [u.d]=.ok (.lst<|u.asks.map Ask.d):=λu s o=>IP n u s o;generalize oA (RA a) n=F at c;have one:∀(f:Sl) (u:T7),u.dep<n->u.parts.length<=1000000->oa (mi (gV 2) (nN a F) [u.d] [f,.ow [],.no]) (λρ=>(ku<|dV 1) (pW 1 ρ))=.rt (.lst<|u.asks.map Ask.d):=λf u s o=>by show oa (turnT (nN a F [f,.ow [],.sh u.d])<|mi (gV 2) (nN a F) []) _=_;rw[yH (c u s o) f []<|by simpa using o,cz];rfl
  cases t with
  |num p q=>kernel_rfl
  |«at» w=>kernel_rfl
  |here=>kernel_rfl
  |far k m=>cases k<;>kernel_rfl
  |times p q u=>
   have v:u.dep+1<n+1:=h;have d:u.parts.length+1<=1000000:=i;have e:RA a F [(T7.times p q u).d]=ky (oa (turnT (.nx [.sh (T7.times p q u).d,.ow [],.sh<|.tup [.int p,.int q]])<|mi (gV 2) (nN a F) [u.d]) λρ=>(ku<|dV 1) (pW 1 ρ)):=by kernel_rfl
   rw[e];show ky (oa (turnT (nN a F [_,.ow [],.sh u.d])<|mi (gV 2) (nN a F) []) _)=_;rw[yH (c u (by omega)<|by omega) _ []<|by simp;omega,cz];rfl
  |abs u=>
   have v:u.dep+1<n+1:=h;have d:u.parts.length+1<=1000000:=i;have e:RA a F [(T7.abs u).d]=ky (oa (mi (gV 2) (nN a F) [u.d] [.sh (T7.abs u).d,.ow [],.no]) λρ=>(ku<|dV 1) (pW 1 ρ)):=by kernel_rfl
   rw[e,one _ u (by omega)<|by omega];rfl
  |not u=>
   have v:u.dep+1<n+1:=h;have d:u.parts.length+1<=1000000:=i;have e:RA a F [(T7.not u).d]=ky (oa (mi (gV 2) (nN a F) [u.d] [.sh (T7.not u).d,.ow [],.no]) λρ=>(ku<|dV 1) (pW 1 ρ)):=by kernel_rfl
   rw[e,one _ u (by omega)<|by omega];rfl
  |bin k l r=>
   have v:max l.dep r.dep+1<n+1:=h;have d:(l.parts++r.parts).length+1<=1000000:=i;rw[ag]at d;have e:RA a F [(T7.bin k l r).d]=ky (oa (mi (gV 2) (nN a F) [l.d,r.d] [.sh (T7.bin k l r).d,.ow [],.no]) λρ=>(ku<|dV 1) (pW 1 ρ)):=by cases k<;>kernel_rfl
   rw[e,yI,bj];show ky (oa (turnT (nN a F [_,.ow [],.sh l.d])<|mi (gV 2) (nN a F) [r.d]) _)=_;rw[yH (c l (by omega)<|by omega) _ []<|by simp;omega,cz];show ky (oa (turnT (nN a F [_,.ow<|l.asks.map Ask.d,.sh r.d])<|mi (gV 2) (nN a F) []) _)=_;rw[yH (c r (by omega)<|by omega) _ _ (by rw[aj];have:=Bl l;omega)];rfl
def xm{x y:Int}(h:0<y):0<(lo x y).2:=(FM.uk (t:=x)<|cW h).pos
def sS{x y:Int}(h:0<y):(lo x y).1*y=x*(lo x y).2:=FM.Gb (cW h)
def xl{x y u v:Int}(c:0<y)(hv:0<v)(h:x*v=u*y):lo x y=lo u v:=by
 have k:=sS (x:=x) c;have i:=sS (x:=u) hv;obtain⟨f,d⟩:=FM.II (FM.uk (t:=x) (cW c)) (FM.uk (t:=u) (cW hv)) (by
  show(lo x y).1*(lo u v).2=(lo u v).1*(lo x y).2;refine cZ (cW<|cO c hv) ?_
  grind)
 exact Prod.ext f d
def lw(e:WM.Env):T7->Int×Int
 |.num p q=>(p,q)
 |.here=>(e .here).2
 |.at w=>(e<|.at w).2
 |.far .back n=>(e<|.back n).2
 |.far .on n=>(e<|.on n).2
 |.far .ago n=>((e .here).1 - (e<|.back n).1,1)
 |.far .pG n=>((e<|.on n).1 - (e .here).1,1)
 |.times p q t=>(p*(lw e t).1,q*(lw e t).2)
 |.abs t=>((lw e t).1.natAbs,(lw e t).2)
 |.bin .add l r=>((lw e l).1*(lw e r).2+(lw e r).1*(lw e l).2,(lw e l).2*(lw e r).2)
 |.bin .sub l r=>((lw e l).1*(lw e r).2+(0 - (lw e r).1)*(lw e l).2,(lw e l).2*(lw e r).2)
 |_=>(0,1)
structure Lk(e:WM.Env)(s:Nat)(t:T7):Prop where
 p:Sz s (lw e t).1
 q:Sz s (lw e t).2
 n:0<(lw e t).2
 w:wv e t=lo (lw e t).1 (lw e t).2
def aaO{P Q x y p q:Int}(h:P*y=x*Q):p*P*(q*y)=p*x*(q*Q):=by grind
def aaL{P Q x y R S u v:Int}(h:P*y=x*Q)(k:R*v=u*S):(P*S+R*Q)*(y*v)=(x*v+u*y)*(Q*S):=by grind
def aaN{P Q x y R S u v:Int}(h:P*y=x*Q)(k:R*v=u*S):(P*S - R*Q)*(y*v)=(x*v+(0 - u)*y)*(Q*S):=by grind
def aaM(a b c:Int):a+(0 - b)*c=a - b*c:=by grind
def rL(E:pP e)(P:∀x,0<(e x).2.2){s t}(h:Tw s t):Lk e s t:=by
 have i:∀{x u y v:Int} {p q:Int×Int},0<y->0<v->p=lo x y->q=lo u v->p.1*y=x*p.2/\q.1*v=u*q.2/\0<p.2/\0<q.2:=λG hv Q L=>by subst Q;subst L;exact⟨sS G,sS hv,xm G,xm hv⟩
 induction h with
 |num o D A=>exact⟨D,A,o,rfl⟩
 |«at» w=>exact⟨E.p _,E.q _,P _,rfl⟩
 |here=>exact⟨E.p _,E.q _,P _,rfl⟩
 |far k n=>
  cases k with
  |back=>exact⟨E.p _,E.q _,P _,rfl⟩
  |on=>exact⟨E.p _,E.q _,P _,rfl⟩
  |ago=>exact⟨(E.t _).sub (E.t _),uw,by show(0:Int)<1;decide,rfl⟩
  |pG=>exact⟨(E.t _).sub (E.t _),uw,by show(0:Int)<1;decide,rfl⟩
 |times o D A _ _ c=>obtain⟨m,_,l,_⟩:=i c.n c.n c.w c.w;refine⟨D.mul c.p,A.mul c.q,cO o c.n,xl (cO o l) (cO o c.n)<|aaO m⟩
 |abs _ c=>
  rename_i s t _;obtain⟨m,_,l,_⟩:=i c.n c.n c.w c.w;refine⟨(show Sz s ((lw e t).1.natAbs:Int)from by unfold Sz;rw[Int.natAbs_natCast];exact c.p),c.q,c.n,xl l c.n ?_⟩;have h:=bG Int.natAbs m;rw[dU,dU]at h;have J:((wv e t).1.natAbs:Int)*((lw e t).2.natAbs:Int)=((lw e t).1.natAbs:Int)*((wv e t).2.natAbs:Int):=by omega
  rw[iC<|fw c.n,iC<|fw l]at J;exact J
 |add _ _ _ _ f d=>obtain⟨m,l,z,r⟩:=i f.n d.n f.w d.w;refine⟨(f.p.mul d.q).add ((d.p.mul f.q).mono (by lia)),(f.q.mul d.q).mono (by simp),cO f.n d.n,xl (cO z r) (cO f.n d.n)<|aaL m l⟩
 |sub _ _ _ _ f d=>obtain⟨m,l,z,r⟩:=i f.n d.n f.w d.w;refine⟨?_,(f.q.mul d.q).mono (by simp),cO f.n d.n,xl (cO z r) (cO f.n d.n)<|aaN m l⟩;have h:=(f.p.mul d.q).sub ((d.p.mul f.q).mono (by lia));rw[<-aaM]at h;exact h
def SR{x y u v p q r s:Int}(l:p*y=x*q)(k:r*v=u*s)(c:0<y)(hv:0<v)(f:0<q)(d:0<s):x*v<u*y↔p*s<r*q:=by
 have i:x*v*(q*s)=p*s*(y*v):=by grind
 have h:u*y*(q*s)=r*q*(y*v):=by grind
 rw[<-iD (cO f d),i,h,iD<|cO c hv]
def OQ{x y u v:Int}(c:0<y)(hv:0<v):x*v=u*y↔lo x y=lo u v:=by
 refine⟨xl c hv,λh=>?_⟩;have f:=sS (x:=x) c;have d:=sS (x:=u) hv;refine cZ (cW<|xm (x:=x) c) ?_
 grind
end nD
namespace WM
open PySem L2 P2 WP TM T2 PySem.NumText
variable{a:Ad}
def TL(hf:HF Ff){p q:Int}(h:q≠0)(c:Sz 390 q):ky (Ca a Ff<|k7 1 [pr p q])=.ok (fr (p.natAbs:Int) q):=by
 unfold Ca;show ky (toS (((ot [.int p]).bind λx=>R.ok [x,D.int q]).bind Ff) RT.rt)=_;have e:ot [.int p]=.ok (.int (p.natAbs:Int)):=by unfold ot;dsimp only;first|rfl|(congr 2;split<;>grind)|(congr 1;congr 1;omega)
 rw[e];show ky (toS (Ff [.int (p.natAbs:Int),.int q]) RT.rt)=_;rw[hf _ q h<|Au c<|by decide];rfl
def TF{p q x y:Int}(h:Sz 190 p)(f:Sz 190 q)(d:Sz 190 x)(c:Sz 190 y):ky (zc a<|k7 2 [pr p q,pr x y])=.ok (.bl<|decide<|p*y<x*q):=by unfold zc;show ky (toS ((jF (.int p)<|.int y).bind λu=>(jF (.int x)<|.int q).bind λv=>mQ u v) RT.rt)=_;rw[ng h c,ng d f];rfl
end WM
namespace nD
open PySem L2 P2 WP WM
structure Fo(S:iZ)(n:Nat)(A:mC)(e:WM.Env)(kvs:lR):Prop where
 at':S[n]?=some (.dt kvs)
 val:∀x∈A,∃m,valZ kvs x.k=iM (.tup [.str m,.int (e x).1,pr (e x).2.1 (e x).2.2])
abbrev pY(m:iS)(e:WM.Env):D:=.tup [.str m,.int (e .here).1,pr (e .here).2.1 (e .here).2.2]
abbrev RW(a:Ad):(jh)->jh:=λZw zs S=>jc (zk a Zw S.length (jR 5 zs) S)
section
variable{a:Ad}{S:iZ}{n:Nat}{A:mC}{e:WM.Env}{J:lR}{I:iS}{H:jh}{ρ:jk}{i:Nat}{x:Ask}
def yU(F:Fo S n A e J){c f:D}(j:x∈A){q:jx}(h:q (j6 [iM c,iM f,ba n,none,none])=.ok x.d):∃m,pO (zV 2) (zD q) [iM c,iM f,ba n,none,none] S=.ok (.d (.tup [.str m,.int (e x).1,pr (e x).2.1 (e x).2.2])) S:=by obtain⟨p,o,l⟩:=Bk x;obtain⟨m,k⟩:=F.val x j;rw[o]at h;exact⟨m,LN (jM rfl) (iV (d:=.tup p) h) l F.at' k⟩
def w_call{t:T7}{d}{c:D}{q:jx}(h:H [.d t.d,.d c,.loc n] S=.ok (.d d) S)(k:autoParam (q (j6 ρ)=.ok t.d) aZ8)(j:autoParam (ρ[1]?=some (iM c)) aZ0)(f:autoParam (ρ[2]?=some (ba n)) aZ0):zZ H (iL (zD q)<|iL (zD<|dV 1)<|iL (zV 2) iY) ρ S=.ok (.d d) S:=
 lP (i3 (iV k)<|i3 (iV<|by unfold dV j6;rw[aC,j];rfl)<|i3 (jM f) jG) h
def IY{p q r s:Int}(j:Sz 190 p)(d:Sz 190 q)(h:Sz 190 r)(c:Sz 190 s):(((jF (.int p)<|.int s).bind λx=>(jF (.int r)<|.int q).bind λy=>jV x y).bind λx=>((jF (.int q)<|.int s).bind λy=>R.ok [y]).bind λf=>R.ok<|x::f).bind jj=.ok (pr (p*s+r*q)<|q*s):=by rw[ng j c,ng h d,ng d c];rfl
def Ud{p q r s:Int}(j:Sz 190 p)(h:Sz 190 q)(f:Sz 190 r)(d:Sz 190 s):((jF (.int p)<|.int r).bind λx=>((jF (.int q)<|.int s).bind λy=>R.ok [y]).bind λc=>R.ok<|x::c).bind jj=.ok (pr (p*r)<|q*s):=by rw[ng j f,ng h d];rfl
def Mo{i j:Int}:(ot [.int i]).bind (λx=>(R.ok [x,.int j]).bind jj)=.ok (pr i.natAbs j):=by
 show R.ok (pr _ j)=_
 congr 2;grind
theorem IT(E:pP e)(P:∀x,0<(e x).2.2)(F:Fo S n A e J):∀(m:Nat) {s t},Tw s t->t.dep<m->(∀x∈t.asks,x∈A)->lD (RW a) m [.d t.d,.d<|pY I e,.loc n] S=.ok (.d<|lN<|lw e t) S
 |0,s,t,_,h,_=>by omega
 |m+1,s,t,R,h,c=>by
  have y:∀{s} {u:T7},Tw s u->u.dep<m->(∀x∈u.asks,x∈A)->lD (RW a) m [.d u.d,.d<|pY I e,.loc n] S=.ok (.d<|lN<|lw e u) S:=λO G D=>IT E P F m O G D;show jc (zk a (lD (RW a) m) S.length (jR 5 [.d t.d,.d<|pY I e,.loc n]) S)=_;generalize lD (RW a) m=H at y;unfold zk;show jc (iO _ _ [iM t.d,iM<|pY I e,ba n,none,none] S)=_;cases R with
  |num O G D=>rw[pK<|y_ret<|iV (d:=lN<|lw e<|.num _ _)<|by kernel_rfl];rfl
  |here=>rw[kl,pK<|y_ret<|iV (d:=lN<|lw e .here)<|by kernel_rfl];rfl
  |«at» w=>obtain⟨k,o⟩:=yU (q:=dV 0) F (c (.at w) (.head _)) (by kernel_rfl);rw[kl,kl,pK<|y_ret<|lg o (iV (d:=.int 2) rfl) (w:=lN<|lw e<|.at w)<|by kernel_rfl];rfl
  |far k j=>
   cases k with
   |back|on=>obtain⟨k,o⟩:=yU (q:=dV 0) F (c _ (.head _)) (by kernel_rfl);rw[kl,kl,pK<|y_ret<|lg o (iV (d:=.int 2) rfl) (w:=lN<|lw e<|.far _ j)<|by kernel_rfl];rfl
   |ago=>obtain⟨k,o⟩:=yU (q:=dA jj (iK (i8 "back") (iK (iN 0 1) iQ))) F (c (.back j) (.head _)) (by kernel_rfl);rw[kl,kl,kl,pK<|y_ret<|lZ [.int<|(e .here).1 - (e<|.back j).1,.int 1] (i3 (lg (iV (d:=.int (e .here).1)<|by kernel_rfl) (lg o (iV (d:=.int 1) rfl) (w:=.int (e<|.back j).1)<|by kernel_rfl) rfl)<|i3 (iV (d:=.int 1) rfl) jG) (d:=lN<|lw e<|.far .ago j)<|by kernel_rfl];rfl
   |pG=>obtain⟨k,o⟩:=yU (q:=dA jj (iK (i8 "on") (iK (iN 0 1) iQ))) F (c (.on j) (.head _)) (by kernel_rfl);rw[kl,kl,kl,kl,pK<|y_ret<|lZ [.int<|(e<|.on j).1 - (e .here).1,.int 1] (i3 (lg (lg o (iV (d:=.int 1) rfl) (w:=.int (e<|.on j).1)<|by kernel_rfl) (iV (d:=.int (e .here).1)<|by kernel_rfl) rfl)<|i3 (iV (d:=.int 1) rfl) jG) (d:=lN<|lw e<|.far .pG j)<|by kernel_rfl];rfl
  |abs C=>have z:=y C (fx h) λx f=>c x f;rw[kl,kl,kl,kl,kl,kB<|w_call z,pK<|y_ret<|iV (d:=lN<|lw e<|.abs _)<|by exact Mo];rfl
  |times O G D C Q=>have z:=y C (fx h) λx f=>c x f;have L:=rL E P C;rw[kl,kl,kl,kl,kl,kB<|w_call z,kl,pK<|y_ret<|iV (d:=lN<|lw e<|.times _ _ _)<|by exact Ud (G.mono<|by decide) (D.mono<|by decide) (L.p.mono Q) (L.q.mono Q)];rfl
  |add N M v p|sub N M v p=>
   rename_i s r l u;have V:max l.dep u.dep+1<m+1:=h;have z:=y N (by omega) λx f=>c x (by rw[yI];exact b8 _ f);have T:=y M (by omega) λx f=>c x (by rw[yI];exact bq _ f);have L:=rL E P N;have U:=rL E P M;rw[kl,kl,kl,kl,kl,kB<|w_call T,kl,kl,kB<|w_call z];first
   |rw[kl,y_ret<|iV (d:=lN<|lw e<|.bin .add l u)<|by exact IY (L.p.mono v) (L.q.mono v) (U.p.mono p) (U.q.mono p)];rfl
   |rw[jC<|(nq<|lY (d:=true)<|by kernel_rfl).trans (kj (iV (d:=pr (0 - (lw e u).1) (lw e u).2)<|by kernel_rfl)<|ar rfl),y_ret<|iV (d:=lN<|lw e<|.bin .sub l u)<|by exact IY (L.p.mono v) (L.q.mono v) (by have:=U.p.mono p;unfold Sz at*;omega) (U.q.mono p)];rfl
abbrev wq(a:Ad)(H:jh):(jh)->jh:=λZh zs S=>jc (ze a Zh H S.length (jR 5 zs) S)
def SQ(E:pP e)(P:∀x,0<(e x).2.2){s r l u}(d:Tw s l)(c:Tw r u):decide ((lw e l).1*(lw e u).2<(lw e u).1*(lw e l).2)=hv e (.bin .lt l u):=by have L:=rL E P d;have U:=rL E P c;show _=decide ((wv e l).1*(wv e u).2<(wv e u).1*(wv e l).2);rw[L.w,U.w];exact decide_eq_decide.mpr (SR (sS L.n) (sS U.n) L.n U.n (xm L.n)<|xm U.n)
def OP(E:pP e)(P:∀x,0<(e x).2.2){s r l u}(d:Tw s l)(c:Tw r u):decide ((lw e l).1*(lw e u).2=(lw e u).1*(lw e l).2)=hv e (.bin .eq l u):=by have L:=rL E P d;have U:=rL E P c;show _=decide (wv e l=wv e u);rw[L.w,U.w];exact decide_eq_decide.mpr (OQ L.n U.n)
def IZ{p q r s:D}{g:qD}{x y z}(f:jF p q=.ok x)(d:jF r s=.ok y)(c:g x y=.ok z):((jF p q).bind λx=>(jF r s).bind λy=>g x y)=.ok z:=by rw[f,d];exact c
theorem IQ(E:pP e)(P:∀x,0<(e x).2.2)(M)(D:∀{s} {t},Tw s t->t.dep<M->(∀x∈t.asks,x∈A)->H [.d t.d,.d<|pY I e,.loc n] S=.ok (.d<|lN<|lw e t) S):
 ∀(m:Nat) {t},Cw t->t.dep<m->t.dep<M->(∀x∈t.asks,x∈A)->lD (wq a H) m [.d t.d,.d<|pY I e,.loc n] S=.ok (.d<|.bl<|hv e t) S
 |0,t,_,h,_,_=>by omega
 |m+1,t,cw,h,F,v=>by
  have q:∀{u:T7},Cw u->u.dep<m->u.dep<M->(∀x∈u.asks,x∈A)->lD (wq a H) m [.d u.d,.d<|pY I e,.loc n] S=.ok (.d<|.bl<|hv e u) S:=λh1 Y V T=>IQ E P M D m h1 Y V T;show jc (ze a (lD (wq a H) m) H S.length (jR 5 [.d t.d,.d<|pY I e,.loc n]) S)=_;generalize lD (wq a H) m=Zh at q;unfold ze;show jc (iO _ _ [iM t.d,iM<|pY I e,ba n,none,none] S)=_;have p:∀{k l u},t=.bin k l u->(∀x∈l.asks,x∈A)/\(∀x∈u.asks,x∈A):=λe=>by subst e;rw[yI]at v;exact⟨λx o=>v x<|b8 _ o,λx o=>v x<|bq _ o⟩
  cases cw with
  |not cu=>
   have j:=q cu (fx h) (Nat.lt_of_succ_lt F) λx o=>v x o;rw[pK<|y_ret (z:=.d<|.bl<|!hv e _) (S1:=S)<|by unfold wg;rw[w_call j];rfl]
   rfl
  |lt f c y w|eq f c y w=>
   rename_i s r l u;have d':max l.dep u.dep+1<M:=F;have j:=D f (by omega) (p rfl).1;have C:=D c (by omega) (p rfl).2;have L:=rL E P f;have U:=rL E P c;have N:=ng (L.p.mono y) (U.q.mono w);have G:=ng (U.p.mono w) (L.q.mono y);rw[kl,kl,kB<|w_call j,kB<|w_call C];first
   |rw[<-SQ E P f c,pK<|y_ret<|iV (d:=.bl<|decide<|(lw e l).1*(lw e u).2<(lw e u).1*(lw e l).2)<|by exact IZ N G (by rfl)];rfl
   |rw[<-OP E P f c,kl,y_ret<|iV (d:=.bl<|decide<|(lw e l).1*(lw e u).2=(lw e u).1*(lw e l).2)<|by exact IZ N G (by rfl)];rfl
  |and Q O|or Q O=>
   rename_i l u;have d':max l.dep u.dep+1<m+1:=h;have d2:max l.dep u.dep+1<M:=F;have j:=q Q (by omega) (by omega) (p rfl).1;have C:=q O (by omega) (by omega) (p rfl).2;generalize R:hv e (.bin _ l u)=b;rw[kl,pK (z:=.d (.bl b)) (S2:=S) (by rw[kB (w_call j),kB (w_call C),<-R];exact y_ret (iV (by simp only[hv];cases hv e l<;>cases hv e u<;>kernel_rfl)))]
   rfl
def qJ(c:aa Rd)(m:iS)(t:Int):i0 Rd:=(place c m t).bind λi=>(own c m)[i]?
def Pa(row r m)(t:Int):qJ (row++[r]) m t=if r.m=m/\r.t=t then some r else qJ row m t:=by
 unfold qJ;rw[JP,vJ];by_cases w:r.m=m/\r.t=t
 .rw[aq w,aq w,aq w.1];show(own row m++[r])[(own row m).length]?=_;simp
 .rw[aA w,aA w];cases h:place row m t with
  |none=>rfl
  |some i=>obtain⟨s,e,_⟩:=DJ h;show(own row m++_)[i]?=(own row m)[i]?;rw[aw (az.mp e).1]
def YB(row r w):see row r (.at w)=qJ row w r.t:=by
 unfold see qJ;show(match place row w r.t with|none=>none|some i=>if 0<=((i:Nat):Int)/\((i:Nat):Int)<(own row w).length then(own row w)[((i:Nat):Int).toNat]? else none)=_;cases h:place row w r.t with
 |none=>rfl
 |some i=>obtain⟨s,e,_⟩:=DJ h;have:=(az.mp e).1;show(if _ then _ else none)=(own row w)[i]?;rw[aq ⟨by omega,by omega⟩,bC]
abbrev ub(row:aa Rd)(m:iS)(t:Int):i0 Z:=(qJ row m t).map λr=>Z.d r.d
variable{N T:iZ}{K B C q:Nat}{M:om}{P:lR}{lc:rl}{v c:aa Rd}
def CT(m:iS)(t:Int):rG (.tup [.str m,.int t])=some (pk m t):=by kernel_rfl
def SH(g:Lg (ub c) T n T.length B C M P lc c)(r:Rd)(G:M.length<=10000)(hP:P.length<=10000)(Y:c.length<=10000){a Zm}(s0 s1 s2 s6 s7 s8 s9 kr):
    ∃l M1 y h,vd a Zm [s0,s1,s2,ba B,ba C,iM r.d,s6,s7,s8,s9,kr] T=.nx [s0,s1,s2,ba B,ba C,iM r.d,s6,s7,s8,s9,kr] l
     /\Lg (ub<|c++[r]) l n l.length B C M1 y h (c++[r])/\M1.length<=M.length+1/\y.length<=P.length+1/\jv n T l:=by
 obtain⟨k,M1,h,q,Q,g,u,o,F⟩:=IA g r G (f:=zV 3) (fk:=zD (iN 5 0)) (ρ:=[s0,s1,s2,ba B,ba C,iM r.d,s6,s7,s8,s9,kr]) rfl rfl;obtain⟨V,U,R,s,p⟩:=g.li _ _ u;obtain⟨L,D⟩:=IC g r u r.d (z6:=ub (c++[r])) λm t=>by show Option.map _ (qJ (c++[r]) m t)=_;rw[Pa];split<;>rfl
 refine⟨_,M1,_,h,?_,L,o,xg,F.trans D⟩;unfold vd;have O:Ap (tp (zV 3) (zD<|iN 5 0)<|kY<|λρ=>(iQ ρ).bind ju) (zD<|dV 5) [s0,s1,s2,ba B,ba C,iM r.d,s6,s7,s8,s9,kr] T=.nx [s0,s1,s2,ba B,ba C,iM r.d,s6,s7,s8,s9,kr] (k.set q<|.li<|((own c r.m).map λr=>Z.d r.d)++[.d r.d]):=by
  unfold Ap;rw[Q]
  show(match k[q]? with
   |some (.li _)=>toZ (zD (dV 5) [s0,s1,s2,ba B,ba C,iM r.d,s6,s7,s8,s9,kr] k) λz w=>(match w[q]? with
    |some (.li j)=>if j.length<sizeLine then kT.nx _ (w.set q<|.li<|j++[z])else .bad
    |_=>.bad)
   |_=>.bad)=_
  rw[p,iV (d:=r.d) rfl]
  show(match k[q]? with
   |some (.li j)=>if j.length<sizeLine then kT.nx _ (k.set q<|.li<|j++[Z.d r.d])else .bad
   |_=>.bad)=_
  rw[p];exact aq (rT<|by rw[aj];exact b7 (fF ..) (by omega))
 rw[jC O,xM (iV (d:=r.d) rfl) (jM rfl) (xU (iV (d:=.tup [.str r.m,.int r.t])<|by kernel_rfl)<|CT _ _) (by rw[ao s];exact g.pc)<|by omega,iE _ _ s]
theorem IB{a Zm}(s0 s1 s2 s6 s7 s8 s9 kr):∀(rest c:aa Rd) T M P lc s5,Lg (ub c) T n T.length B C M P lc c->M.length<=c.length->P.length<=c.length->c.length+rest.length<=10000->
 ∃f M1 l d h,ki (hV 5) (vd a Zm) (rest.map Rd.d) [s0,s1,s2,ba B,ba C,s5,s6,s7,s8,s9,kr] T=.nx [s0,s1,s2,ba B,ba C,h,s6,s7,s8,s9,kr] f/\Lg (ub<|c++rest) f n f.length B C M1 l d (c++rest)/\jv n T f
 |[],c,T,M,P,lc,s5,g,_,_,_=>⟨T,M,P,lc,s5,rfl,by rw[aU];exact g,.refl _ _⟩
 |r::rest,c,T,M,P,lc,s5,g,O,L,s=>by
  rw[au]at s;obtain⟨f,M1,l,d,z,w,u,t,p⟩:=SH g r (by omega) (by omega) (by omega) (a:=a) (Zm:=Zm) s0 s1 s2 s6 s7 s8 s9 kr;have k:(c++[r]).length=c.length+1:=by rw[ag];rfl
  obtain⟨D,G,F,j,h,y,m,o⟩:=IB (a:=a) (Zm:=Zm) s0 s1 s2 s6 s7 s8 s9 kr rest (c++[r]) f M1 l d (iM r.d) w (by rw[k];omega) (by rw[k];omega) (by rw[k];omega);refine⟨D,G,F,j,h,?_,by rw[aT]at m;exact m,p.trans o⟩;show m5 (vd a Zm [s0,s1,s2,ba B,ba C,iM r.d,s6,s7,s8,s9,kr] T) (ki (hV 5) (vd a Zm)<|rest.map Rd.d)=_;rw[z];exact y
end
theorem JO{m:iS}{t:Int}:∀{l:aa Rd} {a:aa Rd},(∀x∈l,¬(x.m=m/\x.t=t))->uz (l++a) m t=uz a m t
 |[],_,_=>rfl
 |x::l,a,h=>by show(if x.m=m/\x.t=t then _ else uz (l++a) m t)=_;rw[aA<|h x<|.head _,JO λy c=>h y<|.tail _ c]
def Vh(a:aa Rd)(r rest):own (a++r::rest) r.m=own a r.m++r::own rest r.m:=by unfold own;simp
def Wx{a:aa Rd}{r rest}(nd:((a++r::rest).map jN).Nodup):place (a++r::rest) r.m r.t=some (own a r.m).length:=by
 unfold place;rw[List.reverse_append,List.reverse_cons,aT,JO λx c w=>?_]
 .show(if r.m=r.m/\r.t=r.t then some (own a.reverse r.m).length else _)=_;rw[aq ⟨rfl,rfl⟩,Dt]
 .rw[bj,aD]at nd;have h:=(bA.mp (eY.mp nd).2.1).1;exact h (aH.mpr ⟨x,List.mem_reverse.mp c,by unfold jN;rw[w.1,w.2]⟩)
structure Pl(row:aa Rd)(r:Rd)(i:Nat):Prop where
 p:place row r.m r.t=some i
 o:(own row r.m)[i]?=some r
def Pl.of{a:aa Rd}{r rest}(nd:((a++r::rest).map jN).Nodup):Pl (a++r::rest) r (own a r.m).length:=⟨Wx nd,by rw[Vh];simp⟩
def Pl.here(h:Pl row r i):see row r .here=some r:=by have a:=(az.mp h.o).1;unfold see;show(match place row r.m r.t with|none=>none|some i=>if 0<=((i:Nat):Int)/\((i:Nat):Int)<(own row r.m).length then(own row r.m)[((i:Nat):Int).toNat]? else none)=_;rw[h.p];show(if _ then _ else none)=_;rw[aq ⟨by omega,by omega⟩,bC,h.o]
section
variable{a:Ad}{S:iZ}{q E:Nat}{P:lR}{l:aa Rd}{r:Rd}{i:Nat}
def Kz(n:S[q]?=some (.li<|((own l r.m).map Rd.d).map Z.d))(x:D)(j:Int)(s2 s3):
    jo (zR<|sN (b1 tB<|wN xf mQ (iP 0) (dV 4)<|dA l7<|iK (dV 1) iQ) (d2 jq (dV 1)<|dV 4)<|dC .non) [iM x,ba q,s2,s3,iW j] S
     =.rt (.d<|qU<|if 0<=j/\j<(own l r.m).length then(own l r.m)[j.toNat]? else none) S:=by
 have hv:vw S [iM x,ba q,s2,s3,iW j]=[.sh x,kg<|(own l r.m).map Rd.d,mw S s2,mw S s3,kN j]:=by show[Sl.sh x,mw S<|ba q,mw S s2,mw S s3,Sl.sh<|.int j]=_;rw[rY n]
 generalize own l r.m=L at*;refine y_ret (si (d:=qU<|if 0<=j/\j<L.length then L[j.toNat]? else none) ?_ ?_)
 .rw[hv]
  show((((R.ok (D.bl (decide (0<=j)))).bind λz=>match z with
   |.bl true=>(R.ok<|D.int (L.map Rd.d).length).bind λw=>mQ (.int j) w
   |.bl false=>.ok (.bl false)
   |_=>.bad).bind tB).bind λk=>if k=true then jq (.lst (L.map Rd.d)) (.int j)else R.ok .non)=_
  rw[aj];by_cases c:0<=j
  .rw[aR c];show(if decide (j<(L.length:Int))=true then jq (.lst<|L.map Rd.d) (.int j)else R.ok .non)=_;by_cases f:j<(L.length:Int)
   .rw[aq<|aR f,aq ⟨c,f⟩];have h:j.toNat<L.length:=by omega
    have e:(L.map Rd.d)[j.toNat]?=some (L[j.toNat]).d:=by grind
    have m:=L2.ry e;rw[Int.toNat_of_nonneg c]at m
    show(match L2.jO (L.map Rd.d) j with
     |some d=>R.ok d
     |none=>.bad)=_
    rw[m,ax h];rfl
   .rw[aA<|by simpa using f,aA λw=>f w.2];rfl
  .rw[aG c,aA λw=>c w.1];rfl
 .split;.cases L[j.toNat]?<;>rfl
  .rfl
def HR(h:Pl l r i):jq (.lst<|(own l r.m).map Rd.d) (.int i)=.ok r.d:=by have e:=L2.ry (show((own l r.m).map Rd.d)[i]?=some r.d by rw[aC,h.o];rfl);show(match L2.jO ((own l r.m).map Rd.d) (i:Int)with|some d=>R.ok d|none=>.bad)=_;rw[e]
def Tt(f:S[q]?=some (.li<|((own l r.m).map Rd.d).map Z.d))(h:Pl l r i)(n:S[E]?=some (.dt P))(j:∀m t,valZ P (pk m t)=(qJ l m t).map λr=>Z.d r.d)(x:Ask)(o:x≠.here)(b):
    jc (zh a b (jR 5 [.d x.d,.loc q,.d<|.int i,.loc E]) S)=.ok (.d<|qU<|see l r x) S:=by
 have c:∀k:Ask,k.um r=r.m->see l r k=if 0<=k.to i/\k.to i<(own l r.m).length then(own l r.m)[(k.to i).toNat]? else none:=λk p=>by unfold see;rw[p,h.p]
 unfold zh;show jc (iO _ _ [iM x.d,ba q,iW i,ba E,none] S)=_;cases x with
 |here=>exact absurd rfl o
 |«at» w=>
  have s:zR (d2 jq (d2 jq (dV 1)<|dV 2)<|iP 1) [iM (Ask.at w).d,ba q,iW i,ba E,none] S=.ok (.d<|.int r.t) S:=by refine si ?_ rfl;show(d2 jq (d2 jq (dV 1)<|dV 2)<|iP 1) [.sh (Ask.at w).d,mw S<|ba q,kN i,mw S<|ba E,.no]=_;rw[rY f];show(jq (.lst<|(own l r.m).map Rd.d)<|.int i).bind (λx=>jq x<|.int 1)=_;rw[HR h];rfl
  rw[pK<|y_ret<|LM (jM rfl) n<|Ew (ds:=[.str w,.int r.t]) (i3 (iV rfl)<|i3 s jG) rfl (by decide:2<1000),j,YB];cases qJ l w r.t<;>rfl
 |back k=>rw[c (.back k) rfl,kl,kB<|iV (d:=.int<|i+k)<|by kernel_rfl];show jc (jo _ [iM (Ask.back k).d,ba q,iW i,ba E,iW<|i - k] S)=_;rw[Kz f];rfl
 |on k=>rw[c (.on k) rfl,kl,kB<|iV (d:=.int<|i+k)<|by kernel_rfl];show jc (iO _ _ [iM (Ask.on k).d,ba q,iW i,ba E,iW<|i+k] S)=_;rw[kl,Kz f];rfl
theorem F8:∀L:aa Kt,mP (gT 2<|gC (gV 0)<|gC (gV 1) gN) (λ_=>R.ok true) (dA jj<|iK (dV 1)<|iK (dV 0) iQ) [.no,.no] (L.map kq)=some (L.map nY)
 |[]=>rfl
 |k::L=>by show(some<|nY k).bind (λv=>(mP (gT 2<|gC (gV 0)<|gC (gV 1) gN) (λ_=>R.ok true) (dA jj<|iK (dV 1)<|iK (dV 0) iQ) [.no,.no]<|L.map kq).bind λc=>some<|v::c)=_;rw[F8 L];rfl
abbrev nO(K:rp):Cell:=.li ((K.map kq).map .d)
abbrev su(s0 s1 s5:j3)(q i E n:Nat)(s8 s9:j3):jk:=[s0,s1,ba q,iW i,ba E,s5,ba n,ba<|n+1,s8,s9]
variable{Fa:jg}{F Zh:jh}{s0 s1 s5:j3}
def xH(S:iZ)(c d:Cell):(S++[c,d])[S.length]?=some c:=by simp
def vW(S:iZ)(c d:Cell):(S++[c,d])[S.length+1]?=some d:=by simp
def aaw(S:iZ)(c d f:Cell):(S++[c,d]).set S.length f=S++[f,d]:=by simp
def Lm(S:iZ)(c d f:Cell):(S++[c,d]).set (S.length+1) f=S++[c,f]:=by simp
def T3(U:∀c d x,x≠Ask.here->F [.d x.d,.loc q,.d<|.int i,.loc E] (S++[c,d])=.ok (.d<|qU<|see l r x) (S++[c,d])):∀(f:mC) (B:aa<|Ask×Rd) (K:rp) (u m:j3),(∀x∈f,x≠.here)->(∀p∈B,see l r p.1=some p.2)->B.length+f.length<=1000->K.length+f.length<=1000->
    (∃k∈f,see l r k=none)/\(∃(j:aa<|Ask×Rd) (n:rp),ki (hV 8) (rA a Fa F Zh) (f.map Ask.d) (su s0 s1 s5 q i E S.length u m) (S++[.dt<|B.map encP,nO K])=.rt (.d .non) (S++[.dt<|j.map encP,nO n]))
    \/(∀k∈f,∃s,see l r k=some s)/\∃(j:aa<|Ask×Rd) (n:rp) (A y:j3),(∀p,p∈j↔p∈B\/(p.1∈f/\see l r p.1=some p.2))/\(∀k,k∈n↔k∈K\/∃x∈f,∃s,see l r x=some s/\k=jN s)/\j.length<=B.length+f.length/\n.length<=K.length+f.length
     /\ki (hV 8) (rA a Fa F Zh) (f.map Ask.d) (su s0 s1 s5 q i E S.length u m) (S++[.dt<|B.map encP,nO K])=.nx (su s0 s1 s5 q i E S.length A y) (S++[.dt<|j.map encP,nO n]):=by
 intro f;induction f with
 |nil=>intro B K u m _ _ _ _;exact .inr ⟨(λ_ h=>nomatch h),B,K,u,m,λp=>⟨.inl,λw=>w.elim id<|λw=>nomatch w.1⟩,λp=>⟨.inl,λw=>w.elim id<|λ⟨_,w,_⟩=>nomatch w⟩,af _,af _,rfl⟩
 |cons k f O=>
  intro B K u m t L Q C;rw[au]at Q C
  have step:rA a Fa F Zh (su s0 s1 s5 q i E S.length (iM k.d) m) (S++[.dt (B.map encP),nO K])=(match see l r k with
   |none=>.rt (.d .non) (S++[.dt<|B.map encP,nO K])
   |some s=>.nx (su s0 s1 s5 q i E S.length (iM k.d) (iM s.d)) (S++[.dt (jL (B.map encP) k.k (.d s.d)),nO (K++[jN s])])):=by
   unfold rA;rw[kB<|lP (i3 (iV (d:=k.d) rfl)<|i3 (jM rfl)<|i3 (iV (d:=.int i) rfl)<|i3 (jM rfl) jG)<|U _ _ k<|t k<|.head _];cases see l r k with
   |none=>rfl
   |some s=>
    show iO _ _ (su s0 s1 s5 q i E S.length (iM k.d)<|iM s.d) _=_;rw[lX<|AD<|jM (z:=.d s.d) rfl];rw[jC<|xM (iV (d:=s.d) rfl) (jM rfl) (xU (iV (d:=k.d) rfl)<|CS k) (xH S _ _)<|by rw[aj];omega,aaw];rw[sZ rfl (vW S _ _) (iV (d:=kq<|jN s)<|by kernel_rfl) (vW S _ _)<|by rw[aj,aj];omega,Lm]
    congr 2
    show[_,Cell.li<|_++[_]]=[_,Cell.li<|List.map Z.d<|List.map kq<|K++[jN s]];rw[bj,bj];rfl
  show(∃v∈k::f,see l r v=none)/\(∃j n,m5 (rA a Fa F Zh (su s0 s1 s5 q i E S.length (iM k.d) m)<|S++[.dt<|B.map encP,nO K]) _=_)\/(_/\∃j n A y,_/\_/\_/\_/\m5 (rA a Fa F Zh (su s0 s1 s5 q i E S.length (iM k.d) m)<|S++[.dt<|B.map encP,nO K]) _=_);cases o:see l r k with
  |none=>rw[o]at step;rw[show rA a Fa F Zh _ _=_ from step];exact .inl ⟨⟨k,.head _,o⟩,B,K,rfl⟩
  |some s=>
   rw[o]at step;rw[show rA a Fa F Zh _ _=kT.nx _ _ from step];obtain⟨j,e1,Y,e3⟩:=KA L o;rw[e1];have D:∀p∈j,see l r p.1=some p.2:=λp T=>by
    rcases(Y p).mp T with w|w;.exact L p w
    .rw[w];exact o
   have hl:(K++[jN s]).length=K.length+1:=by rw[ag];rfl
   rcases O j (K++[jN s]) (iM k.d) (iM s.d) (λx R=>t x (.tail _ R)) D (by omega) (by omega)with⟨⟨v,G,N⟩,J,I,M⟩|⟨G,J,I,A,y,N,M,h4,h5,V⟩;.exact .inl ⟨⟨v,.tail _ G,N⟩,J,I,M⟩
   .refine .inr ⟨λv t=>?_,J,I,A,y,λp=>?_,λp=>?_,by rw[au];omega,by rw[au];omega,V⟩
    .rcases aI.mp t with rfl|t;.exact⟨s,o⟩
     .exact G v t
    .grind
    .grind
def Tg{t:T7}{A:mC}{u:iS}(hr:∀r∈l,nB r)(O:Fa [t.d]=.ok (.lst<|t.asks.map Ask.d))(h19:t.asks.length<=40)(J:∀x,x∈A↔x=.here\/x∈t.asks)(hn:∀x∈t.asks,x≠Ask.here)
    (hl:S[q]?=some (.li<|((own l r.m).map Rd.d).map Z.d))(h:Pl l r i)(hB:kS S)
    (ho:∀c d x,x≠Ask.here->F [.d x.d,.loc q,.d<|.int i,.loc E] (S++[c,d])=.ok (.d<|qU<|see l r x) (S++[c,d]))
    (hh:∀S' M,Fo S' S.length t.asks (envOf l r) M->Zh [.d t.d,.d r.d,.loc S.length] S'=.ok (.d<|.bl<|hv (envOf l r) t) S'):
    ∃S',Gr S S'/\jc (zf a Fa F Zh S.length (jR 10 [.d<|.str u,.d t.d,.loc q,.d<|.int i,.loc E]) S)=.ok (.d<|if hit l A t r=true then ke l A u r else .non) S':=by
 have v:∀c d:Cell,(∀j,j9 j c=false)->(∀j,j9 j d=false)->Gr S (S++[c,d]):=λc d h1 h2=>by
  have:=(Gr.app (S:=S) h1).trans (Gr.app h2)
  rwa [aT]at this
 unfold zf;rw[kB (z:=.d r.d) (S1:=S) (by
  refine si ?_ rfl;show(d2 jq (dV 2) (dV 3)) (Sl.sh (.str u)::Sl.sh t.d::mw S (ba q)::Sl.sh (.int i)::vw S [ba E,none,none,none,none,none])=_;rw[rY hl];exact HR h),kB (show qY _ S=.ok (.loc S.length) (S++[.dt []])from rfl),kB (z:=.loc (S.length+1)) (S1:=S++[.dt (([]:aa (Ask×Rd)).map encP),nO [jN r]]) (by
  rw[show S++[.dt (([]:aa (Ask×Rd)).map encP),nO [jN r]]=(S++[Cell.dt []])++[nO [jN r]]from by simp,show S.length+1=(S++[Cell.dt []]).length by rw[ag];rfl];rfl)]
 show∃S',Gr S S'/\jc (iO _ _ (su (iM<|.str u) (iM t.d) (iM r.d) q i E S.length none none) _)=_;have Y:(Fa [t.d]).bind jT=.ok (t.asks.map Ask.d):=by rw[O];rfl
 have f:=h.here;have eh:r.d=pY r.m (envOf l r):=by show _=D.tup [.str r.m,.int (envOf l r .here).1,pr (envOf l r .here).2.1 (envOf l r .here).2.2];unfold envOf;rw[f];rfl
 rcases T3 (a:=a) (Fa:=Fa) (Zh:=Zh) (s0:=iM (.str u)) (s1:=iM t.d) (s5:=iM r.d) ho t.asks [] [jN r] none none hn (λ_ h=>nomatch h) (by simpa using(by omega:t.asks.length<=1000)) (by simp only[au,cy];omega)with⟨⟨k,hk,n⟩,B,K,U⟩|⟨o,B,K,t8,t9,I,T,lB,lK,U⟩
 .refine⟨S++[.dt<|B.map encP,nO K],v _ _ (vk B)<|lu _,?_⟩;rw[pM<|(qW Y).trans U];have:hit l A t r=false:=by
   unfold hit;rw[List.all_eq_false.mpr ⟨k,(J k).mpr (.inr hk),by rw[n];exact av⟩];rfl
  rw[this];rfl
 .have C:∀p∈B,see l r p.1=some p.2:=λp hp=>(((I p).mp hp).resolve_left (λw=>nomatch w)).2;have hF:Fo (S++[.dt (B.map encP),nO K]) S.length t.asks (envOf l r) (B.map encP):=⟨xH S _ _,λx m=>by
   obtain⟨s,n⟩:=o x m;refine⟨s.m,?_⟩;rw[KC C<|(I (x,s)).mpr (.inr ⟨m,n⟩)];unfold envOf;rw[n];rfl⟩
  have L:=hh _ _ hF;have Q:(A.all λk=>(see l r k).isSome)=true:=b9.mpr λx m=>by
   rcases(J x).mp m with rfl|m;.rw[f];rfl
   .obtain⟨s,n⟩:=o x m;rw[n];rfl
  have G:hit l A t r=hv (envOf l r) t:=by unfold hit;rw[Q];rfl
  rw[G,jC<|(qW Y).trans U];cases V:hv (envOf l r) t with
  |false=>rw[V]at L;refine⟨S++[.dt<|B.map encP,nO K],v _ _ (vk B)<|lu _,?_⟩;rw[v5 (by unfold we;rw[xV (lP (i3 (iV (d:=t.d) rfl)<|i3 (iV (d:=r.d) rfl)<|i3 (jM rfl) jG) L) rfl];rfl)<|y_ret<|iV (d:=.non) rfl];rfl
  |true=>
   rw[V]at L;refine⟨S++[.dt<|B.map encP,.no],v _ _ (vk B)<|λ_=>rfl,?_⟩;have sf:nI (S++[.dt<|B.map encP,nO K]) (S.length+1):=by
    have:=oH (oH (hB (S.length+1)<|by omega)<|vk B _) (lu (K.map kq)<|S.length+1)
    rwa [aT]at this
   rw[lX<|by unfold we;rw[xV (lP (i3 (iV (d:=t.d) rfl)<|i3 (iV (d:=r.d) rfl)<|i3 (jM rfl) jG) L) rfl];rfl,v3 rfl (vW S _ _) (by omega) sf,Lm];have ht:oK (S.length+1) (.lst<|K.map kq) (ba<|S.length+1)=iX (K.map kq):=by show(if S.length+1=S.length+1 then _ else _)=_;rw[aq rfl]
   rw[aD,aD,aD,aD,aD,aD,aD,aD,ht];have lk:K.length<64:=by have:K.length<=1+t.asks.length:=lK;omega
   have ek:ktL K=ktL ((A.filterMap<|see l r).map jN):=Ig λk=>by
    rw[T,aH];constructor
    .rintro (w|⟨x,m,s,w1,w2⟩)
     .exact⟨r,aZ.mpr ⟨.here,(J _).mpr (.inl rfl),f⟩,(aQ.mp w).symm⟩
     .exact⟨s,aZ.mpr ⟨x,(J _).mpr (.inr m),w1⟩,w2.symm⟩
    .rintro ⟨s,n,rfl⟩
     obtain⟨x,m,n⟩:=aZ.mp n;rcases(J x).mp m with rfl|m;.rw[f]at n;cases n;exact .inl (.head _)
     .exact .inr ⟨x,m,s,n,rfl⟩
   rw[y_ret<|iV (d:=ke l A u r) ?_];.rfl
   .unfold ke;rw[<-ek];have em:(ρ:Ev)->dV 7 ρ=.ok (.lst<|K.map kq)->jt (kW (λρ=>((jt<|λρ=>((dV 7) ρ).bind pF) ρ).bind jT) 2 [] (gT 2<|gC (gV 0)<|gC (gV 1) gN) (λ_=>.ok true)<|dA jj<|iK (dV 1)<|iK (dV 0) iQ) ρ=.ok (.lst<|(ktL K).map nY):=λρ N=>by
     refine rr ?_;show(((jt<|λρ=>((dV 7) ρ).bind pF) ρ).bind jT).bind (λds=>if ds.length<=sizeLine then vG (mP (gT 2<|gC (gV 0)<|gC (gV 1) gN) (λ_=>R.ok true) (dA jj<|iK (dV 1)<|iK (dV 0) iQ) [.no,.no] ds)else .bad)=_;rw[show((jt<|λρ=>((dV 7) ρ).bind pF) ρ).bind jT=.ok ((ktL K).map kq)from by rw[rr (X:=(ktL K).map kq)<|by rw[N];exact KR K lk];rfl]
     show(if((ktL K).map kq).length<=sizeLine then vG (mP _ _ _ [.no,.no] _)else .bad)=_;rw[aq (by rw[aj];have:=Ih K;exact aW (show _<=64 by omega) (by decide)),F8];rfl
    show(((R.ok<|D.str r.m).bind λx=>((R.ok<|D.int r.t).bind λy=>((R.ok<|D.str u).bind λz=>((jt (kW (λρ=>((jt<|λρ=>((dV 7) ρ).bind pF) ρ).bind jT) 2 [] (gT 2<|gC (gV 0)<|gC (gV 1) gN) (λ_=>.ok true)<|dA jj<|iK (dV 1)<|iK (dV 0) iQ)<|j6 _).bind λw=>R.ok [w]).bind λws=>R.ok<|z::ws).bind λzs=>R.ok<|y::zs).bind λys=>R.ok<|x::ys).bind jj)=_;rw[em _ rfl];rfl
variable{C:jk}{f g:jd}{q H:jx}{n:Nat}{z:Z}
def aaQ{d:D}{k:Key}{c:om}(p:f C S=.ok z S)(j:q (j6 C)=.ok d)(h:g C S=.ok (.loc n) S)(o:ml d=some k)(s:S[n]?=some (.dk c))(m:c.length<100000):As g q f C S=.nx C (S.set n<|.dk<|jL c k z):=by
 unfold As;rw[p];show toZ (g C S) _=_;rw[h];show toZ (kR (q<|j6 C) S) _=_;rw[j]
 show(match Z.loc n,ml d with
  |.loc n,some k=>(match S[n]? with
   |some (.dk c)=>if c.length<sizeLine then kT.nx C (S.set n<|.dk<|jL c k z)else .bad
   |_=>.bad)
  |_,_=>.bad)=_
 rw[o];dsimp only;rw[s];exact aq (rT m)
def aaT{d x:D}{k:Key}{c:om}(h:f C S=.ok (.loc n) S)(p:S[n]?=some (.dk c))(m:q (j6 C)=.ok d)(j:H (j6 C)=.ok x)(o:ml d=some k):xP f q H C S=.ok ((valZ c k).getD (.d x)) S:=by
 unfold xP;rw[h]
 show(match S[n]? with
  |some (.dk c)=>(kR (q (j6 C)) S).bind λd t=>(kR (H (j6 C)) t).bind λx s=>(match ml d with
   |some k=>RX.ok ((valZ c k).getD (.d x)) s
   |none=>.bad)
  |_=>.bad)=_
 rw[p,m,j]
 show(match ml d with
  |some k=>RX.ok ((valZ c k).getD (.d x)) S
  |none=>.bad)=_
 rw[o]
end
abbrev sr(nm:iS)(t:T7)(s2 s5:j3)(nl nb np nk:Nat)(s8 s9 kr:j3):jk:=[iM<|.str nm,iM t.d,s2,ba nl,ba nb,s5,ba np,ba nk,s8,s9,kr]
structure Jn(S:iZ)(n hi nl nb np nk:Nat)(M:om)(P:lR)(lc:rl)(row done:aa Rd)(C:om)(made:jD):Prop where
 g:Lg (ub row) S n hi nl nb M P lc row
 o1:hi<=np
 o2:np<nk
 pc:S[np]?=some (.dk C)
 kc:S[nk]?=some (.li<|made.map .d)
 vc:∀m:iS,(valZ C<|.inr m).getD (.d<|.int 0)=.d (.int (own done m).length)
 hc:∀j,j9 j (.dk C)=false
 cl:C.length<=done.length
 sk:nI S nk
 bnd:kS S
section
variable{a:Ad}{S:iZ}{n J I H F E:Nat}{M:om}{P:lR}{lc:rl}{row B:aa Rd}{C:om}{made:jD}{Zm:jh}{t:T7}{A:mC}{nm:iS}
def yi(Zm:jh)(row:aa Rd)(t:T7)(A:mC)(nm:iS):Prop:=∀{S:iZ} {q H:Nat} {P:lR} {r:Rd} {i:Nat},S[q]?=some (.li<|((own row r.m).map Rd.d).map Z.d)->Pl row r i->S[H]?=some (.dt P)->(∀m t,valZ P (pk m t)=(qJ row m t).map λr=>Z.d r.d)->kS S->
 ∃S',Gr S S'/\Zm [.d<|.str nm,.d t.d,.loc q,.d<|.int i,.loc H] S=.ok (.d<|if hit row A t r=true then ke row A nm r else .non) S'
def R6(hm:yi Zm row t A nm)(h:Jn S n J I H F E M P lc row B C made)(r:Rd)(hp:Pl row r (own B r.m).length)(hz:B.length<=10000)(hz2:made.length<=10000)(s2 s5 s9 kr):
    ∃S' C' t9 Q,tV a Zm (sr nm t s2 s5 I H F E (iM r.d) s9 kr) S=.nx (sr nm t s2 s5 I H F E (iM r.d) t9 Q) S'
     /\Jn S' n J I H F E M P lc row (B++[r]) C' (made++(if hit row A t r=true then[ke row A nm r]else[]))/\jv n S S':=by
 have b1':=h.g.b1;have b2:=h.g.b2;have b4:=h.g.b4;have o1:=h.o1;have o2:=h.o2;have U:lc r.m≠none:=λw=>by have:=hp.o;rw[h.g.no _ w]at this;cases this
 obtain⟨q,hq⟩:=f7.mp U;obtain⟨q1,q2,q3,q4,q5⟩:=h.g.li _ _ hq;have R:S[q]?=some (.li<|((own row r.m).map Rd.d).map Z.d):=by rw[bh];exact q5
 let i:=(own B r.m).length
 let z:Cell:=.dk (jL C (.inr r.m)<|.d<|.int<|(i:Int)+1)
 have l:∀j,j9 j z=false:=λj=>by
  cases w:j9 j z with
  |false=>rfl
  |true=>exact(wY<|show((jL C (.inr r.m)<|.d<|.int<|(i:Int)+1).any λp=>mF j p.2)=true from w).elim (λw=>absurd ((h.hc j).symm.trans w) av) (λw=>nomatch w)
 have L:jv n S (S.set F z):=jv.set (by omega) λj _=>l j;have keep:∀j c,j≠F->S[j]?=some c->(S.set F z)[j]?=some c:=λj c y e=>by rw[ao<|bK y];exact e
 obtain⟨G,o,e2⟩:=hm (keep q _ (by omega) R) hp (keep H _ (by omega) h.g.pc) h.g.vp (L.bnd h.bnd);have Y:jv n (S.set F z) G:=o.lw (by rw[aN];have:=kQ h.g.mc;omega);have O:∀j c,j≠F->S[j]?=some c->G[j]?=some c:=λj c y e=>o.get (keep j c y e);have e1:xP (zV 6) (iN 8 0) (iP 0) (sr nm t s2 s5 I H F E (iM r.d) s9 kr) S=.ok (.d<|.int i) S:=by rw[aaT (jM rfl) h.pc (d:=.str r.m) (x:=.int 0) (k:=.inr r.m) (by kernel_rfl) rfl rfl,h.vc]
 have jn:∀(u:iZ) (f:jD),(∀j c,j≠F->j≠E->S[j]?=some c->u[j]?=some c)->u[F]?=some z->u[E]?=some (.li<|f.map .d)->nI u E->kS u->Jn u n J I H F E M P lc row (B++[r]) (jL C (.inr r.m)<|.d<|.int<|(i:Int)+1) f:=λu f s V h3 h4 h5=>
  {g:={h.g with
    mc:=s _ _ (by omega) (by omega) h.g.mc
    pc:=s _ _ (by omega) (by omega) h.g.pc
    li:=λm q e=>let⟨u1,u2,u3,u4,u5⟩:=h.g.li m q e;⟨u1,u2,u3,u4,s _ _ (by omega) (by omega) u5⟩}
   o1:=o1,o2:=o2,pc:=V,kc:=h3
   vc:=λm=>by
    rw[vX,vJ];by_cases w:r.m=m
    · subst w;rw[aq rfl,aq rfl,ag];rfl
    · rw[aA<|λv=>w<|Sum.inr.inj v,aA w,aU];exact h.vc m
   hc:=l
   cl:=by have:=h.cl;have:=xg (kvs:=C) (k:=.inr r.m) (v:=.d<|.int<|(i:Int)+1);rw[ag];show _<=B.length+1;omega
   sk:=h4,bnd:=h5}
 have N:=kQ h.kc;have st:∀X,(jr (zB<|b1 tB<|d2 zu (dV 10)<|dC .non) (nj 7<|zD<|dV 10) jA) (sr nm t s2 s5 I H F E (iM r.d) (iW i)<|iM<|if hit row A t r=true then ke row A nm r else .non) G=X->tV a Zm (sr nm t s2 s5 I H F E (iM r.d) s9 kr) S=X:=λX hX=>by unfold tV;rw[kB e1];show iO _ _ (sr nm t s2 s5 I H F E (iM r.d) (iW i) kr) S=_;rw[jC<|aaQ (iV (d:=.int<|(i:Int)+1)<|by kernel_rfl) (d:=.str r.m) (k:=.inr r.m) (by kernel_rfl) (jM rfl) rfl h.pc (by have:=h.cl;omega)];rw[kB<|lP (i3 (iV (d:=.str nm) rfl)<|i3 (iV (d:=t.d) rfl)<|i3 (LO (jM rfl) (d:=.str r.m) (k:=.inr r.m) (by kernel_rfl) rfl (keep I _ (by omega) h.g.mc)<|by rw[h.g.vm,hq];rfl)<|i3 (iV (d:=.int i) rfl)<|i3 (jM rfl) jG) e2];exact hX
 cases hh:hit row A t r with
 |false=>rw[hh]at st;rw[aA av,aU];refine⟨G,_,iW i,iM .non,st _<|tf<|lY (d:=false)<|by kernel_rfl,jn G made (λj c s _=>O j c s) (o.get<|aB<|kQ h.pc) (O E _ (by omega) h.kc) (o.sf E (by rw[aN];exact N)<|mu h.sk<|l _)<|o.bnd<|L.bnd h.bnd,L.trans Y⟩
 |true=>rw[hh]at st;rw[aq rfl];have T:=O E _ (by omega) h.kc;refine⟨G.set E<|.li<|(made++[ke row A nm r]).map .d,_,iW i,iM<|ke row A nm r,st _<|(nq<|lY (d:=true)<|by kernel_rfl).trans ?_,jn _ _ (λj c s V e=>by rw[ao<|bK V];exact O j c s e) (by rw[ao<|by omega];exact o.get (aB<|kQ h.pc)) (aB<|kQ T) (mu (o.sf E (by rw[aN];exact N)<|mu h.sk<|l _)<|lu _ _)<|λj y=>mu (o.bnd (L.bnd h.bnd) j<|by rw[aN]at y;exact y)<|lu _ _,(L.trans Y).trans (jv.vR<|by omega)⟩;rw[sZ rfl T (iV (d:=ke row A nm r) rfl) T<|by rw[aj];omega,bj];rfl
theorem HU(m:yi Zm row t A nm)(nd:(row.map jN).Nodup)(s2 s5):∀(rest B:aa Rd) (S:iZ) (C:om) (made:jD) (i f c:j3),row=B++rest->Jn S n J I H F E M P lc row B C made->row.length<=9000->made.length<=B.length->
 ∃S' T s k d,ki (hV 8) (tV a Zm) (rest.map Rd.d) (sr nm t s2 s5 I H F E i f c) S=.nx (sr nm t s2 s5 I H F E s k d) S'
  /\Jn S' n J I H F E M P lc row row T (made++(rest.filter<|hit row A t).map (ke row A nm))/\jv n S S'
 |[],B,S,C,made,i,f,c,e,h,_,_=>by rw[aU]at e;subst e;exact⟨S,C,i,f,c,rfl,by rw[List.filter_nil,dg,aU];exact h,.refl _ _⟩
 |r::rest,B,S,C,made,i,f,c,e,h,w,V=>by
  have U:B.length+(rest.length+1)=row.length:=by rw[e,ag];rfl
  have x:Pl row r (own B r.m).length:=by rw[e]at nd⊢;exact Pl.of nd
  obtain⟨O,R,k,d,L,z,v⟩:=R6 (a:=a) m h r x (by omega) (by omega) s2 s5 f c;have l:(made++(if hit row A t r=true then[ke row A nm r]else[])).length<=(B++[r]).length:=by rw[ag,ag];split<;>simp<;>omega
  obtain⟨N,Q,q,p,j,G,y,u⟩:=HU m nd s2 s5 rest (B++[r]) O R _ (iM r.d) k d (by rw[aT];exact e) z w l;refine⟨N,Q,q,p,j,?_,?_,v.trans u⟩
  .show m5 (tV a Zm (sr nm t s2 s5 I H F E (iM r.d) f c) S) (ki (hV 8) (tV a Zm)<|rest.map Rd.d)=_;rw[L];exact G
  .have:made++((r::rest).filter (hit row A t)).map (ke row A nm)=(made++(if hit row A t r=true then[ke row A nm r]else[]))++(rest.filter<|hit row A t).map (ke row A nm):=by
    rw[aT]
    congr 1
    cases o:hit row A t r with
    |false=>rw[cf<|by rw[o];exact av,aA av];rfl
    |true=>rw[cc o,aq rfl];rfl
   rw[this];exact y
def Te(y:yi Zm row t A nm)(nd:(row.map jN).Nodup)(x:row.length<=9000)(h0:S[0]?=some .mk)(G:kS S):
    ∃S',Gr S S'/\jc (Cg a Zm S.length (jR 11 [.d<|.str nm,.d t.d,.d<|.lst<|row.map Rd.d]) S)=.ok (.d<|.lst<|(row.filter<|hit row A t).map (ke row A nm)) S':=by
 have N:Lg (ub []) (S++[.dk [],.dt []]) S.length (S++[Cell.dk [],.dt []]).length S.length (S.length+1) [] [] (λ_=>none) []:=by rw[ag];refine⟨af _,by simp,by omega,by simp,by omega,xH S _ _,vW S _ _,λm t=>rfl,λm=>rfl,λm _=>rfl,λm q e=>(nomatch e),λm m' q e=>(nomatch e),λj e=>(nomatch e),λj=>rfl⟩
 have k:jv S.length S (S++[.dk [],.dt []]):=by have:=(Gr.app (S:=S) (c:=.dk []) λ_=>rfl).trans (Gr.app (c:=.dt []) λ_=>rfl);rw[aT]at this;exact this.lw (af _)
 obtain⟨f,M,P,lc,p,T,r,i⟩:=IB (a:=a) (Zm:=Zm) (iM (.str nm)) (iM t.d) (iX (row.map Rd.d)) none none none none none row [] _ [] [] _ none N (af _) (af _) (by simpa using(by omega:row.length<=10000));rw[cz]at r;have s:=i.bnd (k.bnd G);have h:Gr f (f++[.dk [],.li []]):=by
  have:=(Gr.app (S:=f) (c:=.dk []) λ_=>rfl).trans (Gr.app (c:=.li []) λ_=>rfl)
  rwa [aT]at this
 have L:Jn (f++[.dk [],.li []]) S.length f.length S.length (S.length+1) f.length (f.length+1) M P lc row [] [] []:=
  ⟨r.mv λj _ z=>h.pre j z,af _,bB _,xH f _ _,vW f _ _,λm=>rfl,λj=>rfl,af _,by
    have:=oH (oH (c:=.dk []) (s (f.length+1)<|by omega) rfl) (c:=.li []) rfl
    rwa [aT]at this,h.bnd s⟩
 obtain⟨U,C,Y,V,u,R,o,w⟩:=HU (a:=a) y nd (iX (row.map Rd.d)) p row [] _ [] [] none none none rfl L x (af _);rw[cz]at o;have v:S.length<=f.length:=aW k.len i.len;have l:jv S.length S (U.set (f.length+1) .no):=(((k.trans i).trans (h.lw v)).trans w).trans (jv.set (by omega) λ_ _=>rfl);refine⟨_,⟨l.len,l.pre,l.sf,l.bnd⟩,?_⟩;unfold Cg;rw[kB<|show uI _ S=.ok (.loc S.length) (S++[.dk []])from rfl];have O:qY ((jR 11 [.d<|.str nm,.d t.d,.d<|.lst<|row.map Rd.d]).set 3 (ba S.length)) (S++[.dk []])=.ok (.loc<|S.length+1) (S++[.dk [],.dt []]):=by have:(S++[Cell.dk []])++[Cell.dt []]=S++[.dk [],.dt []]:=aT ..;rw[<-this,show S.length+1=(S++[Cell.dk []]).length by rw[ag];rfl];rfl
 rw[kB O];show jc (iO (k8 _ _ _) _ [iM<|.str nm,iM t.d,iX<|row.map Rd.d,ba S.length,ba<|S.length+1,none,none,none,none,none,none]<|S++[.dk [],.dt []])=_;rw[jC<|(qW rfl).trans T];rw[kB<|show uI _ f=.ok (.loc f.length) (f++[.dk []])from rfl];have Q:∀ρ,kY (λρ=>(iQ ρ).bind ju) ρ (f++[.dk []])=.ok (.loc<|f.length+1) (f++[.dk [],.li []]):=λρ=>by have:(f++[Cell.dk []])++[Cell.li []]=f++[.dk [],.li []]:=aT ..;rw[<-this,show f.length+1=(f++[Cell.dk []]).length by rw[ag];rfl];rfl
 rw[kB<|Q _];show jc (iO (k8 _ _ _) _ [iM<|.str nm,iM t.d,iX<|row.map Rd.d,ba S.length,ba<|S.length+1,p,ba f.length,ba<|f.length+1,none,none,none]<|f++[.dk [],.li []])=_;rw[jC<|(qW rfl).trans R,v3 rfl o.kc (by omega) o.sk];rw[aD,aD,aD,aD,aD,aD,aD,aD,show oK (f.length+1) (.lst<|(row.filter<|hit row A t).map (ke row A nm)) (ba<|f.length+1)=iX ((row.filter<|hit row A t).map (ke row A nm))from by show(if f.length+1=f.length+1 then _ else _)=_;rw[aq rfl]]
 rw[y_ret<|iV (d:=.lst<|(row.filter<|hit row A t).map (ke row A nm)) rfl];rfl
def Pb(k:Fq):PyData.strOk k.s=true:=by cases k<;>decide+kernel
def MG(k:Bq):PyData.strOk k.s=true:=by cases k<;>decide+kernel
theorem vI{f}:∀{t:T7},t.Ok f->kM t.d=true/\kX t.d<=t.dep+2
 |.num p q,_=>⟨by kernel_rfl,by show 2<=2;decide⟩
 |.at w,h=>⟨by show(PyData.strOk "at"&&(PyData.strOk w&&true))=true;rw[h.1];decide+kernel,by show 1<=2;decide⟩
 |.here,_=>⟨by kernel_rfl,by show 1<=2;decide⟩
 |.far k n,_=>⟨by show(PyData.strOk k.s&&_)=true;rw[Pb];rfl,by show 1<=2;decide⟩
 |.times p q t,h=>by obtain⟨c,d⟩:=vI (t:=t) h;exact⟨by show(PyData.strOk "times"&&(true&&(kM t.d&&true)))=true;rw[c];decide+kernel,by show max 0 (max 1<|max (kX t.d) 0)+1<=t.dep+1+2;omega⟩
 |.abs t,h=>by obtain⟨c,d⟩:=vI (t:=t) h;exact⟨by show(PyData.strOk "abs"&&(kM t.d&&true))=true;rw[c];decide+kernel,by show max 0 (max (kX t.d) 0)+1<=t.dep+1+2;omega⟩
 |.not t,h=>by obtain⟨c,d⟩:=vI (t:=t) h;exact⟨by show(PyData.strOk "not"&&(kM t.d&&true))=true;rw[c];decide+kernel,by show max 0 (max (kX t.d) 0)+1<=t.dep+1+2;omega⟩
 |.bin k l r,h=>by obtain⟨c,d⟩:=vI (t:=l) h.1;obtain⟨i,j⟩:=vI (t:=r) h.2;exact⟨by show(PyData.strOk k.s&&(kM l.d&&(kM r.d&&true)))=true;rw[MG,c,i];rfl,by show max 0 (max (kX l.d)<|max (kX r.d) 0)+1<=max l.dep r.dep+1+2;omega⟩
variable{Fc Fw:jg}{Zr Zu Zs Zj:jh}{T:iZ}
def aaW{kvs:lR}{r:Rd}(h:S[n]?=some (.dt kvs)):xS (qX<|zD<|sO qV (dV 0) (λ_=>.ok none)<|λρ=>((iP 2) ρ).bind pI) (zV 1) [iM r.d,ba n] S=.ok (!(valZ kvs<|pk r.m r.t).isSome) S:=by
 unfold xS we LK;rw[xU (iV (d:=.tup [.str r.m,.int r.t])<|by kernel_rfl)<|CT _ _]
 show(RX.bind (match S[n]? with
  |some (.dt kvs)=>RX.ok (valZ kvs<|pk r.m r.t).isSome S
  |_=>.bad) λk c=>RX.ok (!k) c)=_
 rw[h];rfl
theorem EB{c:mV}{f:Rd->i6}:∀{L:aa Rd} {acc:jD},(∀r∈L,∀x,c [iM r.d,ba n] (T++[x])=.ok (f r) (T++[x]))->acc.length+L.length<50000->
 sd c (zD<|dV 0) [none,ba n] T.length (L.map Rd.d) (T++[.li<|acc.map Z.d])=.ok (.loc T.length) (T++[.li<|(acc++(L.filter f).map Rd.d).map Z.d])
 |[],acc,_,_=>by rw[List.filter_nil,dg,aU];rfl
 |r::L,acc,h,m=>by
  rw[au]at m;rw[aD];unfold sd
  show(match c [iM r.d,ba n] (T++[.li (acc.map Z.d)])with
   |.ok b l=>if b=true then(match zD (dV 0) [iM r.d,ba n] l with
    |.ok z k=>(match k[T.length]? with
     |some (.li j)=>if j.length<sizeLine then sd c (zD<|dV 0) [none,ba n] T.length (L.map Rd.d) (k.set T.length<|.li<|j++[z])else .bad
     |_=>.bad)
    |_=>.bad)else sd c (zD (dV 0)) [none,ba n] T.length (L.map Rd.d) l
   |_=>.bad)=_
  rw[h r<|.head _];dsimp only;cases q:f r with
  |false=>rw[aA av,EB (acc:=acc) (λs i=>h s<|.tail _ i)<|by omega,cf<|by simp[q]]
  |true=>rw[aq rfl,iV (d:=r.d) rfl];dsimp only;rw[nF];dsimp only;rw[aq<|rT<|by rw[aj];omega,rR,cc q];have:=EB (f:=f) (L:=L) (acc:=acc++[r.d]) (λs i=>h s<|.tail _ i) (by rw[ag];show acc.length+1+_<_;omega);rw[bj,aT]at this;rw[aD];exact this
def Pf{c:mV}{f:Rd->i6}{ρ:jk}{L:aa Rd}(l:zD (dV 9) ρ T=.ok (.d<|.lst<|L.map Rd.d) T)(j:mM [13] ρ=[none,ba n])(h:∀r∈L,∀x,c [iM r.d,ba n] (T++[x])=.ok (f r) (T++[x]))(i:L.length<50000)(k:kS T)(d:ρ.any (pE T.length)=false):
    pN (v7 (xQ<|zD<|dV 9) [13] c<|zD<|dV 0) ρ T=.ok (.d<|.lst<|(L.filter f).map Rd.d) (T++[.no]):=by
 have e:v7 (xQ<|zD<|dV 9) [13] c (zD<|dV 0) ρ T=.ok (.loc T.length) (T++[.li<|((L.filter f).map Rd.d).map Z.d]):=by unfold v7 xQ;rw[l,j];exact EB (acc:=[]) h (by simpa using i)
 unfold pN;rw[e];dsimp only;rw[nF];dsimp only;rw[qF];dsimp only;rw[aq ⟨af _,oH (k _<|af _)<|lu _ _,d⟩,rR]
theorem Hm{row:aa Rd}{A:mC}{nm:iS}{mI:jk}(o:mI.length=13):∀(L:aa Rd) (kvs:lR) (c:j3),kvs.length+L.length<=10000->(∀j,j9 j (.dt kvs)=false)->
 ∃f l,ki (hV 14) (vb a Fc Fw Zr Zu Zm Zs Zj) (L.map<|ke row A nm) (mI++[ba T.length,c]) (T++[.dt kvs])=.nx (mI++[ba T.length,l]) (T++[.dt f])/\(∀j,j9 j (.dt f)=false)/\(∀j,pE j c=false->pE j l=false)/\∀m t,(valZ f<|pk m t).isSome=((valZ kvs<|pk m t).isSome||L.any λr=>decide<|r.m=m/\r.t=t)
 |[],kvs,c,_,s=>⟨kvs,c,rfl,s,λ_ h=>h,λm t=>by rw[List.any_nil,Bool.or_false]⟩
 |r::L,kvs,c,N,s=>by
  rw[au]at N;have q:∀j,j9 j (.dt<|jL kvs (pk r.m r.t)<|.d<|.bl true)=false:=λj=>by
   cases w:j9 j (.dt<|jL kvs (pk r.m r.t)<|.d<|.bl true)with
   |false=>rfl
   |true=>exact(wY<|show((jL kvs (pk r.m r.t)<|.d<|.bl true).any λp=>mF j p.2)=true from w).elim (λw=>absurd ((s j).symm.trans w) av) (λw=>nomatch w)
  obtain⟨f,l,e,V,Q,U⟩:=Hm o L (jL kvs (pk r.m r.t) (.d (.bl true))) (iM (ke row A nm r)) (by have:=xg (kvs:=kvs) (k:=pk r.m r.t) (v:=.d (.bl true));omega) q;refine⟨f,l,?_,V,λj _=>Q j rfl,λm t=>?_⟩
  .have O:hV 14 (ke row A nm r) (mI++[ba T.length,c])=some (mI++[ba T.length,iM<|ke row A nm r]):=by
    show(if 14<(mI++[ba T.length,c]).length then some ((mI++[ba T.length,c]).set 14 _)else none)=_;rw[aq<|by rw[ag,o];show 14<13+2;decide,fG _ _<|by omega,o];rfl
   have y:(mI++[ba T.length,iM<|ke row A nm r])[13]?=some (ba T.length):=by rw[aK<|by omega,o];rfl
   have u:(mI++[ba T.length,iM<|ke row A nm r])[14]?=some (iM<|ke row A nm r):=by rw[aK<|by omega,o];rfl
   have st:vb a Fc Fw Zr Zu Zm Zs Zj (mI++[ba T.length,iM<|ke row A nm r]) (T++[.dt kvs])=.nx (mI++[ba T.length,iM<|ke row A nm r]) (T++[.dt<|jL kvs (pk r.m r.t)<|.d<|.bl true]):=by
    unfold vb;rw[xM (iV (d:=.bl true) rfl) (jM y) (xU (iV (d:=.tup [.str r.m,.int r.t]) (by
     have z:dV 14 (j6<|mI++[ba T.length,iM<|ke row A nm r])=.ok (ke row A nm r):=by unfold dV j6;rw[aC,u];rfl
     show(dV 14 (j6 _)).bind (λx=>(R.ok (none:tM)).bind λi=>(R.ok (some (2:Int))).bind λj=>qV x i j)=_;rw[z];kernel_rfl)) (CT _ _)) (nF T _) (by omega),rR]
   rw[aD];unfold ki;rw[O];show m5 (vb a Fc Fw Zr Zu Zm Zs Zj (mI++[ba T.length,iM<|ke row A nm r])<|T++[.dt kvs]) _=_;rw[st];exact e
  .rw[U,vX,ec];by_cases w:r.m=m/\r.t=t
   .rw[aq<|by rw[w.1,w.2],aR w];simp
   .rw[aA λv=>w (by
     have G:=(List.cons.inj v);exact⟨Sum.inr.inj G.1,Sum.inl.inj (List.cons.inj G.2).1⟩),aG w]
    simp
theorem I7:∀{l:aa Rd},(l.map jN).Nodup->∀x∈l,∀y∈l,jN x=jN y->x=y
 |[],_,x,c,_,_,_=>nomatch c
 |z::l,nd,x,c,y,f,e=>by
  rw[aD]at nd;obtain⟨d,h⟩:=bA.mp nd;rcases aI.mp c with rfl|hx'
  .rcases aI.mp f with rfl|hy';.rfl
   .exact absurd (aH.mpr ⟨y,hy',e.symm⟩) d
  .rcases aI.mp f with rfl|hy';.exact absurd (aH.mpr ⟨x,hx',e⟩) d
   .exact I7 h x hx' y hy' e
def Px{row:aa Rd}{f:Rd->i6}(nd:(row.map jN).Nodup){r:Rd}(c:r∈row):((row.filter f).any λs=>decide<|s.m=r.m/\s.t=r.t)=f r:=by
 cases h:f r with
 |true=>exact gR.mpr ⟨r,bF.mpr ⟨c,h⟩,aR ⟨rfl,rfl⟩⟩
 |false=>refine bX.mpr λs i=>?_;obtain⟨j,d⟩:=bF.mp i;intro w;have w:=cQ w;have:=I7 nd s j r c (by unfold jN;rw[w.1,w.2]);rw[this,h]at d;cases d
end
abbrev Be(t:T7):Prop:=Cw t/\t.dep<=4/\t.parts.length<=19
structure Fz(ak:pq)(Fc Fw:jg)(Zu Zr Zm Zs Zj:jh):Prop where
 c:Cl Fc
 w:∀c:Int,∃st:Int,(st%26≠0/\st*2%26≠0)/\∀k:Int,0<=k->k<26->PyData.strOk (og c st k)=true/\Fw [.int c,.int k]=.ok (.str<|og c st k)
 r:∀{S:iZ} {ws:jy},W3 ws->∀(ns:lJ),ns.length<=63->∀first most:Int,most<=1000/\0<=most->S[0]?=some .mk->kS S->∃(row:aa Rd) (S':iZ),RowOk row/\(row.length:Int)<=most+12/\Gr S S'/\Zr [.d<|.lst<|ns.map .int,.d<|.int first,.d<|.int most,.d<|.lst<|ws.map D.str] S=.ok (.d<|.lst<|row.map Rd.d) S'
 u:∀{S:iZ} {ws:jy},W3 ws->∀(ns:lJ) (first many:Nat),many<=12->S[0]?=some .mk->kS S->∃(R:nC) (S':iZ),uW ws R/\R.length=many/\Gr S S'/\Zu [.d<|.lst<|ns.map .int,.d<|.int first,.d<|.int many,.d<|.lst<|ws.map D.str] S=.ok (.d<|.lst<|R.map jB) S'
 m:∀{S:iZ} {R:nC} {row:aa Rd} {nr nu:Nat},uV R->yn row->S[0]?=some .mk->kS S->S[nr]?=some (.li<|(row.map Rd.d).map .d)->S[nu]?=some (.li<|(R.map jB).map .d)->∃S',Gr S S'/\Zm [.loc nr,.loc nu] S=.ok (.d<|.lst (judge ak R row).1) S'
 s:∀{S:iZ} {R:nC} {row:aa Rd} {nr nu:Nat},uV R->yn row->S[0]?=some .mk->kS S->S[nr]?=some (.li<|(row.map Rd.d).map .d)->S[nu]?=some (.li<|(R.map jB).map .d)->∃S',Gr S S'/\Zs [.loc nr,.loc nu] S=.ok (.d<|.lst<|(judge ak R row).2.map Rd.d) S'
 j:∀{S:iZ} {row:aa Rd} {nm:iS} {t:T7},Be t->(∀r∈row,nB r)->row.length<=9000->(row.map jN).Nodup->S[0]?=some .mk->kS S->∃S',Gr S S'/\Zj [.d<|.str nm,.d t.d,.d<|.lst<|row.map Rd.d] S=.ok (.d<|.lst<|(row.filter<|hit row (ak t) t).map (ke row (ak t) nm)) S'
variable{a:Ad}{O:pq}{Fc Fw:jg}{Zu Zr Zm Zs Zj:jh}{S:iZ}
abbrev o8(d0 d1 d2 d3 d4:D)(n5:Nat)(d6 d7:D)(due:jD)(row:aa Rd)(l:jk):jk:=iM d0::iM d1::iM d2::iM d3::iM d4::ba n5::iM d6::iM d7::iX due::iX (row.map Rd.d)::l
abbrev sT(O:pq)(row:aa Rd)(nm:iS)(t:T7):aa D:=(row.filter<|hit row (O t) t).map (ke row (O t) nm)
def Yo(H:Fz O Fc Fw Zu Zr Zm Zs Zj){d0 d1 d2 d3 d4 d6 d7:D}{m:Nat}{nm:iS}{t:T7}{i:jD}{row:aa Rd}(J:Be t)(M:∀r∈row,nB r)(Y:i.length+row.length<=5000)(nd:(row.map jN).Nodup)(P:S[0]?=some .mk)(G:kS S)(h5:m<S.length)(v u l:j3)(z:∀j,pE j l=false):
    ∃S' s q k,vf a Fc Fw Zu Zr Zm Zs Zj (o8 d0 d1 d2 d3 d4 m d6 d7 i row [iM<|.str nm,iM t.d,v,u,l]) S=.nx (o8 d0 d1 d2 d3 d4 m d6 d7 (j5 O (i,row) (nm,t)).1 (j5 O (i,row) (nm,t)).2 [iM<|.str nm,iM t.d,s,q,k]) S'
     /\Gr S S'/\∀j,pE j k=false:=by
 obtain⟨h,C,U⟩:=H.j (nm:=nm) J M (by omega) nd P G;have g2:Gr h (h++[.dt []]):=Gr.app λ_=>rfl;have fl:(row.filter<|hit row (O t) t).length<=row.length:=fF ..;obtain⟨kvs,k,R,N,w,hv⟩:=Hm (a:=a) (Fc:=Fc) (Fw:=Fw) (Zr:=Zu) (Zu:=Zr) (Zm:=Zm) (Zs:=Zs) (Zj:=Zj) (T:=h) (row:=row) (A:=O t) (nm:=nm) (mI:=o8 d0 d1 d2 d3 d4 m d6 d7 i row [iM (.str nm),iM t.d,iX (sT O row nm t)]) rfl (row.filter (hit row (O t) t)) [] l (by simp only[cy];omega) (λ_=>rfl);have I:Gr h (h++[.dt kvs]):=Gr.app N;have V:=I.bnd (C.bnd G);have p:(h++[Cell.dt kvs]).length=h.length+1:=by rw[ag];rfl
 have o:∀j,pE j k=false:=λj=>w j (z j)
 have Q:=Pf (T:=h++[.dt kvs]) (n:=h.length) (L:=row) (f:=λr=>!hit row (O t) t r) (c:=xS (qX<|zD<|sO qV (dV 0) (λ_=>.ok none)<|λρ=>((iP 2) ρ).bind pI)<|zV 1)
  (ρ:=o8 d0 d1 d2 d3 d4 m d6 d7 i row [iM (.str nm),iM t.d,iX (sT O row nm t),ba h.length,k]) (iV rfl) rfl (λr y x=>by
    rw[aaW (kvs:=kvs) (by rw[aw (by rw[p];omega)];exact nF h _),hv,show valZ ([]:aa (aa Key×Z)) (pk r.m r.t)=none from rfl,Px nd y];rfl) (by omega) V (by
    have:=C.len;show(false||(false||(false||(false||(false||(decide (m=(h++[Cell.dt kvs]).length)||(false||(false||(false||(false||(false||(false||(false||(decide (h.length=(h++[Cell.dt kvs]).length)||(pE _ k||false)))))))))))))))=false;rw[o,p,aG (by omega),aG (by omega)];rfl)
 refine⟨(h++[.dt kvs])++[.no],iX<|sT O row nm t,ba h.length,k,?_,(C.trans I).trans (Gr.app λ_=>rfl),o⟩;unfold vf;rw[kB<|lP (i3 (iV (d:=.str nm) rfl)<|i3 (iV (d:=t.d) rfl)<|i3 (iV (d:=.lst<|row.map Rd.d) rfl) jG) U];rw[kB<|show qY _ h=.ok (.loc h.length) (h++[.dt []])from rfl];show iO (k8 _ _ _) _ (o8 d0 d1 d2 d3 d4 m d6 d7 i row [iM<|.str nm,iM t.d,iX<|sT O row nm t,ba h.length,l]) (h++[.dt []])=_;have F:ki (hV 14) (vb a Fc Fw Zu Zr Zm Zs Zj) (sT O row nm t) (o8 d0 d1 d2 d3 d4 m d6 d7 i row [iM<|.str nm,iM t.d,iX<|sT O row nm t,ba h.length,l]) (h++[.dt []])=.nx (o8 d0 d1 d2 d3 d4 m d6 d7 i row [iM<|.str nm,iM t.d,iX<|sT O row nm t,ba h.length,k]) (h++[.dt kvs]):=R;rw[jC<|(qW rfl).trans F];rw[kB<|show pN _ (o8 d0 d1 d2 d3 d4 m d6 d7 i row [iM<|.str nm,iM t.d,iX<|sT O row nm t,ba h.length,k]) _=_ from Q];rw[kj (iV (d:=.lst<|i++(row.filter<|hit row (O t) t).map (ke row (O t) nm))<|by show wL (.lst i) (.lst _)=_;unfold wL BE;dsimp only;rw[aq<|by rw[aj];exact aW (show _<=10000 by omega) (by decide)])<|ar rfl]
 rfl
theorem Il(H:Fz O Fc Fw Zu Zr Zm Zs Zj){d0 d1 d2 d3 d4 d6 d7:D}{n5:Nat}:∀(R:nC) (c:jD) (row:aa Rd) (S:iZ) (l k i f d:j3),uV R->(∀r∈row,nB r)->c.length+row.length<=5000->(row.map jN).Nodup->S[0]?=some .mk->kS S->n5<S.length->(∀j,pE j d=false)->
 ∃S' y w o n m,ki (hT 2<|hC (hV 10)<|hC (hV 11) P2.hN) (vf a Fc Fw Zu Zr Zm Zs Zj) (R.map jB) (o8 d0 d1 d2 d3 d4 n5 d6 d7 c row [l,k,i,f,d]) S=.nx (o8 d0 d1 d2 d3 d4 n5 d6 d7 (R.foldl (j5 O) (c,row)).1 (R.foldl (j5 O) (c,row)).2 [y,w,o,n,m]) S'
 |[],c,row,S,l,k,i,f,d,_,_,_,_,_,_,_,_=>⟨S,l,k,i,f,d,rfl⟩
 |ru::R,c,row,S,l,k,i,f,d,I,G,N,nd,M,J,L,C=>by
  obtain⟨nm,t⟩:=ru;obtain⟨V,o,n,m,T,F,z⟩:=Yo (a:=a) (d0:=d0) (d1:=d1) (d2:=d2) (d3:=d3) (d4:=d4) (d6:=d6) (d7:=d7) (nm:=nm) H (I _ (.head _)) G N nd M J L i f d C;have A:(j5 O (c,row) (nm,t)).1.length+(j5 O (c,row) (nm,t)).2.length<=5000:=by show(c++(row.filter<|hit row (O t) t).map _).length+(row.filter λr=>!hit row (O t) t r).length<=5000;have:=Aj (hit row (O t) t) row;rw[ag,aj];omega
  have sub:(j5 O (c,row) (nm,t)).2.Sublist row:=List.filter_sublist;obtain⟨U,v,u,s,q,p,Q⟩:=Il H R (j5 O (c,row) (nm,t)).1 (j5 O (c,row) (nm,t)).2 V (iM<|.str nm) (iM t.d) o n m (λx P=>I x<|.tail _ P) (λr h=>G r<|sub.subset h) A ((sub.map jN).nodup nd) (F.get M) (F.bnd J) (aE L F.len) z;refine⟨U,v,u,s,q,p,?_⟩;show m5 (vf a Fc Fw Zu Zr Zm Zs Zj (o8 d0 d1 d2 d3 d4 n5 d6 d7 c row [iM<|.str nm,iM t.d,i,f,d]) S) (ki (hT 2<|hC (hV 10)<|hC (hV 11) P2.hN) (vf a Fc Fw Zu Zr Zm Zs Zj)<|R.map jB)=_;rw[T];exact Q
theorem Ik(u t s r q p o n m l i h f c:j3):∀(G:aa Mark) (j:j3),∃k,ki (hV 14) (wH a Fc Fw Zu Zr Zm Zs Zj) (G.map rM) [u,t,s,r,q,p,o,n,m,l,i,h,f,c,j] S=.nx [u,t,s,r,q,p,o,n,m,l,i,h,f,c,k] S
 |[],j=>⟨j,rfl⟩
 |g::G,j=>by obtain⟨k,e⟩:=Ik u t s r q p o n m l i h f c G (iM<|rM g);refine⟨k,?_⟩;have st:wH a Fc Fw Zu Zr Zm Zs Zj [u,t,s,r,q,p,o,n,m,l,i,h,f,c,iM<|rM g] S=.nx [u,t,s,r,q,p,o,n,m,l,i,h,f,c,iM<|rM g] S:=tf (lY (d:=false)<|by kernel_rfl);show m5 (wH a Fc Fw Zu Zr Zm Zs Zj [u,t,s,r,q,p,o,n,m,l,i,h,f,c,iM<|rM g] S) _=_;rw[st];exact e
end nD
namespace WM
open PySem L2 P2 WP
def aan{F:jh}{d:aa V}{Q:VK}{a:lJ}(p:d.length=1)(j:ja K al H d [.lst<|a.map D.int])(i:md K H)(e:F [.d<|.lst<|a.map .int] [.mk]=.ok (.d<|.bl true) S')(q:∀H',kU K H H'->Q (.bl true) H'):mR 1 K F d H Q E:=by
 refine⟨p,i,λ_=>True,λ_=>none,[.d<|.lst<|a.map .int],[.mk],λ_ _=>trivial,⟨λ_ _ h=>(by cases h),λn c h _ m=>?_,λ_ _ h=>(by cases h),λ_ _ _ h=>(by cases h),λ_ _ _ _ _=>trivial⟩,.ofD (ds:=[.lst<|a.map .int])<|ja.mv (.sub λ_ _=>trivial) j,?_⟩
 .cases n with
  |zero=>cases h;exact absurd rfl m
  |succ n=>simp at h
 .rw[e];intro t l H' v f k;have s:v=.bl true:=by cases k;rfl
  rw[s];exact q H' ⟨λb o no r=>f.fr b o no r λ_=>nofun,f.hf,λ_=>f.tt⟩
end WM
namespace nD
open PySem L2 P2 WP WM
def wh{f:jd}{ρ:jk}{S:iZ}{n i:Nat}{a:aa Z}{z:Z}(h:f ρ S=.ok (.loc n) S)(d:S[n]?=some (.li a))(c:a[i]?=some z):r4 f i ρ S=.ok z S:=by
 unfold r4;rw[h]
 show(match S[n]? with
  |some (.li a)=>(match a[i]? with
   |some z=>RX.ok z S
   |none=>.bad)
  |_=>.bad)=_
 rw[d];dsimp only;rw[c]
def LJ{f:jd}{ρ:jk}{S:iZ}{n:Nat}{a:aa Z}(h:f ρ S=.ok (.loc n) S)(c:S[n]?=some (.li a)):xJ f ρ S=.nx ρ (S.set n<|.li []):=by
 unfold xJ;rw[h]
 show(match S[n]? with
  |some (.li _)=>kT.nx ρ (S.set n<|.li [])
  |_=>.bad)=_
 rw[c]
def Yp{a R}(h:uW a R):uV R:=λc d=>let g:=(h.ok c d).2;⟨g.w,g.dep,g.sz⟩
abbrev nL:jk:=[none,none,none,none,none,none,none]
abbrev kO(ns:lJ)(ws:jy)(l:jk):jk:=iX (ns.map .int)::iX (ws.map D.str)::l
abbrev sj(ns:lJ)(ws:jy)(many:Nat)(R:nC)(row:aa Rd)(l:jk):jk:=kO ns ws (iW many::iX (R.map jB)::iX (row.map Rd.d)::l)
variable{a:Ad}{ak:pq}{Fc Fw:jg}{Zu Zr Zm Zs Zj:jh}
def OV{S:iZ}{q p o n m l k j i h f:j3}{G:aa Mark}{J L:D}(t:J=.lst (G.map rM))(s:kM J=true/\kX J<=60)(r:kM L=true/\kX L<=60):
    jc (iO (k8 (λρ=>((dV 6) ρ).bind jT) (hV 14)<|wH a Fc Fw Zu Zr Zm Zs Zj) (jo<|zD<|vj (d2 oz (dV 6)<|dV 8)<|d2 oz (dV 7)<|dV 9) [q,p,o,n,m,l,iM J,iM L,iM J,iM L,k,j,i,h,f] S)=.ok (.d<|.bl true) S:=by
 obtain⟨u,e⟩:=Ik (a:=a) (Fc:=Fc) (Fw:=Fw) (Zu:=Zu) (Zr:=Zr) (Zm:=Zm) (Zs:=Zs) (Zj:=Zj) (S:=S) q p o n m l (iM J) (iM L) (iM J) (iM L) k j i h G f;rw[jC ((qW (by rw[t];rfl)).trans e),y_ret (iV (d:=.bl true) (by show((oz J J).bind P2.tB).bind (λc=>if c=true then oz L L else _)=_;rw[eq_self s.1 s.2,eq_self r.1 r.2];rfl))]
 rfl
def Td(H:Fz ak Fc Fw Zu Zr Zm Zs Zj)(q:lJ)(hn:q.length<=63)(b:Nat):∃S',jc (B0 a Fc Fw Zu Zr Zm Zs Zj b (jR 15 [.d<|.lst<|q.map .int]) [.mk])=.ok (.d<|.bl true) S':=by
 have o0:([Cell.mk]:iZ)[0]?=some .mk:=rfl;have b0:kS [Cell.mk]:=λ_ _=>rfl
 obtain⟨st,O,hw⟩:=H.w (q.getD 0 0)
 let u:aa iS:=[og (q.getD 0 0) st 0,og (q.getD 0 0) st 1,og (q.getD 0 0) st 2]
 have W:W3 u:=⟨λw Rg=>by
  have:w=og (q.getD 0 0) st 0\/w=og (q.getD 0 0) st 1\/w=og (q.getD 0 0) st 2:=by simpa [u]using Rg
  rcases this with rfl|rfl|rfl;· exact(hw 0 (by decide)<|by decide).1
  · exact(hw 1 (by decide)<|by decide).1
  · exact(hw 2 (by decide)<|by decide).1,by
  have n1:=Et (c:=q.getD 0 0) (i:=0) (j:=1) O (by decide) (by decide) (by decide);have n2:=Et (c:=q.getD 0 0) (i:=0) (j:=2) O (by decide) (by decide) (by decide);have n3:=Et (c:=q.getD 0 0) (i:=1) (j:=2) O (by decide) (by decide) (by decide);show List.Nodup [_,_,_];exact bA.mpr ⟨λh=>(aI.mp h).elim n1 λh=>n2 (aQ.mp h),bA.mpr ⟨λh=>n3 (aQ.mp h),bA.mpr ⟨(λh=>nomatch h),List.Pairwise.nil⟩⟩⟩,rfl⟩
 have e1:zD (jt<|kW (λρ=>((iK (dC<|.int 3) iQ) ρ).bind qT) 1 [0] (gV 0) (λ_=>.ok true)<|dA Fw<|iK (dA Fc<|iK (dV 1)<|iK (dC<|.int 0) iQ)<|iK (dV 0) iQ) [some<|.d<|.lst<|q.map .int,none,none,none,none,none,none,none,none,none,none,none,none,none,none] [.mk]=.ok (.d<|.lst<|u.map D.str) [.mk]:=by
  refine iV (rr (X:=u.map D.str) ?_);generalize Qt:dA Fw (iK (dA Fc<|iK (dV 1)<|iK (dC<|.int 0) iQ)<|iK (dV 0) iQ)=fe;have ev:∀k:Int,0<=k->k<26->fe [.sh<|.int k,.sh<|.lst<|q.map .int]=.ok (.str<|og (q.getD 0 0) st k):=λk k0 Y=>by subst Qt;show(((Fc [.lst<|q.map .int,.int (0:Nat)]).bind λx=>R.ok [x,D.int k]).bind Fw)=_;rw[H.c q 0];exact(hw k k0 Y).2
  have e0:=ev 0 (by decide) (by decide);have e1:=ev 1 (by decide) (by decide);have e2:=ev 2 (by decide) (by decide);show(if 3<=sizeLine then vG (mP (gV 0) (λ_=>R.ok true) fe [.no,.sh<|.lst<|q.map .int] [.int 0,.int 1,.int 2])else .bad)=_;rw[aq<|by decide];have I:mP (gV 0) (λ_=>R.ok true) fe [.no,.sh<|.lst<|q.map .int] [.int 0,.int 1,.int 2]=some (u.map D.str):=by show((rN<|fe [.sh<|.int 0,.sh<|.lst<|q.map .int]).bind λv=>((rN<|fe [.sh<|.int 1,.sh<|.lst<|q.map .int]).bind λv=>((rN<|fe [.sh<|.int 2,.sh<|.lst<|q.map .int]).bind λv=>some [v]).bind λvs=>some<|v::vs).bind λvs=>some<|v::vs)=_;rw[e0,e1,e2];rfl
  rw[I];rfl
 clear_value u
 have em:∃o:Nat,1<=o/\o<=12/\∀rest:ji,iO (i4 2<|zD<|d2 jV (dC<|.int 1)<|d2 jJ (dA Fc<|iK (dV 0)<|iK (dC<|.int 3) iQ)<|dC<|.int 3)
  (iO (jr (zB<|b1 tB<|d2 jm (d2 jJ (d2 kx (dA Fc<|iK (dV 0)<|iK (dC<|.int 3) iQ)<|dC<|.int 3)<|dC<|.int 8)<|dC<|.int 1) (i4 2<|zD<|dC<|.int 12) jA) rest)
  (kO q u<|none::none::none::none::none::none::nL) [.mk]
  =rest (kO q u<|some (.d<|.int o)::none::none::none::none::none::nL) [.mk]:=by
  have I:Fc [.lst<|q.map .int,.int (3:Nat)]=.ok (.int<|q.getD 3 0):=H.c q 3;generalize q.getD 3 0=w at I;obtain⟨p,hp⟩:=bp (da w<|show(3:Int)≠0 by decide);have l3:=c0 w (show(0:Int)<3 by decide);have s2:zD (d2 jV (dC (.int 1)) (d2 jJ (dA Fc (iK (dV 0) (iK (dC (.int 3)) iQ))) (dC (.int 3)))) (kO q u (none::none::none::none::none::none::nL)) [.mk]=.ok (.d (.int ((1+p:Nat):Int))) [.mk]:=iV (by
   show((Fc [.lst<|q.map .int,.int (3:Nat)]).bind λx=>jJ x<|.int 3).bind (λy=>jV (.int 1) y)=_;rw[I];show(jJ (.int w)<|.int 3).bind (λy=>jV (.int 1) y)=_;rw[oG<|by decide,hp];show R.ok (D.int<|1+(p:Int))=_
   congr 2)
  have U:∀m:Nat,zB (b1 tB<|d2 jm (d2 jJ (d2 kx (dA Fc<|iK (dV 0)<|iK (dC<|.int 3) iQ)<|dC<|.int 3)<|dC<|.int 8)<|dC<|.int 1) (kO q u<|some (.d<|.int m)::none::none::none::none::none::nL) [.mk]=.ok (decide<|w/3%8=1) [.mk]:=λm=>lY (by show((((Fc [.lst<|q.map .int,.int (3:Nat)]).bind λx=>kx x<|.int 3).bind λx=>jJ x<|.int 8).bind λx=>jm x<|.int 1).bind tB=_;rw[I];show(((kx (.int w)<|.int 3).bind λx=>jJ x<|.int 8).bind λx=>jm x<|.int 1).bind tB=_;rw[vP (by decide)<|by decide];show((jJ (.int<|w/3)<|.int 8).bind λx=>jm x<|.int 1).bind tB=_;rw[oG<|by decide];rfl)
  by_cases HA:w/3%8=1
  .refine⟨12,by decide,by decide,λrest=>?_⟩;rw[kB s2];show iO _ _ (kO q u<|some (.d<|.int ((1+p:Nat):Int))::none::none::none::none::none::nL) [.mk]=_;rw[jC<|(nq<|(U<|1+p).trans (by rw[aR HA])).trans (kj (iV (d:=.int 12) rfl)<|ar rfl)];rfl
  .refine⟨1+p,by omega,by omega,λrest=>?_⟩;rw[kB s2];show iO _ _ (kO q u<|some (.d<|.int ((1+p:Nat):Int))::none::none::none::none::none::nL) [.mk]=_;rw[lX<|(U<|1+p).trans (by rw[aG HA])]
 obtain⟨o,m1,m2,em⟩:=em;obtain⟨R,S1,hR,PN,g1,eu⟩:=H.u W q 4 o m2 o0 b0;have o1:=g1.get o0;have B1:=g1.bnd b0;obtain⟨n,t,z,hlen,g2,er⟩:=H.r W q hn (4+(o:Int)) (180 - 10*(o:Int)) (by omega) o1 B1;have o2:=g2.get o1;have B2:=g2.bnd B1;have GR:=Yp hR;have GW:yn n:=⟨λr C=>(z.ok r C).1,by omega⟩;have h2:=kQ o2
 let cA:Cell:=.li ((n.map Rd.d).map .d)
 let Q:Cell:=.li ((R.map jB).map .d)
 let cC:Cell:=.li [.loc t.length,.loc<|t.length+1]
 let L:iZ:=t++[cA,Q]
 have lT:L.length=t.length+2:=by rw[ag];rfl
 let M:iZ:=L++[cC]
 have lS:M.length=t.length+3:=by rw[ag,lT];rfl
 have N:∀{j c},L[j]?=some c->M[j]?=some c:=λ{j c} h=>by rw[aw<|kQ h];exact h
 have gA:Gr t L:=by
  have:=(Gr.app (S:=t) (c:=cA)<|lu _).trans (Gr.app (c:=Q)<|lu _)
  rwa [aT]at this
 have l3:jv t.length L M:=jv.app (by omega) λj hj=>by show(decide (t.length=j)||(decide (t.length+1=j)||false))=false;rw[aG<|by omega,aG<|by omega];rfl
 have o3:M[0]?=some .mk:=N (gA.get o2);have B3:kS M:=l3.bnd (gA.bnd B2);have a3:M[t.length]?=some cA:=N (xH t _ _);have b3:M[t.length+1]?=some Q:=N (vW t _ _);have I:M[t.length+2]?=some cC:=by rw[<-lT];exact nF L _
 obtain⟨S4,P,e4⟩:=H.m GR GW o3 B3 a3 b3;obtain⟨A,g5,e5⟩:=H.s GR GW (P.get o3) (P.bnd B3) (P.get a3) (P.get b3);have F:=P.trans g5;have B5:=F.bnd B3;have a5:=F.get a3;have b5:=F.get b3;have c5:=F.get I
 let T:iZ:=(A.set t.length<|.li []).set (t.length+1) (.li [])
 have b6:(A.set t.length<|.li [])[t.length+1]?=some Q:=by rw[ao<|by omega];exact b5
 have c6:(A.set t.length<|.li [])[t.length+2]?=some cC:=by rw[ao<|by omega];exact c5
 have o7:T[0]?=some .mk:=by rw[ao<|by omega,ao<|by omega];exact F.get o3
 have lS7:T.length=A.length:=by rw[aN,aN]
 have B7:kS T:=λj hj=>mu (mu (B5 j<|by omega) rfl) rfl;have n7:t.length+2<T.length:=by have:=kQ c5;omega
 obtain⟨S8,Zl,Zn,Zo,Zq,Zv,e8⟩:=Il (a:=a) H (d0:=.lst (q.map .int)) (d1:=.lst (u.map D.str)) (d2:=.int o) (d3:=.lst (R.map jB)) (d4:=.lst (n.map Rd.d)) (d6:=.lst (judge ak R n).1) (d7:=.lst ((judge ak R n).2.map Rd.d)) (n5:=t.length+2) R [] n T none none none none none GR GW.1 (by simp only[cy];omega) z.nd o7 B7 n7 (λ_=>rfl);obtain⟨G,eG,hG,_⟩:=HX (ak:=ak) R n;have Uz:kM (.lst (judge ak R n).1)=true/\kX (.lst (judge ak R n).1)<=60:=by rw[eG];refine IK λg hg=>?_;obtain⟨Y,⟨J,Q9,k2⟩,N⟩:=hG g hg;exact UD (z.ok _ Y).2 (by rw[k2];exact(hR.ok J Q9).1) λk hk=>by obtain⟨s,hs,rfl⟩:=N k hk;exact(z.ok s hs).2
 have UA:kM (.lst<|(judge ak R n).2.map Rd.d)=true/\kX (.lst<|(judge ak R n).2.map Rd.d)<=60:=IK λr C=>Dn (z.ok r<|by rw[HY]at C;exact(bF.mp C).1).2;have V:kM (.lst [.lst<|n.map Rd.d,.lst<|R.map jB])=true/\kX (.lst [.lst<|n.map Rd.d,.lst<|R.map jB])<=60:=by
  have q1:lM (n.map Rd.d)=true/\m9 (n.map Rd.d)<=5:=⟨zM λr C=>(Dn (z.ok r C).2).1,yO λr C=>(Dn (z.ok r C).2).2⟩;have q2:∀J∈R,kM (jB J)=true/\kX (jB J)<=8:=λJ C=>by
   obtain⟨Y,k2⟩:=hR.ok J C;obtain⟨N,k4⟩:=vI k2.ok;refine⟨?_,?_⟩
   .show(PyData.strOk J.1&&(kM J.2.d&&true))=true;rw[Y,N];rfl
   .show max 0 (max (kX J.2.d) 0)+1<=8;have:=k2.dep;omega
  have q3:lM (R.map jB)=true/\m9 (R.map jB)<=8:=⟨zM λr C=>(q2 r C).1,yO λr C=>(q2 r C).2⟩;refine⟨?_,?_⟩
  .show(lM (n.map Rd.d)&&(lM (R.map jB)&&true))=true;rw[q1.1,q3.1];rfl
  .show max (m9 (n.map Rd.d)+1) (max (m9 (R.map jB)+1) 0)+1<=60;have:=q1.2;have:=q3.2;omega
 have eL:Aw (iL (kY<|λρ=>((dV 4) ρ).bind sR)<|iL (kY<|λρ=>((dV 3) ρ).bind sR) iY) (sj q u o R n<|none::none::none::nL) t=.ok (.loc<|t.length+2) M:=by
  have z1:∀S':iZ,kY (λρ=>((dV 4) ρ).bind sR) (sj q u o R n<|none::none::none::nL) S'=.ok (.loc S'.length) (S'++[cA]):=λ_=>rfl;have z2:∀S':iZ,kY (λρ=>((dV 3) ρ).bind sR) (sj q u o R n<|none::none::none::nL) S'=.ok (.loc S'.length) (S'++[Q]):=λ_=>rfl;unfold Aw;rw[i3 (z1 t)<|i3 (z2 _) jG];have e1:(t++[cA])++[Q]=L:=aT ..;have e2:(t++[cA]).length=t.length+1:=by rw[ag];rfl
  rw[e1,e2];show(if 2<=sizeLine then RX.ok (Z.loc L.length) (L++[cC])else .bad)=_;rw[aq<|by decide,lT]
 have ev:pH A (some<|.loc<|t.length+2)=pH A (some<|.d<|.lst [.lst<|n.map Rd.d,.lst<|R.map jB]):=by
  have v1:rX A (.loc t.length)=some (.lst<|n.map Rd.d):=by unfold rX;dsimp only;rw[a5];show(lU<|(n.map Rd.d).map Z.d).map D.lst=_;rw[qF];rfl
  have v2:rX A (.loc<|t.length+1)=some (.lst<|R.map jB):=by unfold rX;dsimp only;rw[b5];show(lU<|(R.map jB).map Z.d).map D.lst=_;rw[qF];rfl
  unfold pH;dsimp only;rw[c5]
  show(match(rX A (.loc t.length)).bind (λd=>((rX A (.loc (t.length+1))).bind λd=>some [d]).map (d:: ·))with
   |some ds=>Sl.sh (.lst ds)
   |none=>.no)=_
  rw[v1,v2];rfl
 have eT:∀{f:Ev->P2.R i6} {l:jk},f ((sj q u o R n<|some (.d<|.lst [.lst<|n.map Rd.d,.lst<|R.map jB])::l).map (pH A))=.ok false->xT f (sj q u o R n<|some (.loc<|t.length+2)::l) A=.ok false A:=λ{f l} hf=>by have e:(sj q u o R n<|some (.loc<|t.length+2)::l).map (pH A)=(sj q u o R n<|some (.d<|.lst [.lst<|n.map Rd.d,.lst<|R.map jB])::l).map (pH A):=bG (λv=>_::_::_::_::_::v::_) ev;unfold xT;rw[e,hf]
 refine⟨S8,?_⟩;unfold B0;show jc (iO (i4 1 _) _ [some<|.d<|.lst<|q.map .int,none,none,none,none,none,none,none,none,none,none,none,none,none,none] [.mk])=_;rw[kB e1];show jc (iO (i4 2 _) (iO (jr _ _ _) _) (kO q u<|none::none::none::none::none::none::nL) [.mk])=_;rw[em];rw[kB<|lP (i3 (iV (d:=.lst<|q.map .int) rfl)<|i3 (iV (d:=.int (4:Nat)) rfl)<|i3 (iV (d:=.int o) rfl)<|i3 (iV (d:=.lst<|u.map D.str) rfl) jG) eu];rw[kB<|lP (i3 (iV (d:=.lst<|q.map .int) rfl)<|i3 (iV (d:=.int<|4+(o:Int)) rfl)<|i3 (iV (d:=.int<|180 - 10*(o:Int))<|by show(jF (.int 10)<|.int o).bind (λx=>ni (.int 180) x)=_;rw[Kd (by decide)<|by decide];rfl)<|i3 (iV (d:=.lst<|u.map D.str) rfl) jG) er]
 show jc (iO (i4 5 _) _ (sj q u o R n<|none::none::none::nL) t)=_;rw[kB eL];rw[kB<|lP (i3 (wh (i:=0) (jM rfl) I rfl)<|i3 (wh (i:=1) (jM rfl) I rfl) jG) e4];rw[kB<|lP (i3 (wh (i:=0) (jM rfl) (P.get I) rfl)<|i3 (wh (i:=1) (jM rfl) (P.get I) rfl) jG) e5];show jc (iO (jr _ _ _) _ (sj q u o R n<|some (.loc<|t.length+2)::some (.d<|.lst (judge ak R n).1)::some (.d<|.lst<|(judge ak R n).2.map Rd.d)::nL) A)=_;rw[lX<|eT<|by show((qi (.lst [.lst<|n.map Rd.d,.lst<|R.map jB])<|.lst [.lst<|n.map Rd.d,.lst<|R.map jB]).bind P2.tB).bind _=_;rw[ne_self V.1 V.2];rfl]
 rw[jC<|LJ (wh (i:=0) (jM rfl) c5 rfl) a5];rw[jC<|LJ (wh (i:=1) (jM rfl) c6 rfl) b6];rw[kB<|iV (d:=.lst []) rfl];rw[kB<|iV (d:=.lst<|n.map Rd.d) rfl];show jc (iO (k8 _ _ _) _ (o8 (.lst<|q.map .int) (.lst<|u.map D.str) (.int o) (.lst<|R.map jB) (.lst<|n.map Rd.d) (t.length+2) (.lst (judge ak R n).1) (.lst<|(judge ak R n).2.map Rd.d) [] n [none,none,none,none,none]) T)=_;rw[jC<|(qW rfl).trans e8];show jc (iO (k8 _ _ _) _ (o8 (.lst<|q.map .int) (.lst<|u.map D.str) (.int o) (.lst<|R.map jB) (.lst<|n.map Rd.d) (t.length+2) (.lst (judge ak R n).1) (.lst<|(judge ak R n).2.map Rd.d) (judge ak R n).1 (judge ak R n).2 [Zl,Zn,Zo,Zq,Zv]) S8)=_;exact OV (bG D.lst eG) Uz UA
def Mx(t:T7):∀x∈t.asks,x≠Ask.here:=λx c h=>by
 obtain⟨u,_,e⟩:=aZ.mp c;subst h;cases u with
 |far k n=>cases k<;>cases e
 |«at» w=>cases e
 |_=>cases e
def Ua{a:Ad}{f:aa Rd}{t:T7}{A:mC}{z:iS}(l:Be t)(m:∀r∈f,nB r)(p:∀x,x∈A↔x=.here\/x∈t.asks):
    yi (λj S=>jc<|zf a (oA (RA a) 8) (λj S=>jc<|zh a S.length (jR 5 j) S) (lD (wq a<|lD (RW a) 8) 8) S.length (jR 10 j) S) f t A z:=λ{S q L P r i} o n u w I=>by
 have E:=GN m r;have v:∀x,0<(envOf f r x).2.2:=λx=>by
  unfold envOf;cases h:see f r x with
  |none=>show(0:Int)<1;decide
  |some s=>exact(m s<|D5 h).low.pos
 have J:r.d=pY r.m (envOf f r):=by show _=D.tup [.str r.m,.int (envOf f r .here).1,pr (envOf f r .here).2.1 (envOf f r .here).2.2];unfold envOf;rw[n.here];rfl
 have N:=l.2.1;have M:=l.2.2;refine Tg m (IP 8 t (by omega)<|by omega) (by have:=Bl t;omega) p (Mx t) o n I (λc d x k=>Tt (by rw[aw<|kQ o];exact o) n (by rw[aw<|kQ u];exact u) w x k _) λS' C F=>?_;rw[J];exact IQ E v 8 (λy G p=>IT E v F 8 y G p) 8 l.1 (by omega) (by omega) λx k=>k
end nD
namespace P2
open PySem PySem.Spec PyProof.Rows Fx L2
structure Wt(P:jE)(w:jz)(K:i9)(mg:km)(base h:jb):Prop where
 X:K.In h
 G:h.Ns mainGlobals mg
abbrev uP(K:i9)(x:iS)(v:iT):Prop:=W.nsIn K mainGlobals x=some (some v)
abbrev Ba(K:i9)(x:iS):Prop:=W.nsIn K mainGlobals x=some none
abbrev AG(K:i9)(C:iR)(x:iS)(b:String):Prop:=W.findIn K (.ref C) x=some (some<|.builtin b)
abbrev AH(K:i9)(C:iR)(x:iS):Prop:=W.findIn K (.ref C) x=some none
def jX(K:i9)(x:iS)(st:Stmt):Prop:=∃f a,oi K x x st f a/\uP K x (.ref f)
def qw(K:i9)(C:iR)(x a:iS)(st:Stmt):Prop:=∃f c,sA K x a st .none f c/\W.findIn K (.ref C) x=some (some<|.ref f)/\W.isFn K (.ref f)=true
def ups(u:Nat->iT):aa iS->aa iT
 |[]=>[]
 |_::r=>u r.length::ups u r
abbrev Bd(x qual:iS)(st:Stmt)(ps:jy):Prop:=∀(kV doc pm:iT) (an:mf) (cdv ct:iT) (u:Nat->iT),bindArgs (W.fnOf x qual (oy st) (mh st) (jQ st) .none kV doc pm an cdv ct) ⟨ups u ps,[]⟩=pure (ps.zip<|ups u ps)
variable{P:jE}{w:jz}{K:i9}{I:km}{i h:jb}{x z:iS}{q:Stmt}{C:iR}{k:Nat}{B:jy}{J:Sp}
def Wt.g{v:iT}(Y:Wt P w K I i h)(e:uP K x v):I x=some v:=W.mg_of Y.X Y.G e
def Wt.n(Y:Wt P w K I i h)(e:Ba K x):I x=none:=W.mg_none_of Y.X Y.G e
theorem Lp{u v:Nat->iT}:∀{B:jy},(∀n,n<B.length->u n=v n)->ups u B=ups v B
 |[],_=>rfl
 |_::r,h=>by show u r.length::ups u r=v r.length::ups v r;rw[h _<|bB _,Lp λn a=>h n<|bQ a]
theorem Lq:∀(B:jy) (us:kn),us.length=B.length->∃u,us=ups u B
 |[],[],_=>⟨λ_=>.none,rfl⟩
 |_::r,x::us,h=>by obtain⟨u,e⟩:=Lq r us (Nat.succ.inj h);refine⟨λn=>if n=r.length then x else u n,?_⟩;show x::us=(if r.length=r.length then x else _)::ups _ r;rw[aq rfl,e,Lp (v:=u) λn a=>aA<|aV a]
def Bd.o(b:Bd x z q B)(kV c f:iT)(j:mf)(d ct:iT)(a:kn)(h:a.length=B.length):bindArgs (W.fnOf x z (oy q) (mh q) (jQ q) .none kV c f j d ct) ⟨a,[]⟩=pure (B.zip a):=by obtain⟨u,rfl⟩:=Lq B a h;exact b ..
def jX.mk{f:iR}{p:iT}{o r:mf}{j:yw}{kV m n d ct:iT}(a:autoParam (W.nsIn K mainGlobals x=some (some<|.ref f)) aZ3)
    (l:autoParam (K.lookup f=some ⟨p,o,.func<|W.fnOf x x (oy q) (mh q) (jQ q) .none kV m n r d ct,j⟩) aZ3)(c:autoParam (W.codeIn K d x=true) aZ3)(k:autoParam (W.keepIn K (.ref f)=true) aZ3):jX K x q:=⟨f,_,Hc l c k,a⟩
def qw.mk{f:iR}{r:iT}{p s:mf}{j:yw}{kV m o d ct:iT}(a:autoParam (W.findIn K (.ref C) x=some (some<|.ref f)) aZ3)(n:autoParam (W.isFn K (.ref f)=true) aZ3)
    (l:autoParam (K.lookup f=some ⟨r,p,.func<|W.fnOf x z (oy q) (mh q) (jQ q) .none kV m o s d ct,j⟩) aZ3)(c:autoParam (W.codeIn K d z=true) aZ3)(k:autoParam (W.keepIn K (.ref f)=true) aZ3):qw K C x z q:=⟨f,_,Pg l c k,a,n⟩
def jX.get(p:jX K x q)(Y:Wt P w K I i h)(B:jy)(b:autoParam (Bd x x q B) aZ9):
    ∃f c,oi K x x q f c/\Binds K c B []/\W.keepIn K (.ref f)=true/\I x=some (.ref f):=let⟨f,c,F,a⟩:=p;⟨f,c,F,F.binds b.o,F.kp,Y.g a⟩
def jX.has(p:jX K x q)(Y:Wt P w K I i h)(o:∀f a,oi K x x q f a->my P w K I i k f a B J)(b:autoParam (Bd x x q B) aZ9):pQ P w K I i k x B J:=let⟨f,a,F,b,k,m⟩:=p.get Y B b;⟨f,a,o f a F,b,k,m⟩
def qw.has(p:qw K C x z q)(Y:Wt P w K I i h)(o:∀f c,sA K x z q .none f c->my P w K I i k f c B J)(b:autoParam (Bd x z q B) aZ9):
    pR P w K I i k C x B [] J:=let⟨f,c,F,a,n⟩:=p;⟨f,c,[],[],o f c F,F.binds b.o,.nil,λ_ _=>.nil,⟨a,n,F.kp⟩⟩
def qw.Qm(p:qw K C "__init__" z q)(Y:Wt P w K I i h)(m:W.makesIn K C=true)(kp:W.keepIn K (.ref C)=true)(o:∀f c,sA K "__init__" z q .none f c->my P w K I i k f c B J)(b:autoParam (Bd "__init__" z q B) aZ9):
    qy P w K I i k C B J:=let⟨f,c,F,a,n⟩:=p;⟨f,c,o f c F,F.binds b.o,⟨m,a,n,kp⟩⟩
def _root_.L2.q7.u{j:Nat}(G:pQ P w K I i j x B J)(h:autoParam (j<=k) aZ12):pQ P w K I i k x B J:=q7.up G h
def pR.u{j:Nat}{a:jD}(G:pR P w K I i j C x B a J)(h:autoParam (j<=k) aZ12):pR P w K I i k C x B a J:=G.up h
def qy.u{j:Nat}(G:qy P w K I i j C B J)(h:autoParam (j<=k) aZ12):qy P w K I i k C B J:=G.up h
def lc(s:Scope):aa iS:=(s.names.filter λp=>p.2 !=.globalImplicit).map (·.1)
noncomputable def wW(s:Scope)(B:jy)(n:Nat):i6:=decide (s.kind=.function)&&!s.isCoroutine&&!s.isGenerator&&decide (lc s).Nodup&&decide ((lc s).take B.length=B)&&decide ((lc s).length=n)&&B.all (λx=>decide (s.names.lookup x=some .local)||decide (s.names.lookup x=some .cell))&&s.names.all λy=>decide (y.2≠.free)
def rD{s:Scope}{n:Nat}(h:wW s B n=true):tw (lc s) B s/\(lc s).length=n:=by simp only[wW,aS,eK,cx,b9,bx]at h;obtain⟨⟨⟨⟨⟨⟨⟨o,m⟩,l⟩,j⟩,f⟩,d⟩,c⟩,a⟩:=h;exact⟨⟨o,m,l,j,f,c,a⟩,d⟩
def O5{f:iR}{j:m8}{n:Nat}{g:jI}(F:oi K x x q f j)(S:wW (jQ q) B n=true)
    (d:(lc<|jQ q).Nodup->∀(c:iT) (A:jY) (a:mL) (s:i7) (H:Hp) (E:XK),kz k (kC (j8 P w) P w K I i (lc<|jQ q) x (jQ q) f c A a s H E).A->oO (kC (j8 P w) P w K I i (lc<|jQ q) x (jQ q) f c A a s H E) E (mh q) g):
    my P w K I i (k+1) f j B (rS B.length K λl=>ky<|g<|k7 n l):=by
 have:=O6 F (rD S).1 (d (rD S).1.nd);rwa [(rD S).2]at this
def O9{f:iR}{j:m8}{n:Nat}{g:Nat->ji}(F:oi K x x q f j)(S:wW (jQ q) B n=true)
    (d:(lc<|jQ q).Nodup->∀(b:Nat) (c:iT) (A:jY) (a:mL) (s:i7) (H:Hp) (E:XK),kz k (kC (j8 P w) P w K I i (lc<|jQ q) x (jQ q) f c A a s H E).A->oq (kC (j8 P w) P w K I i (lc<|jQ q) x (jQ q) f c A a s H E) E b (mh q) (g b)):
    my P w K I i (k+1) f j B (mR B.length K λl S=>jc<|g S.length (jR n l) S):=by
 have:=GZ F (rD S).1 (d (rD S).1.nd);rwa [(rD S).2]at this
def O8{dV:iT}{f:iR}{j:m8}{n:Nat}{g:Nat->ji}(F:sA K x z q dV f j)(S:wW (jQ q) B n=true)
    (d:(lc<|jQ q).Nodup->∀(b:Nat) (c:iT) (A:jY) (a:mL) (s:i7) (H:Hp) (E:XK),kz k (kC (j8 P w) P w K I i (lc<|jQ q) z (jQ q) f c A a s H E).A->oq (kC (j8 P w) P w K I i (lc<|jQ q) z (jQ q) f c A a s H E) E b (mh q) (g b)):
    my P w K I i (k+1) f j B (mR B.length K λl S=>jc<|g S.length (jR n l) S):=by
 have:=O7 F (rD S).1 (d (rD S).1.nd);rwa [(rD S).2]at this
noncomputable def Hb(s:Scope)(N B:jy)(n:Nat):i6:=decide (s.kind=.function)&&!s.isCoroutine&&!s.isGenerator&&decide N.Nodup&&decide (N.take B.length=B)&&decide (N.length=n)&&B.all (λx=>decide (s.names.lookup x=some .local)||decide (s.names.lookup x=some .cell))&&s.names.all λy=>decide (y.2≠.free)
def G1{f:iR}{l:m8}{n:Nat}{g:Nat->ji}(N:jy)(F:oi K x x q f l)(S:Hb (jQ q) N B n=true)
    (d:N.Nodup->∀(b:Nat) (c:iT) (A:jY) (a:mL) (s:i7) (H:Hp) (E:XK),kz k (kC (j8 P w) P w K I i N x (jQ q) f c A a s H E).A->oq (kC (j8 P w) P w K I i N x (jQ q) f c A a s H E) E b (mh q) (g b)):
    my P w K I i (k+1) f l B (mR B.length K λm S=>jc<|g S.length (jR n m) S):=by
 simp only[Hb,aS,eK,cx,b9,bx]at S;obtain⟨⟨⟨⟨⟨⟨⟨y,v⟩,u⟩,j⟩,t⟩,r⟩,p⟩,o⟩:=S;have:=GZ F ⟨y,v,u,j,t,p,o⟩ (d j);rwa [r]at this
end P2
namespace nD
open PySem L2 P2 WP WM TM T2 PySem.NumText
abbrev fo(x q:iS)(st:Stmt)(dV kV doc pm:iT)(an:mf)(cdv ct:iT):m8:=PySem.W.fnOf x q (oy st) (mh st) (jQ st) dV kV doc pm an cdv ct
def Ea(K:PySem.W.Frag):Sp:=λc H Q E=>∃(al:ko) (ns:lJ),c.length=1/\(∀a,H a=none->al a)/\ns.length<=63/\ja K al H c [.lst<|ns.map D.int]/\md K H/\∀H',kU K H H'->Q (.bl true) H'
theorem DY{K:PySem.W.Frag}{al:ko}{H:Hp}:∀a:aa Int,ja K al H (a.map V.int) (a.map D.int)
 |[]=>.nil
 |_::a=>.cons (.int _) (DY a)
def Y0{K:PySem.W.Frag}{H:Hp}{a:iR}{c:lJ}(f:c.length<=63)(d:md K H)(r:Rep K (λ_=>True) H (.ref a)<|.lst<|c.map D.int):Ea K [.ref a] H (λv _=>v=.bl true) λ_ _ _=>False:=
 ⟨λ_=>True,c,rfl,λ_ _=>trivial,f,.cons r .nil,d,λ_ _=>rfl⟩
def isF(K:PySem.W.Frag)(a:nW)(c:iR)(u:iT):i0 i6:=if c∈a then PySem.W.kitOne K (.ref c) u else none
def RE{K:PySem.W.Frag}{a:nW}(h:∀c∈a,yC K c):yc K (isF K a):=λc u b e=>by
 unfold isF at e;split at e;.rename_i z;exact⟨h c z,e⟩
 .cases e
abbrev mD(n:Nat)(g:jI):jg:=λds=>ky (g<|k7 n ds)
abbrev mZ(n:Nat)(g:Nat->ji):jh:=λzs S=>jc (g S.length (jR n zs) S)
section
variable(a:Ad)
abbrev AO:=mZ 4 (BR a)
abbrev EK:=mZ 6 (BS a)
abbrev AQ:=mZ 6 (yX a<|EK a)
abbrev EL:=mD 3 (yY a)
abbrev EM:=mD 1 (BX a)
abbrev pS:=mD 3 (yZ a (EM a)<|EL a)
abbrev AZ:=mD 2 (y9 a<|pS a)
abbrev AX:=mD 2 (y7 a<|pS a)
abbrev A1:=mD 2 (za a<|pS a)
abbrev A2:=mD 2 (zc a)
abbrev AU:=mD 1 (Hg a)
abbrev E7(Fs:jg):=mD 3 (ud a (AU a) Fs)
abbrev AY:jg:=oA (E7 a) 8
abbrev tA:=mD 6 (BV a<|AY a)
abbrev EN:=mZ 3 (B8 a<|pS a)
abbrev A3:=mD 1 (Ca a<|pS a)
abbrev E8(Fs:jh):=mZ 4 (pA a (pS a) (AZ a) (AX a) (A1 a) (A3 a) (EN a) Fs)
abbrev EO:jh:=lD (E8 a) 8
abbrev E6(Fs:jh):=mZ 3 (y6 a (A2 a) (EO a) Fs)
abbrev AS:jh:=lD (E6 a) 8
abbrev AR:=mZ 1 (BW a)
abbrev AV:=mZ 2 (BZ a)
abbrev yh:=mZ 10 (BY a (pS a) (tA a) (AO a) (AQ a) (AR a) (AS a)<|AV a)
abbrev AW:=mZ 2 (B6 a<|yh a)
abbrev A0:=mZ 2 (B9 a<|yh a)
abbrev uM:=mD 2 (Cd a)
abbrev uN:=mD 4 (Ci a)
abbrev A8:=mD 7 (zj a)
abbrev sC:=mZ 3 (Cj a)
abbrev EY:=mZ 2 (Cq a (uN a)<|sC a)
abbrev A6:=mZ 12 (zg a (uM a) (sC a)<|EY a)
abbrev EX:=mZ 4 (Cp a (uN a)<|sC a)
abbrev EW:=mZ 5 (Co a (uN a) (sC a)<|EX a)
abbrev ES:=mZ 4 (Ce a (uN a) (sC a)<|EW a)
abbrev A4:=mZ 4 (Cf a (sC a)<|ES a)
abbrev A7:=mZ 8 (Cn a (uM a)<|A4 a)
abbrev E9(Fs:jg):=mD 3 (Hk a Fs)
abbrev ER:jg:=oA (E9 a) 8
abbrev Fe(Fs:jh):=mZ 5 (zk a Fs)
abbrev E1:jh:=lD (Fe a) 8
abbrev Fb(Fs:jh):=mZ 5 (ze a Fs<|E1 a)
abbrev ET:jh:=lD (Fb a) 8
abbrev EV:=mZ 5 (zh a)
abbrev EU:=mZ 10 (zf a (ER a) (EV a)<|ET a)
abbrev A5:=mZ 11 (Cg a<|EU a)
abbrev Mi:=mZ 15 (B0 a (uM a) (A8 a) (A7 a) (A6 a) (AW a) (A0 a)<|A5 a)
def uc:HF (pS a):=λt b f h=>S6 (λi=>TJ (a:=a) i) (λx y d c h=>S7 (a:=a) x y d c h) t b f h
def FF:Ar a (pS a) (AZ a) (AX a) (A1 a) (A3 a) (A2 a) where
 f:=uc a
 p:=λk j i d c l=>Tp (a:=a) (uc a) k j i d c l
 m:=λk j i d c l=>Ti (a:=a) (uc a) k j i d c l
 t:=λk j i d c l=>TC (a:=a) (uc a) k j i d c l
 a:=λh c=>TL (a:=a) (uc a) h c
 u:=λk j i d=>TF (a:=a) k j i d
def VR(t:T7)(c:t.dep<8)(d:t.parts.length<64):AY a [t.d]=.ok (.lst<|t.parts.map T7.d):=
 IU (a:=a) (Fi:=AU a) (λt=>Tb t) 8 t c (by omega)
def FG(t:T7)(d:t.dep<8)(c:t.parts.length<64):∃A,wm (tA a) t A:=SU (VR a t d c) c
def R4:Jd a (pS a) (tA a) (AO a) (AQ a) (AR a) (AS a) (AV a) where
 f:=uc a
 i:=λS c t=>Ta S c t _
 s:=λg w r A d=>Tu (λS' g r k=>Tn g r k _) g w r A d _
 o:=λn m l j C=>S5 n m l j C _
 h:=λp E R=>S9 (FF a) E 8 (λq z d=>TQ (FF a) E p (λx y v u=>Tj (uc a) p v u _) R.here 8 q z d) 8 R.w R.dep R.dep R.asks
 k:=λn m l j=>m_keys n m l j _
def vM:Pk (sC a):=λc m x b f d=>To c m x b f d _
def zx:Lw (uN a):=λt b d c=>Tf t b d c
def BF:Cl (uM a):=λc k=>SW c k
def Nl{c:jy}(W:W3 c):Gv (A4 a) c Cw 4 19:=SY (vM a) (SX (vM a) (zx a)<|Tz (vM a) (zx a)<|TB (vM a) (zx a) W.ok<|by rw[W.len];decide)
def HV{S:iZ}{R:nC}{c:aa WM.Rd}{f d:Nat}(i:uV R)(h:yn c)(m:S[0]?=some .mk)(j:kS S)(l:S[f]?=some (.li<|(c.map WM.Rd.d).map .d))(k:S[d]?=some (.li<|(R.map jB).map .d)):∃S',Gr S S'/\yh a [.loc f,.loc d] S=.ok (.d<|.tup [.lst (judge (tP<|tA a) R c).1,.lst<|(judge (tP<|tA a) R c).2.map WM.Rd.d]) S':=
 nD.Tc (R4 a) R c (Yn (FG a) i) h.1 h.2 m j l k
def Ph:Fz (tP<|tA a) (uM a) (A8 a) (A7 a) (A6 a) (AW a) (A0 a) (A5 a) where
 c:=BF a
 w:=λc=>TN c
 r:=λW i y f k n h d=>Tq (vM a) (TH (vM a)<|zx a) (BF a) W i y f k n h d
 u:=λW i f k n h d=>Ts (Nl a W) (BF a) i f k n h d
 m:=λp o h d t q=>let⟨S',g,e⟩:=HV a p o h d t q;⟨S',g,nD.Th e⟩
 s:=λp o h d t q=>let⟨S',g,e⟩:=HV a p o h d t q;⟨S',g,nD.Tv e⟩
 j:=λl x v nd h d=>Te (Ua l x (Fv<|FG a _ (by have:=l.2.1;omega) (by have:=l.2.2;omega)).2.2) nd v h d
end
def FP:List Str:=["abs","bool","dict","int","isinstance","len","list","range","set","sorted","str","tuple"]
def xY(K:PySem.W.Frag):aa iS->Prop
 |[]=>True
 |x::l=>Ba K x/\xY K l
def xY.n{K:PySem.W.Frag}{x:iS}:∀{l:jy},xY K l->l.contains x=true->Ba K x
 |_::_,h,e=>by rw[f3,cx]at e;exact e.elim (λe=>by rw[eq_of_beq e];exact h.1) h.2.n
structure Tx(K:PySem.W.Frag)(mg:km)(a:Ad):Prop where
 b:∀{x},FP.contains x=true->mg x=none
 MJ:mg "WeatherError"=some (.ref a.WeatherError)
 FR:mg "NoFraction"=some (.ref a.NoFraction)
 FT:mg "Sight"=some (.ref a.Sight)
 LL:Fp K a.NoFraction
 rF:o9 K a.Sight
 zG:qB K a.Sight "masts"
 zH:qB K a.Sight "places"
 nt:qS K=true
 HK:yc K a.oC
structure Pm(K:PySem.W.Frag)(a:Ad):Prop where
 p1:qw K a.Sight "__init__" "Sight.__init__" (inClass (at_ 20) 0)
 p2:qw K a.Sight "one_seen" "Sight.one_seen" (inClass (at_ 20) 2)
 p3:qw K a.Sight "seen_from" "Sight.seen_from" (inClass (at_ 20) 1)
 p4:jX K "common_divisor" (at_ 6)
 p5:jX K "is_whole" (at_ 5)
 p6:jX K "fraction" (at_ 4)
 p7:jX K "plus" (at_ 7)
 p8:jX K "minus" (at_ 8)
 p9:jX K "times" (at_ 9)
 Vi:jX K "under" (at_ 10)
 Vj:jX K "inner_parts" (at_ 14)
 Vk:jX K "parts_of" (at_ 13)
 Vm:jX K "asked_by" (at_ 12)
 Vn:jX K "minutes_between" (at_ 16)
 Vo:jX K "without_sign" (at_ 17)
 Vp:jX K "worth" (at_ 15)
 Vq:jX K "holds" (at_ 18)
 Vr:jX K "found_of" (at_ 25)
 Vt:jX K "keys_of" (at_ 26)
 Vu:jX K "judged" (at_ 24)
 Vv:jX K "marks" (at_ 22)
 Vw:jX K "standing" (at_ 23)
 Vx:jX K "_law_cell_at" (at_ 28)
 Vy:jX K "_law_low" (at_ 29)
 Vz:jX K "_law_word" (at_ 30)
 VA:jX K "_law_pick" (at_ 31)
 VB:jX K "_law_value" (at_ 32)
 VC:jX K "_law_row" (at_ 33)
 VD:jX K "_law_term" (at_ 34)
 VE:jX K "_law_sum" (at_ 35)
 VF:jX K "_law_compare" (at_ 36)
 VG:jX K "_law_condition" (at_ 37)
 VH:jX K "_law_rules" (at_ 38)
 VI:jX K "_law_asks" (at_ 39)
 VJ:jX K "_law_worth" (at_ 40)
 VL:jX K "_law_holds" (at_ 41)
 VM:jX K "_law_seek" (at_ 42)
 VN:jX K "_law_mark" (at_ 43)
 VO:jX K "_law_judged" (at_ 44)
structure Cm(P:jE)(w:jz)(K:PySem.W.Frag)(mg:km)(base h:jb)(a:Ad):Prop where
 T:Tx K mg a
 W:Wt P w K mg base h
 q:Pm K a
 IW:PySem.W.makesIn K a.Sight=true/\PySem.W.keepIn K (.ref a.Sight)=true
abbrev HD{P w K mg base h a}(_:Cm P w K mg base h a)(n:Nat)(x:iS)(vs:jy)(M:jg):Prop:=pQ P w K mg base n x vs (rS vs.length K M)
abbrev HZ{P w K mg base h a}(_:Cm P w K mg base h a)(n:Nat)(x:iS)(vs:jy)(M:jh):Prop:=pQ P w K mg base n x vs (mR vs.length K M)
section
variable{P:jE}{w:jz}{K:PySem.W.Frag}{e:km}{c h:jb}{a:Ad}(C:Cm P w K e c h a)
include C
set_option hygiene false in
local macro_rules|`(tactic|walk_at "h")=>`(tactic|first|assumption|exact q7.u (by assumption)|exact pR.u (by assumption)|exact qy.u (by assumption))
set_option hygiene false in
local macro_rules|`(tactic|walk_at "o")=>do let l←("DE _ _ _ _ @@@@:tY _ @|wQ|NM|Gh CN ? ? @@@|NJ ? ? ? @@@|Nz|NG|NN ? @|ND ? ? ? @@@|Ny ? ? @@|NI ? @|NH ? @|NF ? ? ? @@@|NL ? ? ? ? @@@@|NA #3 hr rfl #4 rfl ? @@@@@@|NB ? rfl T.b rfl @ #5 ? @@@@@|NC ? rfl T.b rfl @ #5 ? @@@@@|NO rfl T.b rfl @ #5 @@@|NP ? ? @@|DN.de ? @&DA _ _ _ _ @@@@:Nx|Nw ? ? @@&ZE _ _ _ _ @@@@:abd ? @|kZ _ @|abl ? @|abh ? ? ? @@@|abc CN ? ? @@@|abj ? @|abg ? @|aa4 #3 hr rfl vL rfl ? @@@@@@|aa3 #3 hr rfl vL rfl ? @@@@@@|aa9 hr.units ? ? @@@&ZA _ _ _ _ @@@@:aaZ|aaY ? ? @@&oO _ _ _ _ @@@@:Oi _ ? @@|Ol ? @|Oh ? ? @@|Oj&oq _ _ _ _ _ @@@@@:abP ? @|abN ? ? @@|abO&ZS _ _ _ _ _ @@@@@:abI _ ? @@|L7 _ nP rfl Or.inl rfl @ ? @@@@@|abK ? @|abJ ? ? ? @@@|abG zQ rfl ? ? ? @@@@@|abC _ du eJ gy ? @@@@@|abF hr.units ? ? ? @@@@|abL _ nP rfl Or.inl rfl @ ? @@@@@|abM _ nP rfl Or.inl rfl @ ? @@@@@&DT _ _ _ _ @@@@:Oo ? ? ? @@@|Om ? ? ? ? ? @@@@@|Ou ? @|Ov ? @|DW.dt ? @&DS _ _ _ _ @@@@:Oe _ nP rfl Or.inl rfl @ ? @@@@@|Od ? @|Oa ? ? ? @@@|Ob _ nP rfl Or.inl rfl @ ? @@@@@|N9 zQ rfl ? yM _ nP rfl Or.inl rfl @ @@@@ ? @@@@@|Of vg zQ ? ? @@@@&DN _ _ _ _ @@@@:N1 ? @|N2 ? #6 #6 @@@|N4 rfl rfl T.b rfl @ rfl T.b rfl @ ? @@@@@@&ZT _ _ _ _ @@@@:abT ? @|abQ ? ? ? @@@|abV ? @&DW _ _ _ _ @@@@:OA ? ? @@|Oy ? ? @@|OB ? @|Oz ? @&:N7 ? @|Gq ? @|Gn|abt _ nP rfl Or.inl rfl @ @@@@|MQ T.HK @|US hr.units @|NV rfl T.b rfl @ ? @@@|NQ ? @|EA|GA ? #6 #6 @@@|abn ? @|abp ? #6 #6 @@@|abw ? @|abq ? @&w:UN|U7|UJ|U3|UP|Ve|U2|MS|ML|YP|Vc|UR|aay|U0|Va|UX".splitOn "&").toArray.mapM mR3;`(tactic|repeat' first $[|$l:tactic]*)
set_option hygiene false in
local macro_rules|`(tactic|walk_at "g")=>`(tactic|(have T:=C.T;(first|refine O5 F (by kernel_rfl) fun nP cdv A outer s H E hr=>?_|((try refine mS.cl ?_);refine O9 F (by kernel_rfl) fun nP b cdv A outer s H E hr=>?_)|refine O8 F (by kernel_rfl) fun nP b cdv A outer s H E hr=>?_);walk_at "o"))
set_option hygiene false in
local macro_rules|`(tactic|walk_at "f")=>`(tactic|((first|refine jX.has p C.W fun _ _ F=>?_|refine qw.has p C.W fun _ _ F=>?_);walk_at "g"))
set_option hygiene false in
local macro_rules|`(tactic|walk_at "n0")=>`(tactic|(have T:=C.T;refine G1 ["row","rules","told","stands","rule","sight","asked","left","reading","seen"] F (by kernel_rfl) fun nP b cdv A outer s H E hr=>?_;walk_at "o"))
set_option hygiene false in
local macro_rules|`(tactic|walk_at "n1")=>`(tactic|(have T:=C.T;refine G1 ["_law_script","_law_words","_law_many","_law_rules_here","_law_row_here","_law_handed","_law_found","_law_left","_law_due","_law_stands","_law_name","_law_condition_here","_law_made","_law_gone","_law_mark_here"] F (by kernel_rfl) fun nP b cdv A outer s H E hr=>?_;walk_at "o"))
theorem PY:qy P w K e c 1 a.Sight ["self","row"] (mR 2 K<|AO a):=by refine C.q.p1.Qm C.W C.IW.1 C.IW.2 λ_ _ F=>?_;walk_at "g";exact L5 T.rF T.zG (kZ 0) Ey;exact L5 T.rF T.zH (kZ 0) xX;exact LV (AE T.rF T.zG<|kZ 0) (by walk_at "o") (by walk_at "o") ⟨rfl,rfl,rfl,rfl⟩;exact AE T.rF T.zH (kZ 0);exact Ez (by walk_at "o")
theorem PZ:pR P w K e c 1 a.Sight "one_seen" ["self","reading","ask"] [] (mR 3 K<|EK a):=by have p:=C.q.p2;walk_at "f";exact LS hr.units (AE T.rF T.zH<|kZ 0) (Ez<|by walk_at "o") ⟨rfl,rfl,rfl,rfl⟩;exact EC (kZ 4);exact L1 4 nP rfl (Or.inl rfl) RB (by walk_at "o");exact L1 4 nP rfl (Or.inl rfl) Ry (by walk_at "o");exact LR hr.units (AE T.rF T.zG<|kZ 0) (tY 3)
theorem P0:pR P w K e c 2 a.Sight "seen_from" ["self","reading","asked"] [] (mR 3 K<|AQ a):=by have:=PZ C;have p:=C.q.p3;walk_at "f";exact xX;exact LW (by walk_at "h") T.rF hr vL (kZ 0) (by walk_at "o") rfl;exact EC (kZ 5);exact xW T.nt (by walk_at "o")
theorem P4:HD C 1 "common_divisor" ["one","other"] (EL a):=by have p:=C.q.p4;walk_at "f"
theorem P8:HD C 1 "is_whole" ["thing"] (EM a):=by have p:=C.q.p5;walk_at "f"
theorem ue:HD C 3 "fraction" ["top","bottom"] (pS a):=by have:=P8 C;have:=P4 C;have p:=C.q.p6;walk_at "f";exact Oc PySem.F.excBase_ValueError T.LL.cls rfl T.FR
theorem Qf:HD C 4 "plus" ["one","other"] (AZ a):=by have:=ue C;have p:=C.q.p7;walk_at "f"
theorem Qc:HD C 4 "minus" ["one","other"] (AX a):=by have:=ue C;have p:=C.q.p8;walk_at "f"
theorem Qh:HD C 4 "times" ["one","other"] (A1 a):=by have:=ue C;have p:=C.q.p9;walk_at "f"
theorem Qi:HD C 1 "under" ["one","other"] (A2 a):=by have p:=C.q.Vi;walk_at "f"
theorem P7:HD C 1 "inner_parts" ["part"] (AU a):=by have p:=C.q.Vj;walk_at "f"
theorem Qe:HD C 9 "parts_of" ["part"] (AY a):=by obtain⟨_,_,F,b,k,m⟩:=C.q.Vk.get C.W ["part"];exact⟨_,_,DU (k0:=1) (st:=1) (F0:=E7 a) (hn:=rfl) (λo=>⟨_,_,o,b,k,m⟩) (λi k d f=>by have:=P7 C;walk_at "g";exact wR 1 (by walk_at "o")) 8,b,k,m⟩
theorem P1:HD C 10 "asked_by" ["condition"] (tA a):=by have:=Qe C;have p:=C.q.Vm;walk_at "f";exact wR 5 (by walk_at "o");exact wR 5 (by walk_at "o");exact wR 5 (by walk_at "o")
theorem Qd:HZ C 4 "minutes_between" ["first","second","found"] (EN a):=by have:=ue C;have p:=C.q.Vn;walk_at "f"
theorem Qj:HD C 4 "without_sign" ["value"] (A3 a):=by have:=ue C;have p:=C.q.Vo;walk_at "f"
theorem Qk:HZ C 12 "worth" ["term","found"] (EO a):=by obtain⟨_,_,F,b,k,m⟩:=C.q.Vp.get C.W ["term","found"];exact⟨_,_,xB (k0:=4) (st:=1) (F0:=E8 a) (hn:=rfl) (λo=>⟨_,_,o,b,k,m⟩) (λi k d f=>by have:=ue C;have:=Qf C;have:=Qc C;have:=Qh C;have:=Qj C;have:=Qd C;walk_at "g") 8,b,k,m⟩
theorem P6:HZ C 20 "holds" ["condition","found"] (AS a):=by obtain⟨_,_,F,b,k,m⟩:=C.q.Vq.get C.W ["condition","found"];exact⟨_,_,xB (k0:=12) (st:=1) (F0:=E6 a) (hn:=rfl) (λo=>⟨_,_,o,b,k,m⟩) (λi k d f=>by have:=Qi C;have:=Qk C;walk_at "g";exact aa5 (Dq hr.units) (by walk_at "o") (by walk_at "o");exact LX (by walk_at "o");exact aa2 (by walk_at "o") (LY<|by walk_at "o");exact abi (by walk_at "o") (LY (by walk_at "o"))) 8,b,k,m⟩
theorem P5:HZ C 1 "found_of" ["seen"] (AR a):=by have p:=C.q.Vr;walk_at "f";exact aba T.nt rfl hr.units rfl (T.b rfl) rfl (aa6 (x:="ask") (y:="seen") 0 [(".0",.local),("ask",.local),("seen",.cell)] rfl (kZ 0) (λ_ _ _ _=>xw (i:=0) (show List.Nodup (["ask","seen"]:aa iS)from by decide+kernel) rfl (Or.inl rfl)<|by first|exact .inl rfl|exact .inr rfl|assumption) (λ_ _ _ _=>EA) (λ_ _ _ _=>by walk_at "o";exact LU hr.units (kZ 1) (by walk_at "o");exact LU hr.units (kZ 1) (by walk_at "o")) rfl (by decide+kernel) (by decide+kernel) rfl rfl rfl rfl rfl (by decide+kernel)<|by decide+kernel)
theorem P9:HZ C 1 "keys_of" ["seen"] (AV a):=by have p:=C.q.Vt;walk_at "f";exact abk hr.units rfl rfl (T.b rfl) rfl (T.b rfl) (abb<|aa7 (x:="reading") rfl (kZ 0) (λ_ _ _ _=>xw (i:=0) (show List.Nodup (["reading"]:aa iS)from by decide+kernel) rfl (Or.inl rfl)<|by first|exact .inl rfl|exact .inr rfl|assumption) (λ_ _ _ _=>EA) (λ_ _ _ _=>by walk_at "o") (by decide+kernel) rfl (by decide+kernel)<|by decide+kernel)
theorem Hs:HZ C 21 "judged" ["row","rules"] (yh a):=by have:=ue C;have:=P1 C;have:=P5 C;have:=P6 C;have:=P9 C;have:=PY C;have:=P0 C;have p:=C.q.Vu;refine jX.has p C.W λ_ _ F=>?_;walk_at "n0";exact abo (by walk_at "o");exact abH 1 zQ rfl (by walk_at "o") (by walk_at "o";exact abf (by walk_at "h") hr rfl T.FT vL (by walk_at "o") rfl;exact LW (by walk_at "h") T.rF hr vL (kZ 5) (by walk_at "o") rfl;exact ZW.zt (abX (abS<|kZ 9)<|abY<|L8<|by walk_at "o"))
theorem Qb:HZ C 22 "marks" ["row","rules"] (AW a):=by have:=Hs C;have p:=C.q.Vv;walk_at "f"
theorem Qg:HZ C 22 "standing" ["row","rules"] (A0 a):=by have:=Hs C;have p:=C.q.Vw;walk_at "f"
theorem Cv:HD C 1 "_law_cell_at" ["_law_script","_law_k"] (uM a):=by have p:=C.q.Vx;walk_at "f"
theorem zp:HD C 1 "_law_low" ["_law_top","_law_bottom"] (uN a):=by have p:=C.q.Vy;walk_at "f";exact GC 2 3 rfl nP rfl rfl (by decide) rfl rfl (by walk_at "o");exact GC 2 3 rfl nP rfl rfl (by decide) rfl rfl (by walk_at "o")
theorem QV:HD C 1 "_law_word" ["_law_cell","_law_k"] (A8 a):=by have p:=C.q.Vz;walk_at "f"
theorem vz:HZ C 1 "_law_pick" ["_law_stream","_law_many"] (sC a):=by have p:=C.q.VA;walk_at "f";exact L6 0 wQ (by walk_at "o");exact L6 0 wQ (by walk_at "o")
theorem QU:HZ C 2 "_law_value" ["_law_stream"] (EY a):=by have:=zp C;have:=vz C;have p:=C.q.VB;walk_at "f"
theorem QO:HZ C 3 "_law_row" ["_law_script","_law_first","_law_most","_law_words"] (A6 a):=by have:=Cv C;have:=vz C;have:=QU C;have p:=C.q.VC;walk_at "f";exact abD;exact N3 rfl (T.b rfl) (by walk_at "o")
theorem QT:HZ C 2 "_law_term" zy (EX a):=by have:=zp C;have:=vz C;have p:=C.q.VD;walk_at "f";exact Jo hr.units
theorem QR:HZ C 3 "_law_sum" zy (EW a):=by have:=zp C;have:=vz C;have:=QT C;have p:=C.q.VE;walk_at "f"
theorem QJ:HZ C 4 "_law_compare" zy (ES a):=by have:=zp C;have:=vz C;have:=QR C;have p:=C.q.VF;walk_at "f"
theorem QK:HZ C 5 "_law_condition" zy (A4 a):=by have:=vz C;have:=QJ C;have p:=C.q.VG;walk_at "f"
theorem QP:HZ C 6 "_law_rules" ["_law_script","_law_first","_law_many","_law_words"] (A7 a):=by have:=Cv C;have:=QK C;have p:=C.q.VH;walk_at "f"
theorem QI:HD C 8 "_law_asks" ["_law_thing"] (ER a):=by obtain⟨_,_,F,b,k,m⟩:=C.q.VI.get C.W ["_law_thing"];exact⟨_,_,DU (k0:=0) (st:=1) (F0:=E9 a) (hn:=rfl) (λo=>⟨_,_,o,b,k,m⟩) (λi k d f=>by walk_at "g";exact yN;exact wR 1 (by walk_at "o")) 8,b,k,m⟩
theorem QW:HZ C 8 "_law_worth" ["_law_thing","_law_here","_law_found"] (E1 a):=by obtain⟨_,_,F,b,k,m⟩:=C.q.VJ.get C.W ["_law_thing","_law_here","_law_found"];exact⟨_,_,xB (k0:=0) (st:=1) (F0:=Fe a) (hn:=rfl) (λo=>⟨_,_,o,b,k,m⟩) (λi k d f=>by walk_at "g") 8,b,k,m⟩
theorem QL:HZ C 16 "_law_holds" ["_law_condition_here","_law_here","_law_found"] (ET a):=by obtain⟨_,_,F,b,k,m⟩:=C.q.VL.get C.W ["_law_condition_here","_law_here","_law_found"];exact⟨_,_,xB (k0:=8) (st:=1) (F0:=Fb a) (hn:=rfl) (λo=>⟨_,_,o,b,k,m⟩) (λi k d f=>by have:=QW C;walk_at "g";exact LX (by walk_at "o");exact NK (tY 3) (by walk_at "o")) 8,b,k,m⟩
theorem QQ:HZ C 1 "_law_seek" ["_law_ask","_law_line","_law_place","_law_beside"] (EV a):=by have p:=C.q.VM;walk_at "f";exact LS hr.units (kZ 3) (Ez<|by walk_at "o") ⟨rfl,rfl,rfl,rfl⟩
theorem QN:HZ C 17 "_law_mark" ["_law_name","_law_condition_here","_law_line","_law_place","_law_beside"] (EU a):=by have:=QI C;have:=QQ C;have:=QL C;have p:=C.q.VN;walk_at "f";exact xX;exact EC (kZ 9);exact xW T.nt (by walk_at "o");exact abU (L8<|by walk_at "o");exact N0 (Nt:=["_law_time","_law_mast"]) (tn:=2) rfl (Gq<|DN.de<|N5 rfl hr.units rfl (T.b rfl) rfl (T.b rfl)<|tY 7) (λ_ _ _ _=>NR rfl<|Gp (yM 0 (show List.Nodup (["_law_time","_law_mast"]:aa iS)from by decide+kernel) rfl<|Or.inl rfl)<|Gp (yM 1 (show List.Nodup (["_law_time","_law_mast"]:aa iS)from by decide+kernel) rfl<|Or.inl rfl) NU) (by simp) (λ_ _ _ _=>Gn) (λ_ _ _ _=>by walk_at "o") (by decide+kernel) rfl (by decide+kernel) (by decide+kernel) rfl
theorem QM:HZ C 18 "_law_judged" ["_law_name","_law_condition_here","_law_stands"] (A5 a):=by have:=QN C;have p:=C.q.VO;walk_at "f";exact Ey;exact xX;exact abB du eJ gy (LV (kZ 3) (by walk_at "o") (by walk_at "o") ⟨rfl,rfl,rfl,rfl⟩) (by walk_at "o");exact xW T.nt (by walk_at "o";exact yN);exact Ey;exact aa8 hr.units (kZ 6) (by walk_at "o") wQ ⟨rfl,rfl,rfl,rfl⟩;exact abE hr.units (kZ 6) (by walk_at "o") (by walk_at "o");exact LR hr.units (kZ 3) (by walk_at "o")
theorem Qa{f:iR}{d:m8}(F:oi K "law" "law" (at_ 45) f d):my P w K e c 23 f d ["_law_script"] (mR 1 K<|Mi a):=by have:=Cv C;have:=QV C;have:=QP C;have:=QO C;have:=Qb C;have:=Qg C;have:=QM C;walk_at "n1";exact abe (by walk_at "o";exact Gy rfl (T.b rfl) (tY 4);exact Gy rfl (T.b rfl) (tY 3));exact wj (kZ 5);exact wj (kZ 5);exact wj (kZ 5);exact wj (kZ 5);exact abW (by walk_at "o";exact Jo hr.units);exact L3 (wj<|kZ 5);exact L3 (wj<|kZ 5);exact MV;exact abu rfl (LZ (by walk_at "o")<|LZ (by walk_at "o") abv);exact L7 13 nP rfl (Or.inr rfl) xX;exact xW T.nt (by walk_at "o";exact yN);exact abR hr.units (xW T.nt<|by walk_at "o";exact yN) (kZ 1);exact UL;exact Dq hr.units;exact Dq hr.units
end
def all_mk{l:PySem.W.OpenLaw}{w:jz}{K:PySem.W.Frag}{h:jb}{U:km}{fa BQ i d f:iR}(X:K.In h)(G:h.Ns mainGlobals U)(hfa:U "law"=some (.ref fa))
    {Uw FA:mf}{YN:yw}{Uv V Y R P Z:iT}
    (a40:uP K "law"<|.ref BQ)
    (CW:K.lookup BQ=some ⟨Uv,Uw,.func<|fo "law" "law" (at_ 45) .none V Y R FA P Z,YN⟩)(BC:PySem.W.codeIn K P "law"=true)(CP:PySem.W.keepIn K (.ref BQ)=true)
    (k:uP K "WeatherError"<|.ref i)
    (x:uP K "NoFraction"<|.ref d)
    (N:uP K "Sight"<|.ref f)
    (M:PySem.W.plainGet K f Str.empty=true)(L:PySem.W.hasDictIn K f=true)(J:PySem.W.plainOver K f=true)(I:AG K f "__setattr__" "object.__setattr__")(F:PySem.W.makesIn K f=true)(D:PySem.W.keepIn K (.ref f)=true)
    (n:AH K f "masts")
    (j:AH K f "places")
    (t:PySem.W.excIn K d [.type "ValueError",.type "Exception",.type "BaseException",.type "object"] "ValueError.__new__"=true)(p:PySem.W.keepIn K (.ref d)=true)(r:AG K d "__getattribute__" "BaseException.__getattribute__")(o:AH K d "__getattr__")
    (u:AG K d "__class__" "object.__class__")
    (hnt:qS K=true)
    (zb:xY K FP)(pm:Pm K {WeatherError:=i,NoFraction:=d,Sight:=f,oC:=isF K []}):
    ∃fd:m8,(∀(s:i7) (v:iT),BindsTo s fd ⟨[v],[]⟩ [("_law_script",v)])/\∀A:jb,K.In A->A.Ns mainGlobals U->BM U A->mS l.prog w K U A (j8 l.prog w) 23 fa fd ["_law_script"] (Ea K):=by
 have e:=hfa.symm.trans (PySem.W.mg_of X G a40);cases e;have z:Fp K d:=⟨t,p,r,o,u⟩;have IS:yc K (isF K []):=RE λc hc=>by simp only[aI,cH,fZ]at hc
 have W:Wt l.prog w K U h h:=⟨X,G⟩;obtain⟨a,ea⟩:∃a:Ad,a={WeatherError:=i,NoFraction:=d,Sight:=f,oC:=isF K []}:=⟨_,rfl⟩;have T:Tx K U a:=by subst ea;exact {b:=λe=>W.n<|zb.n e,MJ:=W.g k,FR:=W.g x,FT:=W.g N,LL:=z,rF:=⟨M,L,J,I⟩,zG:=n,zH:=j,nt:=hnt,HK:=IS}
 rw[<-ea]at pm;have ei:a.oC=isF K []:=by rw[ea]
 have m:a.WeatherError=i:=by rw[ea]
 have y:a.NoFraction=d:=by rw[ea]
 have O:a.Sight=f:=by rw[ea]
 clear ea;subst m;subst y;subst O;have Mc:=Hc (st:=(at_ 45)) CW BC CP;refine⟨PySem.W.fnOf "law" "law" (oy<|at_ 45) (mh<|at_ 45) (jQ<|at_ 45) .none V Y R FA P Z,λs v=>.of_eq rfl,λA _ _ bm=>?_⟩;have C:Cm l.prog w K U A h a:=⟨T,⟨X,G⟩,pm,⟨F,D⟩⟩;have Uu:=Qa C Mc;refine Uu.imp λvs H Q E q=>?_;obtain⟨al,ns,hl,fr,hn,rv,tt,q⟩:=q;obtain⟨S',e⟩:=nD.Td (Ph a) ns hn 1;exact aan hl rv tt e q
def walk{l:PySem.W.OpenLaw}{q:jE}{m:jy}{XP:(km)->jb->Prop}{J:jz->jb->Prop}{d:DefRec}{K:Params->PySem.W.Frag}(M:l.most=some 63)(A:d.params.defaults=[])
    (Q:∀(w:jz) (h:jb),J w h->(K w.params).In h)(hT:∀w:jz,(mY<|K w.params).all (λt=>((PyProof.Rows.recsOf q).find? λe=>e.name==t.1).isSome)=true)(hN:∀w:jz,PySem.W.noTabs (K w.params)=true)
    (F:∀(w:jz) (k:km) (r:iR) (h:jb),(K w.params).In h->h.Ns mainGlobals k->k d.name=some (.ref r)->
      ∃C:m8,(∀(s:i7) (u:iT),BindsTo s C ⟨[u],[]⟩ [("_law_script",u)])/\∀c:jb,(K w.params).In c->c.Ns mainGlobals k->BM k c->mS l.prog w (K w.params) k c (j8 l.prog w) 23 r C ["_law_script"] (Ea (K w.params))):
    PySem.W.WalkO q m XP J l.row.toRowW d [] (λf x=>PySem.call f x):=by
 refine EE.MC M A λw I D k mb r o Z cd U a x ns G Y ho hd O y i p j N=>?_;have v:=Q w _ Y;obtain⟨C,P,T⟩:=F w k r _ v G.T.g y;refine Sx v G.T.g G.T.b G.T.builtins G.T.nolimit N i p (aW j<|by decide) ⟨rfl,by decide,by decide⟩ (aag G.T v<|hT w) (hN w) G.T.bmain T P (λH L R=>Y0 j L ?_) λH e V h=>?_
 .rcases R with h|⟨o,w4,n,h1,h2,h3,h4,h5,h6⟩;.exact .lst (.inl ⟨trivial,h⟩) (DY _)
  .have e:=v a o h1;rw[i]at e;cases e;cases h4;exact .lst (.inr ⟨x,_,h1,by simpa using h5,by simpa using h6⟩) (DY _)
 .obtain⟨_,_,_,_,_,_,_,_,_,_,_,_,z⟩:=h;exact z
end nD
structure PySem.W.Fast:Prop where
 (tw18210079248486577863 tw6960891580654444137 tw1168320542202642658 tw6147819874080703767 tw9321144687917476399 tw16647441210889646300 tw8606878904824756981 tw8967748700109455859 tw18125736717336832531 tw3014929365309995852 tw3257285631713027216 tw745267372830961256 tw2234250315382763652 tw15181697259460394076 tw4054501117375365784 tw18079685608734427839 tw7248622583406532296 tw15407238324219015211 tw13199638239075911878 tw15550917024121188393 tw13888410284695708907 tw17067279511038491744 tw2930875811589558538 tw3576635727675734775 tw14096612781330551409 tw17930840851022420247 tw3327927087968708539 tw5341656186059774619 tw17994166166445983178 tw9360741721426843171 tw1750563409022648567 tw14601550470143969606 tw13979766495583829175 tw6642109688562964054 tw16114034690219085259 tw4464098747643601497 tw1111056740472745070 tw1053784510282260419 tw13681905080888592487 tw12853386662019840848 tw14746318175254112349 tw6950068806534920932 tw4707727160949523330 tw2478322840243739273 tw11064156784759200058 tw9761271989983614304 tw16693077205239373974 tw5023126516451840907 tw400749910051181208 tw37189151441480370 tw17521952479201359489 tw15419240474479636038 tw5618677876235446653 tw17398177756067917483 tw296734131150955569 tw17945155628852296940 tw10821023234983923140 tw727175653040919750 tw15252130344968692232 tw5966966444691867442 tw351128835570587643 tw7720617697519885183 tw862429415313011440 tw7202838300774463295 tw896756912018187990 tw12639557684409233889 tw11321273315368465391 tw1904819069245594962 tw3205183533998062386 tw3769089417137752648 tw15233649097066047180 tw13538711355059843819 tw8834137924481397068 tw15521155648914387032 tw15304760713311826834 tw13864463531199725333 tw17036036134274916054 tw17544432777559697971 tw13858103630284174012 tw665597030350932113 tw7425505024563089757 tw8145945789348672084 tw3988353942142039835 tw13738060756199038719 tw15333706285362939655 tw7662672216850542075 tw10834205422787160051 tw10764735870298639113 tw3381289951895904419 tw8303864764029859952 tw18011295147555059322 tw12145051237556296346 tw18080007767727344792 tw3007697385451891891 tw6300124523285482193 tw6618479705312602789 tw10964685459354836528 tw6745296743524797069 tw1576943842455070748 tw9822930824962941489 tw5093244349472971628 tw15070968878363460386 tw9696731012729532276 tw107331227057096722 tw16908595685404720279 tw15180215903401699965 tw16362202791029787094 tw5899656088029947803 tw2923052611545455178 tw14686683245504944951 tw11980724848633389368 tw6884667144226759462 tw4473528511906664524 tw9894333829955803225 tw8289610948498601418 tw726676140595943042 tw1441046858709290834 tw12751351877972142727 tw13522547733892870515 tw17007038018212309830 tw11514367817681326955 tw4630474053811432699 tw2013222537049980221 tw6481452027086578310 tw14818617543393358315 tw3456842600144498544 tw5943308250538252243 tw8418042281242376239 tw10674410605563921634 tw3631385640679263009 tw1318877031304203664 tw7605034331895733631 tw2572735615102708358 tw15427717568047603576 tw17433569575305233482 tw11494770386438932230 tw16409570625896780877 tw4851396082459099396 tw13026676177227129777 tw13560830590426427153 tw14741998601428175248 tw9580027005039880620 tw14352102730686080300 tw12600588349361502385 tw15676903601997351021 tw2452208113780132937 tw2743353516485564865 tw7660034334830451694 tw14494545854388620458 tw1082714229908952110:True)
open PySem PySem.W PyProof.Rows
set_option maxRecDepth 100000 in
set_option maxHeartbeats 0 in
theorem PySem.Challenge.cw_weather_k42_whole_marks_walked_holds : PySem.Challenge.rw_weather_k42_whole_marks_walked.Holds := by
 w_on;o_law;k_head;(case hw=>w_witness2)
 k_fill
 refine nD.walk (l:=PySem.Challenge.rw_weather_k42_whole_marks_walked) rfl rfl (λw h Y=>by first|exact PySem.W.km_in_of Y|exact PySem.W.kIn_of Y) ?hT ?hN ?F;case hT=>exact λw=>by kernel_rfl
 case hN=>exact λw=>by kernel_rfl
 case F=>
  intro w mg fa h KX G Q0;refine' nD.all_mk KX G Q0 ?a40 ?CW ?BC ?CP ?Mn ?Ml ?Mm ?M4 ?M5 ?M6 ?M7 ?M8 ?M9 ?Nh ?Ni ?aa1 ?abz ?abr ?abA ?aa0 ?hnt ?zb ?pm;case a40|CW|BC|CP|Mn|Ml|Mm=>(show _=_;k_is)
  case M4|M5|M6=>kernel_rfl
  case M7=>(show _=_;k_is)
  case M8=>kernel_rfl
  case M9|Nh|Ni=>(show _=_;k_is)
  case aa1=>k_exc
  case abz|abr|abA|aa0=>(show _=_;k_is)
  case hnt=>kernel_rfl
  case zb=>repeat' first|exact trivial|refine⟨(by show _=_;k_is),?_⟩
  case pm=>constructor<;>(try dsimp only)<;>exact .mk
