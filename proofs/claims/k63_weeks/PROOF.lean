import PyProof.Rows.All
import Wide.All
import OpenK.AllK
import Wide.FinOn
import Lean
import PyProof.EqAt
import PyProof.EqKinds
import PyProof.TupleCall
import PyProof.StationsW
import KE.IntBitsLaws
import PyProof.ExcClass2
import PyProof.ExcInit
import PyProof.InstStoreFacts
import PyProof.ExcArgsOwn
import PyProof.ExcAttrAll.ValueError
import KE.KNestM
import KE.IntTextLaws
import KE.KIsAll
import PyProof.Rows.EqDataRows
import PyProof.StrCalls2
import PyProof.Rows.StrSplitJoin
import KE.KIntText
import PyProof.StrBlockI
import PyProof.StrLawsIn
import PyProof.StrLawsIdx
import KE.KLam
import KE.KRevIter
import KE.KSortTup
import PyProof.Rows.SortWalk
import PyProof.Conv_int_bool
import KE.KDictLaws
import PyProof.AttrMissHeap
import KE.KDictOf
import PyProof.DictWalks
import KE.KNest
import PyProof.StrLawsChain
import PyProof.StrLawsTight
import PySem.Challenge.RW_weather_k63_weeks
set_option linter.all false
def aa:=@PySem.wpAny_bind
def ae:=@PySem.Heap.get?_push_of_some
def af:=@PySem.wpAny_pure
def ag:=@List.getElem?_append_left
def ah:=@Nat.le_refl
def ai:=@if_pos
def aj:=@Option.map_eq_some_iff
def ak:=@if_neg
def ao:=@List.length_cons
def aq:=@List.length_append
def ar:=@List.getElem?_eq_some_iff
def au:=@List.getElem?_eq_getElem
def av:=@Array.length_toList
def aw:=@PySem.Heap.get?_push_size
def ax:=@List.getElem?_set_ne
def ay:=@Nat.lt_of_lt_of_le
def az:=@Option.bind_eq_some_iff
def aA:=@Bool.false_ne_true
def aB:=@List.getElem?_map
def aC:=@List.getElem?_append_right
def aD:=@List.length_map
def aE:=@List.map_cons
def aF:=@List.mem_cons
def aG:=@Nat.le_of_ble_eq_true
def aH:=@Array.getElem?_eq_getElem
def aI:=@Nat.le_trans
def aJ:=@List.mem_singleton
def aK:=@List.size_toArray
def aL:=@PySem.wpAny_ite_split
def aM:=@List.mem_of_getElem?
def aN:=@Bool.and_eq_true
def aO:=@Nat.ne_of_lt
def aP:=@List.mem_map
def aQ:=@List.mem_append_right
def aR:=@List.getElem?_set_self
def aS:=@PySem.wpAny_mono
def aT:=@PySem.wpAny_newObj_type
def aU:=@Array.getElem?_toList
def aV:=@decide_eq_true
def aW:=@decide_eq_false
def aX:=@List.getD_eq_getElem?_getD
def aY:=@PySem.mem_of_lookup
def aZ:=@List.append_nil
def ba:=@PySem.Heap.get?_update_self
def bb:=@PySem.Obj.data_mapFields
def bc:=@Bool.false_eq_true
def bf:=@PySem.Heap.SameBut.update
def bg:=@Array.getElem?_eq_some_iff
def bh:=@of_decide_eq_true
def bj:=@Nat.lt_irrefl
def bo:=@Int.toNat_natCast
def bp:=@List.length_set
def bq:=@List.length_singleton
def br:=@List.getElem?_replicate
def bu:=@List.mem_cons_of_mem
def bw:=@List.map_map
def bx:=@List.mem_append
def bz:=@List.mem_range
def bA:=@PySem.wpAny_call_entry
def bB:=@PySem.Heap.get?_update_other
def bC:=@if_false
def bD:=@Nat.zero_le
def bE:=@PySem.Obj.isFreed_of_fields
def bF:=@decide_eq_true_eq
def bG:=@PySem.wpAny_setState_of
def bH:=@PySem.wpAny_callSpecial?_slot
def bI:=@PySem.Heap.size_push
def bJ:=@Nat.le_of_lt
def bK:=@List.getElem_of_mem
def bL:=@Nat.lt_succ_of_lt
def bM:=@List.any_eq_false
def bN:=@PySem.wpAny_setField
def bO:=@List.map_append
def bP:=@List.mem_cons_self
def bQ:=@PySem.F.slot_dict_keyiterator_next
def bR:=@List.mem_append_left
def bS:=@List.cons_append
def bT:=@PySem.Around.under_plainId
def bU:=@PySem.wpAny_holding
def bV:=@Array.getElem?_eq_none
def bW:=@List.map_congr_left
def bX:=@List.nodup_cons
def bY:=@PySem.codeAny_builtin
def bZ:=@List.drop_eq_getElem_cons
def b0:=@Classical.byContradiction
def b7:=@List.length_replicate
def b8:=@PySem.wpAny_Call_Name_kw
def cb:=@Nat.lt_succ_self
def cc:=@Nat.ne_of_gt
def cf:=@Option.isSome_iff_exists
def cg:=@List.map_nil
def cj:=@PySem.wpAny_typeNameOfWhole_keyiter
def ck:=@Int.eq_ofNat_of_zero_le
def cm:=@Nat.not_lt_zero
def cn:=@congrArg
def cq:=@PyProof.Rows.F.plain_set_update_loop
def cu:=@List.drop_eq_nil_of_le
def cw:=@List.length_take
def cx:=@List.not_mem_nil
def cy:=@Nat.lt_of_le_of_lt
def cz:=@Int.natAbs_mul
def cA:=@Ne.symm
def cB:=@if_true
def cC:=@List.mem_filter
def cD:=@PySem.wpAny_passesOwn
def cE:=@Nat.pow_succ
def cF:=@PySem.wpAny_comprehension_free
def cG:=@List.any_cons
def cH:=@PySem.wpAny_typeNameOf_keyiter
def cI:=@PySem.Heap.get?_update_ne
def cJ:=@PySem.wpAny_setEntries_of
def cK:=@PyProof.Rows.callWith_builtin1
def cL:=@List.length_drop
def cM:=@decide_eq_false_iff_not
def cN:=@PySem.wpAny_getItem_str_slice
def cO:=@List.any_eq_true
def cQ:=@PySem.F.plain_list_iadd
def cR:=@List.lookup_cons
def cS:=@List.filter_cons_of_pos
def cT:=@List.filter_cons_of_neg
def cU:=@PySem.sizeLine_eq
def cV:=@List.mem_filterMap
def cW:=@Bool.or_eq_true
def cX:=@List.find?_cons
def cY:=@List.foldl_cons
def cZ:=@List.length_filter_le
def c6:=@PyProof.Rows.callWith_type1
def c7:=@PySem.Obj.cls_mapFields
def c8:=@PySem.F.typeOf_object_class
def da:=@PySem.wpAny_loadPart_at
def dc:=@List.append_assoc
def df:=@List.length_range
def dg:=@beq_iff_eq
def dh:=@Array.perm_iff_toList_perm
def di:=@PySem.wpAny_fieldsOf
def dj:=@List.all_eq_true
def dm:=@Nat.succ_pos
def dq:=@PySem.F.args_dict_keyiterator_next_1
def dr:=@PyProof.Rows.F.entry_set_update_loop
def du:=@Array.toList_append
def dw:=@PySem.wpAny_attempt
def dy:=@PySem.F.entry_dict_keyiterator_next
def dz:=@PyProof.Rows.get?_update_seq
def dB:=@Int.mul_ne_zero
def dD:=@PySem.Calls.spliced_cons
def dE:=@of_decide_eq_false
def dF:=@List.pairwise_cons
def dG:=@Nat.mod_lt
def dH:=@PySem.wpAny_field
def dI:=@Nat.le_succ
def dJ:=@PySem.wpAny_truthy_bool
def dM:=@PySem.codeAny_mono
def dN:=@PySem.F.slot_list_append
def dO:=@decide_false
def dP:=@PySem.wpAny_dictEntries
def dQ:=@Nat.lt_trichotomy
def dR:=@List.take_of_length_le
def dS:=@Nat.Coprime.dvd_of_dvd_mul_right
def dU:=@List.nodup_append
def dW:=@PySem.atKey_none_of_get
def dX:=@PyProof.Rows.slot_tuple_getitem
def dY:=@Array.getElem?_setIfInBounds_ne
def dZ:=@List.getElem?_eq_none
def d0:=@Array.mem_of_getElem?
def d4:=@List.getElem_mem
def d5:=@PySem.wpAny_isInstance
def d6:=@PySem.wpAny_standAt
def d7:=@PySem.plainId_quiet
def d8:=@Bool.not_true
def d9:=@PySem.codeAny_call_builtin
def ee:=@Array.mem_toList_iff
def ej:=@decide_true
def en:=@PySem.wpAny_execs_nil
def er:=@Bool.eq_iff_iff
def et:=@List.of_mem_zip
def eu:=@PySem.post_val_or_str
def eA:=@PySem.F.slot_dict_setdefault
def eB:=@List.filterMap_cons
def eC:=@Array.getD_eq_getD_getElem?
def eD:=@PySem.F.entry_proto_collect
def eE:=@PySem.F.plain_proto_collect
def eF:=@PySem.W.kia_one
def eG:=@PySem.Calls.Name_function_global
def eH:=@PyProof.Rows.assignInOrder_cons
def eI:=@PySem.wpAny_bindName
def eJ:=@PySem.wpAny_newFunctionEnv_cells
def eK:=@Nat.add_sub_cancel
def eL:=@List.zip_cons_cons
def eM:=@PySem.tupleKind_room_in1
def eN:=@PySem.wpAny_seqItems
def eO:=@Int.eq_of_mul_eq_mul_right
def eQ:=@Nat.mul_le_mul
def eR:=@List.pairwise_iff_getElem
def eS:=@PySem.wpAny_pyIter_list
def eT:=@PySem.Calls.spliced_nil
def eU:=@PySem.wpAny_pyIter_slot
def eV:=@List.ext_getElem?
def eW:=@List.Pairwise.map
def eX:=@PySem.F.args_tuple_add_2
def eY:=@Nat.mul_assoc
def eZ:=@List.length_erase_of_mem
def fb:=@List.Pairwise.imp_of_mem
def fg:=@PySem.F.type_list_append
def fh:=@Int.mul_assoc
def fj:=@PySem.W.cellsFrom_some
def fk:=@PySem.F.entry_tuple_add
def fm:=@or_false
def fq:=@beq_self_eq_true
def fw:=@List.pairwise_singleton
def fx:=@Option.getD_some
def fA:=@List.ext_getElem
def fB:=@List.getElem_map
def fC:=@List.getElem?_cons_succ
def fD:=@PySem.F.entry_list_iadd
def fE:=@PySem.wpAny_askSetting
def fF:=@List.length_eq_zero_iff
def fG:=@PySem.wpAny_forIn_list
def fH:=@PySem.F.plainAttrs_list
def fI:=@PySem.F.slot_tuple_add
def fJ:=@PySem.wpAny_typeOf
def fK:=@PySem.Txt.slice_le
def fL:=@Nat.lt_trans
def fM:=@PySem.F.slot_dict_iter
def fN:=@Nat.not_lt
def fO:=@Nat.mul_comm
def fQ:=@List.pairwise_lt_range
def fR:=@Int.le_of_lt
def fS:=@Nat.le_mul_of_pos_left
def fT:=@List.nil_append
def fU:=@List.length_nil
def fV:=@PySem.wpAny_specialOf
def fW:=@PySem.wpAny_dictEpoch
def fX:=@beq_false_of_ne
def fY:=@List.cons.injEq
def fZ:=@List.Pairwise.sublist
def f3:=@PySem.F.plain_set_new
def f6:=@PySem.F.slot_set_iter
def f7:=@List.singleton_append
def gb:=@Int.natAbs_dvd_natAbs
def gc:=@PySem.W.mg_of
def gd:=@Nat.add_le_add
def gf:=@Array.getElem_toList
def gg:=@Bool.or_eq_false_iff
def gh:=@PySem.wpAny_of_eq
def gi:=@PySem.isSubtype_stop
def gj:=@PySem.wpAny_runValue
def gk:=@Array.toArray_toList
def gm:=@Array.toList_extract
def gp:=@PySem.isSubtype_type
def gq:=@List.length_eraseIdx
def gr:=@List.perm_cons_erase
def gs:=@Nat.mul_add
def gu:=@Nat.add_mul
def gw:=@List.mem_erase_of_ne
def gx:=@Nat.pow_le_pow_right
def gy:=@Bool.not_false
def gz:=@List.foldl_map
def gA:=@PySem.wpAny_rule
def gB:=@Nat.sub_self
def gD:=@Nat.lt_or_ge
def gE:=@Int.mul_comm
def gF:=@List.any_map
def gG:=@Int.mul_one
def gH:=@Nat.mul_one
abbrev pR:List PySem.Str:=["_law_cell","_law_k"]
abbrev rm:List PySem.Str:=["_law_script","_law_k"]
abbrev tM:List PySem.Str:=["_law_top","_law_bottom"]
abbrev wF:List PySem.Str:=["_law_script","_law_words"]
abbrev ia:=PySem.Value->PySem.Shared->Prop
abbrev iw:=PySem.Str->Option PySem.Value
abbrev pB:Nat:=10000000000000000000000000000000000000000000000000000000000000000000000000000000000000000000000000000000000000000000000000000000000000000000000000000000000000000000000000000000000000000000000000000000000000000000000000000000000000000000000000000000000000000000000000000000000000000000000000000000000000000000000000000000000000000000000000000000000000000000000000000000000000000000000000000000000000000
noncomputable section
set_option Elab.async false
set_option maxRecDepth 100000
namespace L2
open PySem PySem.Spec PyProof.Rows
abbrev Key:=Sum Int Str
def lV:Key->Value->Bool
 |.inl k,v=>Value.isInt k v
 |.inr x,v=>Value.isStrOf x v
def HQ(w:World):Key->Int
 |.inl k=>hashInt k
 |.inr x=>hashStr w x
def mW:∀{k} {v},lV k v=true->(∃i t,k=Sum.inl i/\v=Value.int i t)\/(∃x t,k=Sum.inr x/\v=Value.str x t)
 |.inl i,v,h=>by obtain⟨t,e⟩:=Value.isInt_shape (k:=i) (v:=v) h;exact .inl ⟨i,t,rfl,e⟩
 |.inr x,v,h=>by obtain⟨t,e⟩:=Value.isStrOf_shape (x:=x) (v:=v) h;exact .inr ⟨x,t,rfl,e⟩
def HR(i:Int)(t):lV (.inl i) (.int i t)=true:=by simp[lV,Value.isInt]
def HS(x t):lV (.inr x) (.str x t)=true:=by simp[lV,Value.isStrOf]
def HX(a b:Int):decide ((Sum.inl a:Key)=Sum.inl b)=(a==b):=by
 by_cases e:a=b;·subst e;simp
 ·have h:¬(Sum.inl a:Key)=Sum.inl b:=λq=>e (Sum.inl.inj q);rw[aW h];exact(beq_eq_false_iff_ne.mpr e).symm
def Ia(a b):decide ((Sum.inr a:Key)=Sum.inr b)=decide (a=b):=by
 by_cases e:a=b;·subst e;simp
 ·have h:¬(Sum.inr a:Key)=Sum.inr b:=λq=>e (Sum.inr.inj q);rw[aW h,aW e]
def HY(a:Int)(b):decide ((Sum.inl a:Key)=Sum.inr b)=false:=aW (λq=>nomatch q)
def HZ(a)(b:Int):decide ((Sum.inr a:Key)=Sum.inl b)=false:=aW (λq=>nomatch q)
def jk(c:Program)(w:World):PySem.KeyKind c w Key where
 is:=lV
 hash:=HQ w
 inj:=λv a b l f=>by
  rcases mW l with⟨i,t,rfl,rfl⟩|⟨x,t,rfl,rfl⟩
  ·rcases mW f with⟨j,u,rfl,e⟩|⟨y,u,rfl,e⟩;·injection e with e1 _;rw[e1]
   ·exact nomatch e
  ·rcases mW f with⟨j,u,rfl,e⟩|⟨y,u,rfl,e⟩;·exact nomatch e
   ·injection e with e1 _;rw[e1]
 byValue:=λk v h=>by rcases mW h with⟨i,t,rfl,rfl⟩|⟨x,t,rfl,rfl⟩<;>rfl
 pyHash:=λd h=>by
  rcases mW d with⟨i,t,rfl,rfl⟩|⟨x,t,rfl,rfl⟩;·exact wpAny_pyHash_int h
  ·exact wpAny_pyHash_str h
 eqBool:=λg d h=>by
  rcases mW g with⟨i,t,rfl,rfl⟩|⟨x,t,rfl,rfl⟩
  ·rcases mW d with⟨j,u,rfl,rfl⟩|⟨y,u,rfl,rfl⟩;·rw[HX]at h;exact wpAny_eqBool_int h
   ·rw[HY]at h;exact SeqAt.EqAt.int_str i t y u _ _ _ _ h
  ·rcases mW d with⟨j,u,rfl,rfl⟩|⟨y,u,rfl,rfl⟩;·rw[HZ]at h;exact SeqAt.EqAt.str_int x t j u _ _ _ _ h
   ·rw[Ia]at h;exact wpAny_eqBool_str h
 «strs»:=λk x t v h=>by
  rcases mW h with⟨i,u,rfl,e⟩|⟨y,u,rfl,e⟩;·exact nomatch e
  ·injection e with e1 _;subst e1;cases v<;>rfl
def Jg(prog w)(i:Int)(t):(jk prog w).is (.inl i) (.int i t)=true:=HR i t
def Jh(prog w x t):(jk prog w).is (.inr x) (.str x t)=true:=HS x t
inductive V where
 |non|bl(b:Bool)|int(i:Int)|str(x:Str)|kY(b:Array UInt8)|flt(b:UInt64)|ref(a:Addr)|ty(n:String)
 deriving DecidableEq
def RelV:V->Value->Prop
 |.non,u=>u=Value.none
 |.bl b,u=>u=Value.bool b
 |.int i,u=>∃t,u=Value.int i t
 |.str x,u=>∃t,u=Value.str x t
 |.kY b,u=>∃t,u=Value.bytes b t
 |.flt b,u=>∃t,u=Value.float b t
 |.ref a,u=>u=Value.ref a
 |.ty n,u=>u=Value.type n
abbrev Vals:List V->List Value->Prop:=Paired RelV
def Vals.length{a:List V}{b:List Value}(r:Vals a b):a.length=b.length:=Paired.length r
theorem Vals.get:∀{a:List V} {b:List Value} {i:Nat} {x:V},Vals a b->a[i]?=some x->∃u,b[i]?=some u/\RelV x u
 |_,_,_,_,.nil,e=>by simp at e
 |_,_,0,_,.cons r _,e=>by simp at e;subst e;exact⟨_,rfl,r⟩
 |_,_,i+1,x,.cons _ t,e=>by obtain⟨u,d,c⟩:=Vals.get (i:=i) (x:=x) t (by simpa using e);exact⟨u,by simpa using d,c⟩
theorem Vals.append:∀{b a} {d c},Vals b d->Vals a c->Vals (b++a) (d++c)
 |_,_,_,_,.nil,s=>s
 |_,_,_,_,.cons r t,s=>.cons r (Vals.append t s)
theorem Vals.take:∀{a} {b} n,Vals a b->Vals (a.take n) (b.take n)
 |_,_,0,_=>.nil
 |_,_,_+1,.nil=>.nil
 |_,_,n+1,.cons r t=>.cons r (Vals.take n t)
theorem Vals.drop:∀{a} {b} n,Vals a b->Vals (a.drop n) (b.drop n)
 |_,_,0,r=>r
 |_,_,_+1,.nil=>.nil
 |_,_,n+1,.cons _ t=>Vals.drop n t
def nr:Option V->Option Value->Prop
 |some v,some u=>RelV v u
 |none,none=>True
 |_,_=>False
def KV{a:Type}:List (a×V)->List (a×Value)->Prop:=Paired λ(p:a×V) (q:a×Value)=>p.1=q.1/\RelV p.2 q.2
def kV:Key->V
 |.inl i=>.int i
 |.inr x=>.str x
inductive HO where
  /-- a list -/
 |lst(xs:List V)
  /-- a tuple (never changes) -/
 |tup(xs:List V)
  /-- a dict whose keys are ints and texts; one whose keys are tuples of ints and texts (the empty one is both) -/
 |dK(kvs:List<|Key×V)|dT(kvs:List<|List Key×V)
  /-- a set of ints: its members, its size -/
 |set(S:Int->Bool)(n:Nat)
  /-- an instance of the class at C, its dict at dx, its attributes -/
 |ins(C dx:Addr)(fs:List<|Str×V)
  /-- the dict of the instance at x -/
 |own(x:Addr)
  /-- the dict of an exception -/
 |xd(fs:List<|Str×V)
  /-- a bound method, f of x -/
 |met(f x:Addr)
  /-- a range object lo, lo + 1, .. below hi -/
 |uv(lo hi:Int)
  /-- a thing that is known to the object (the script; a dict while a loop walks it): read, never written while it is so -/
 |jD(o:Obj)(u:HO)
  /-- a code object's table -/
 |iO(ps:Array Value)
  /-- any other thing, by what is true of its one object (a def of one's own: SetO a S n := HO.ext λh => ..) -/
 |ext(φ:Heap->Prop)
abbrev Hp:=Addr->Option HO
def upd(H:Hp)(a:Addr)(o:HO):Hp:=λb=>if b=a then some o else H b
def ix:upd H a o a=some o:=by unfold upd;rw[ai rfl]
def gY(h:b≠a):upd H a o b=H b:=by unfold upd;rw[ak h]
def Bj{H:Hp}{u}(h:H a=some o)(c:H b=some u)(d:o≠u):a≠b:=by intro e;subst e;rw[h]at c;exact d (Option.some.inj c)
def jl{H:Hp}(h:H a=some o)(c:H b=none):a≠b:=by intro e;subst e;rw[h]at c;cases c
section
variable(P:Program)(w:World)
def iY(H:Hp)(h:Heap)(a:Addr):HO->Prop
 |.lst d=>d.length<=sizeLine/\∃c n,Vals d c/\h.get? a=some {cls:=.type "list",data:=.seq c.toArray n}
 |.tup d=>d.length<=sizeLine/\∃c:List Value,Vals d c/\IsTup h a c.toArray
 |.dK b=>b.length<=sizeLine/\(a==sysModules)=false/\∃j,KV b j/\h.DictOf (jk P w) a j
 |.dT b=>b.length<=sizeLine/\(a==sysModules)=false/\∃d:List (List Key×Addr×Value),
   Paired (λ(p:List Key×V) (q:List Key×Addr×Value)=>p.1=q.1/\H q.2.1=some (.tup<|p.1.map kV)/\RelV p.2 q.2.2) b d/\
   ∃o m s,h.get? a=some o/\o.ExactDict/\o.data=.dict m s/\m.toList=d.map (entryOfKey<|tupleKind<|jk P w)/\(d.map (·.1)).Nodup
 |.set S n=>h.SetOf (intKind P w) a S n
 |.ins C g fs=>H g=some (.own a)/\fs.length<=1000/\g≠a/\h.get? a=some (W.instObj C g)/\
   ∃e,h.Ns1 g e/\(∀f,nr (fs.lookup f)<|e f)/\PySem.Within e (fs.map (·.1))
 |.own _=>∃o,h.get? a=some o
 |.xd fs=>∃e,h.Ns1 a e/\∀f,nr (fs.lookup f) (e f)
 |.uv lo hi=>∃t u v,h.get? a=some {cls:=.type "range",data:=.fields #[.int lo t,.int hi u,.int 1 v]}
 |.jD o u=>h.get? a=some o/\iY H h a u
 |.iO r=>h.get? a=some {cls:=.none,data:=.fields r}
 |.met f x=>h.get? a=some (W.methodObj (.ref f)<|.ref x)
 |.ext i=>i h/\(∃o,h.get? a=some o)/\∀l k:Heap,i l->(∀o,l.get? a=some o->k.get? a=some o)->i k
def iL(H:Hp)(h:Heap):Prop:=∀a o,H a=some o->iY P w H h a o
variable{P:Program}{w:World}{H i:Hp}{h h':Heap}{a:Addr}{o:HO}
def iY.lt(x:iY P w H h a o):a<h.objs.size:=by
 cases o with
 |lst c=>obtain⟨_,_,_,_,e⟩:=x;exact Heap.lt_size e
 |tup c=>obtain⟨_,_,_,p⟩:=x;exact p.lt
 |dK b=>obtain⟨_,_,_,_,o,_,_,e,_⟩:=x;exact Heap.lt_size e
 |dT b=>obtain⟨_,_,_,_,o,_,_,e,_⟩:=x;exact Heap.lt_size e
 |set S n=>obtain⟨o,_,_,_,e,_⟩:=x;exact Heap.lt_size e
 |ins C j fs=>obtain⟨_,_,_,e,_⟩:=x;exact Heap.lt_size e
 |own y=>obtain⟨_,e⟩:=x;exact Heap.lt_size e
 |xd fs=>obtain⟨_,⟨_,_,_,e,_⟩,_⟩:=x;exact Heap.lt_size e
 |uv lo hi=>obtain⟨_,_,_,e⟩:=x;exact Heap.lt_size e
 |jD ob u=>obtain⟨e,_⟩:=x;exact Heap.lt_size e
 |iO g=>exact Heap.lt_size (show h.get? a=some _ from x)
 |met f y=>exact Heap.lt_size (show h.get? a=some _ from x)
 |ext d=>obtain⟨_,⟨_,e⟩,_⟩:=x;exact Heap.lt_size e
theorem Paired.wI{g e:Type}{F G:g->e->Prop}:∀{d:List g} {c:List e},Paired F d c->(∀a b,F a b->G a b)->Paired G d c
 |_,_,.nil,_=>.nil
 |_,_,.cons r t,f=>.cons (f _ _ r) (Paired.wI t f)
def iY.oT(x:iY P w H h a o)(k:∀b u,(b=a\/H b=some (.own a))->h.get? b=some u->h'.get? b=some u)
    (J:∀b,H b=some (.own a)->i b=some (.own a))(I:∀b m,H b=some (.tup m)->i b=some (.tup m)):iY P w i h' a o:=by
 induction o with
 |lst m=>obtain⟨z,l,n,r,e⟩:=x;exact⟨z,l,n,r,k _ _ (.inl rfl) e⟩
 |tup m=>obtain⟨z,l,r,ob,e,c⟩:=x;exact⟨z,l,r,ob,k _ _ (.inl rfl) e,c⟩
 |dK B=>obtain⟨z,y,F,r,ob,g,j,e,c⟩:=x;exact⟨z,y,F,r,ob,g,j,k _ _ (.inl rfl) e,c⟩
 |dT B=>obtain⟨z,y,m,r,ob,g,j,e,c⟩:=x;exact⟨z,y,m,Paired.wI r λp q z=>⟨z.1,I _ _ z.2.1,z.2.2⟩,ob,g,j,k _ _ (.inl rfl) e,c⟩
 |set S n=>obtain⟨ob,g,j,t,e,c⟩:=x;exact⟨ob,g,j,t,k _ _ (.inl rfl) e,c⟩
 |ins C M fs=>obtain⟨d,z,ne,e,A,⟨s,g,j,K,c⟩,r⟩:=x;exact⟨J _ d,z,ne,k _ _ (.inl rfl) e,A,⟨s,g,j,k _ _ (.inr d) K,c⟩,r⟩
 |own y=>obtain⟨ob,e⟩:=x;exact⟨ob,k _ _ (.inl rfl) e⟩
 |xd fs=>obtain⟨A,⟨s,g,j,e,c⟩,r⟩:=x;exact⟨A,⟨s,g,j,k _ _ (.inl rfl) e,c⟩,r⟩
 |uv lo hi=>obtain⟨t,u,v,e⟩:=x;exact⟨t,u,v,k _ _ (.inl rfl) e⟩
 |jD ob u G=>obtain⟨e,q⟩:=x;exact⟨k _ _ (.inl rfl) e,G q⟩
 |iO E=>have e:h.get? a=some {cls:=.none,data:=.fields E}:=x;show h'.get? a=some {cls:=.none,data:=.fields E};exact k a _ (.inl rfl) e
 |met f y=>have e:h.get? a=some (W.methodObj (.ref f)<|.ref y):=x;show h'.get? a=some (W.methodObj (.ref f)<|.ref y);exact k a _ (.inl rfl) e
 |ext L=>obtain⟨p,⟨o,e⟩,D⟩:=x;exact⟨D _ _ p λo q=>k _ _ (.inl rfl) q,⟨o,k _ _ (.inl rfl) e⟩,D⟩
def iL.lt(x:iL P w H h)(e:H a=some o):a<h.objs.size:=(x a o e).lt
def iL.fresh(x:iL P w H h)(e:h.objs.size<=a):H a=none:=by
 cases q:H a with
 |none=>rfl
 |some u=>exact absurd (ay (x.lt q) e) (bj _)
def iL.kept(x:iL P w H h)(k:∀b u,h.get? b=some u->h'.get? b=some u):iL P w H h':=λa o e=>(x a o e).oT (λb u _ q=>k b u q) (λ_ q=>q) λ_ _ q=>q
def iL.laid(x:iL P w H h)(k:∀b u,h.get? b=some u->h'.get? b=some u)(g:h.objs.size<=a)(new:iY P w (upd H a o) h' a o):iL P w (upd H a o) h':=λb u e=>by
 have d:=x.fresh g;by_cases f:b=a;·subst f;rw[ix]at e;cases e;exact new
 ·rw[gY f]at e;exact(x b u e).oT (λc v _ q=>k c v q) (λc q=>by rw[gY<|jl q d];exact q) λc j q=>by rw[gY<|jl q d];exact q
end
def Rd(H:Hp)(a:Addr)(u:HO):Prop:=H a=some u\/∃o,H a=some (.jD o u)
def Rd.ok{w u}(r:Rd H a u)(x:iL P w H h):iY P w H h a u:=by
 rcases r with r|⟨o,r⟩;·exact x a u r
 ·obtain⟨_,q⟩:=x a _ r;exact q
def qB:Option HO->Prop
 |some (.lst _)=>True
 |some (.dK _)=>True
 |some (.dT _)=>True
 |some (.set _ _)=>True
 |some (.ins _ _ _)=>True
 |some (.ext _)=>True
 |_=>False
section
variable{P:Program}{w:World}{H:Hp}{h h':Heap}{x e:Addr}{a:HO}
def iL.write(ok:iL P w H h)(j:qB<|H x)(p:e=x\/H e=some (.own x))(k:∀b u,b≠e->h.get? b=some u->h'.get? b=some u)(n:∃u,h'.get? e=some u)
 (new:iY P w (upd H x a) h' x a):iL P w (upd H x a) h':=λb u q=>by
  have f:∀c y,H c=some (.own y)->c≠x:=λc y r z=>by subst z;rw[r]at j;exact j
  have g:∀c i,H c=some (.tup i)->c≠x:=λc i r z=>by subst z;rw[r]at j;exact j
  by_cases m:b=x;·subst m;rw[ix]at q;cases q;exact new
  ·rw[gY m]at q;by_cases d:b=e
   ·have o:H b=some (.own x):=by
     rcases p with z|z;·exact absurd (d.trans z) m
     ·rw[d];exact z
    rw[q]at o;cases o;obtain⟨v,s⟩:=n;exact⟨v,by rw[d];exact s⟩
   ·refine(ok b u q).oT (λc v l r=>k c v ?_ r) (λc r=>by rw[gY<|f c b r];exact r) λc i r=>by rw[gY<|g c i r];exact r
    rcases l with rfl|l;·exact d
    ·rintro rfl
     rcases p with z|z;·exact f c b l z
     ·rw[l]at z;cases z;exact m rfl
end
structure Un(fs ex:List Addr)(H H':Hp)(h h':Heap):Prop where
 keep:∀b o,h.get? b=some o->H b=none->b∉fs->b∉ex->h'.get? b=some o
 slot:∀b o,h.get? b=some o->H b=none->b∈fs->b∉ex->∃sl,h'.get? b=some {o with slots:=sl}
 free:∀b o,h.get? b=some o->H b=none->b∉ex->H' b=none
 there:∀b o,h.get? b=some o->b∉ex->∃o',h'.get? b=some o'
 tups:∀b xs,H b=some (.tup xs)->H' b=some (.tup xs)
 lO:∀b o u,H b=some (.jD o u)->H' b=some (.jD o u)
 m8:∀b ps,H b=some (.iO ps)->∃more,H' b=some (.iO<|ps++more)
section
variable{fs f ex i:List Addr}{H j m:Hp}{h c l h':Heap}{a x e:Addr}{o:HO}
def Un.any(u:Un fs ex H j h c){b:Addr}{ob:Obj}(q:h.get? b=some ob)(n:H b=none)(d:b∉ex):∃k,c.get? b=some {ob with slots:=k}:=by
 by_cases g:b∈fs;·exact u.slot b ob q n g d
 ·exact⟨ob.slots,u.keep b ob q n g d⟩
def Un.kept(k:∀b u,h.get? b=some u->h'.get? b=some u):Un fs ex H H h h':=
 ⟨λb ob q _ _ _=>k b ob q,λb ob q _ _ _=>⟨ob.slots,k b ob q⟩,λ_ _ _ n _=>n,λb ob q _=>⟨ob,k b ob q⟩,λ_ _ q=>q,λ_ _ _ q=>q,λ_ d q=>⟨#[],by rw[q];simp⟩⟩
def Un.refl:Un fs ex H H h h:=Un.kept λ_ _ q=>q
def Un.laid(k:∀b u,h.get? b=some u->h'.get? b=some u)(p:h.objs.size<=a)(d:H a=none):Un fs ex H (upd H a o) h h' where
 keep:=λb u q _ _ _=>k b u q
 slot:=λb u q _ _ _=>⟨u.slots,k b u q⟩
 free:=λb u q n _=>by rw[gY<|aO<|ay (Heap.lt_size q) p];exact n
 there:=λb u q _=>⟨u,k b u q⟩
 tups:=λb g q=>by rw[gY<|jl q d];exact q
 lO:=λb u g q=>by rw[gY<|jl q d];exact q
 m8:=λb r q=>⟨#[],by rw[gY<|jl q d,q];simp⟩
def Un.write(g:qB<|H x)(A:e=x\/H e=some (.own x))(k:∀b u,b≠e->h.get? b=some u->h'.get? b=some u)(s:∃u,h'.get? e=some u):Un fs ex H (upd H x o) h h':=by
 have t:∀b,H b=none->b≠x:=λb n z=>by subst z;rw[n]at g;exact g
 have v:∀b,H b=none->b≠e:=λb n z=>by
  subst z;rcases A with r|r;·exact t b n r
  ·rw[n]at r;cases r
 have p:∀b u,H b=some u->¬qB (some u)->b≠x:=λb u q y z=>by subst z;rw[q]at g;exact y g
 refine⟨λb u q n _ _=>k b u (v b n) q,λb u q n _ _=>⟨u.slots,k b u (v b n) q⟩,λb u q n _=>by rw[gY (t b n)];exact n,λb u q _=>?_,
  λb w q=>by rw[gY (p b _ q λz=>z)];exact q,λb u w q=>by rw[gY (p b _ q λz=>z)];exact q,λb B q=>⟨#[],by rw[gY (p b _ q λz=>z),q];simp⟩⟩
 by_cases d:b=e;·subst d;exact s
 ·exact⟨u,k b u d q⟩
end
def uK(h:Heap)(H:Hp):List Addr:=(List.range h.objs.size).filter λa=>(H a).isSome
def mx(h:Heap)(H:Hp):Heap:=W.hideAll h (uK h H)
def G5(h H):(mx h H).objs.size=h.objs.size:=W.hideAll_size _ _
def G4{h:Heap}{H:Hp}(e:h.get? b=some o)(n:H b=none):(mx h H).get? b=some o:=
 W.hideAll_get _ e λa=>by have q:(H b).isSome=true:=(cC.mp a).2;rw[n]at q;simp at q
def Jy(e:(mx h H).get? b=some o):h.get? b=some o/\H b=none:=by
 have a:h.get? b=some o:=W.of_hideAll (uK h H) e;refine⟨a,?_⟩;cases q:H b with
 |none=>rfl
 |some x=>have c:b∈uK h H:=cC.mpr ⟨bz.mpr<|Heap.lt_size a,by simp[q]⟩;have z:(mx h H).get? b=none:=W.hideAll_none (uK h H) c;rw[z]at e;cases e
def Ek(g h:Heap)(L:Addr):List (Addr×Obj):=(List.range h.objs.size).filterMap λa=>if a=L\/(g.get? a).isSome=true then none else(h.get? a).map λo=>(a,o)
def rest(g h:Heap)(L d:Addr):List (Addr×Obj):=(Ek g h L).filter λp=>decide (p.1≠d)
structure Mod(K:W.Frag)(mg:iw)(base:Heap):Prop where
 wq:K.In base
 glob:base.Ns mainGlobals mg
 blt:∃mb,base.Ns builtinsNs mb/\∀x:Str,x≠"__name__"->mb x=bootBuiltins x
 nolimit:base.NoLimit
structure Cx where
 prog:Program
 w:World
 K:W.Frag
 mg:iw
 base:Heap
 A:Around
 N:List Str
 s₀:Shared
 H₀:Hp
 env:Env
 outer:List Env
 stack:List Env
 ex:List Addr
 fn:Str->Bool
 calm:Bool
 pn:List (Addr×Obj)
 xe:ia
abbrev Cx.se(X:Cx)(e:Expr)(es:List Expr):Prop:=starEach (e::es) X.env=(false,eval e X.env)::starEach es X.env
abbrev Cx.bk(X:Cx)(pos:Pos)(es:List Expr):Prop:=(backTo pos<|starEach es X.env).any (·.1)=false
abbrev jc(x:Str):Prop:=(x==("__debug__":Str))=false
abbrev Cx.hf(X:Cx)(x:Str):Prop:=X.fn x=true\/X.env.scope.names.lookup x=some .local
abbrev kN(s:Scope):Prop:=∀x∈s.names,x.2=.local->s.names.lookup x.1=some .local
abbrev lX(s:Scope):Prop:=∀y∈s.names,y.2≠.cell
def frs(l:List Env):List Addr:=l.filterMap (·.frame)
abbrev Cx.fs(X:Cx):List Addr:=frs X.outer
def oa(a:Scope)(x:Str):Prop:=a.names.lookup x=some .local\/a.names.lookup x=some .cell\/a.names.lookup x=some .free
def Loc(a:Scope)(x:Str):Prop:=a.names.lookup x=some .local\/a.names.lookup x=some .cell
def Look(a:Env)(h:Heap)(m:iw)(x:Str)(u:Value):Prop:=
 (a.kindOf x=some .local/\m x=some u)\/((a.kindOf x=some .cell\/a.kindOf x=some .free)/\∃c,a.cells.lookup x=some c/\h.IsCell c (some u))
structure Cx.Ok(X:Cx):Prop where
 mod:Mod X.K X.mg X.base
 kind:X.env.scope.kind=.function
 glob:X.env.globals=mainGlobals
 blt:X.env.builtins=builtinsNs
 above:X.s₀.heap.objs.size<=X.env.locals
 inj:∀x y c,X.env.cells.lookup x=some c->X.env.cells.lookup y=some c->x=y
 has:∀x,(X.env.kindOf x=some .cell\/X.env.kindOf x=some .free)->∃c,X.env.cells.lookup x=some c
 cab:∀x c,X.fn x=true->X.env.cells.lookup x=some c->X.s₀.heap.objs.size<=c
 hd:X.calm=true->X.A.handled=none
 frames:X.A.frames=some X.stack
 CH:X.stack=X.outer\/(X.stack=X.env::X.outer/\X.env.frame=some X.env.locals)
 Aa:∀b∈X.ex,b≠X.env.locals/\∀x c,X.env.cells.lookup x=some c->c≠b
 bs:∀b o,X.base.get? b=some o->X.s₀.heap.get? b=some o/\X.H₀ b=none
 ny:X.base.objs.size<=X.s₀.heap.objs.size
 tV:∀b o,X.base.get? b=some o->b∉X.ex
 sU:∀b∈X.ex,b∉X.fs
 lP:X.s₀.heap.FunFrames X.base X.outer
 td:∀b∈X.fs,X.H₀ b=none
structure Inv(X:Cx)(pins:List<|Addr×Obj)(σ:List<|Option V)(H:Hp)(s:Shared):Prop where
 ok:X.Ok
 os:s.os=X.s₀.os
 bare:AllBare s.gens
 base:Un X.fs X.ex X.H₀ H X.s₀.heap s.heap
 loc:∃m,s.heap.Ns X.env.locals m/\∀(i:Nat) (x:Str) (v:V),X.N[i]?=some x->σ[i]?=some (some v)->oa X.env.scope x->∃u,RelV v u/\Look X.env s.heap m x u
 cell:∀x c,X.env.cells.lookup x=some c->∃v,s.heap.IsCell c v
 free:H X.env.locals=none
 mw:∀x c,X.env.cells.lookup x=some c->H c=none
 pin:∀p∈X.pn++pins,s.heap.get? p.1=some p.2/\H p.1=none/\p.1≠X.env.locals/\p.1∉X.fs/\∀v,p.2.data≠.cell v
 hok:iL X.prog X.w H s.heap
 len:σ.length=X.N.length
section
variable{X:Cx}{f:List<|Addr×Obj}{B:List<|Option V}{H C:Hp}{s:Shared}{h':Heap}
def Cx.Ok.Jn(ok:X.Ok)(e:X.base.get? b=some o):b∉X.fs:=λa=>by have:=(ok.lP.mem a).1;rw[e]at this;cases this
def Inv.bs(I:Inv X f B H s):∀b o,X.base.get? b=some o->s.heap.get? b=some o/\H b=none:=λb o e=>⟨I.base.keep b o (I.ok.bs b o e).1 (I.ok.bs b o e).2 (I.ok.Jn e) (I.ok.tV b o e),I.base.free b o (I.ok.bs b o e).1 (I.ok.bs b o e).2 (I.ok.tV b o e)⟩
def Inv.bk(I:Inv X f B H s):∀b o,X.base.get? b=some o->s.heap.get? b=some o:=λb o e=>(I.bs b o e).1
def Inv.mod(I:Inv X f B H s):Mod X.K X.mg X.base:=I.ok.mod
def Inv.j6(I:Inv X f B H s):X.K.In s.heap:=I.ok.mod.wq.keeps I.bk
def Inv.lt(I:Inv X f B H s):X.env.locals<s.heap.objs.size:=let⟨_,a,_⟩:=I.loc;a.lt
def Inv.sz(I:Inv X f B H s):X.s₀.heap.objs.size<=s.heap.objs.size:=aI I.ok.above (bJ I.lt)
def Inv.Jp(I:Inv X f B H s){a:Addr}(h:s.heap.objs.size<=a):a∉X.fs:=λc=>by obtain⟨_,o,b,_⟩:=I.ok.lP.mem c;exact absurd (ay (Heap.lt_size b)<|aI I.sz h) (bj _)
def Inv.ov(I:Inv X f B H s):∀x c,X.env.cells.lookup x=some c->c≠X.env.locals:=λx c e z=>by obtain⟨v,o,d,g⟩:=I.cell x c e;obtain⟨m,⟨h,i,j,a,b,_⟩,_⟩:=I.loc;rw[z,a]at d;cases d;rw[b]at g;cases g
def Inv.lP(I:Inv X f B H s):s.heap.FunFrames X.base X.outer:=by
 have all:∀(l:List Env),(∀b∈frs l,b∈X.fs)->X.s₀.heap.FunFrames X.base l->s.heap.FunFrames X.base l:=by
  intro l;induction l with
  |nil=>intro _ _;trivial
  |cons p r g=>intro d k;obtain⟨m,⟨L,o,hf,j,i,n⟩,h⟩:=k;have c:L∈X.fs:=d L (by unfold frs;rw[eB,hf];exact bP);obtain⟨q,e⟩:=I.base.slot L o i (I.ok.td L c) c λz=>I.ok.sU L z c;exact⟨m,⟨L,_,hf,j,e,n⟩,g (λb a=>d b (by unfold frs;rw[eB,hf];exact bu _ a)) h⟩
 exact all X.outer (λ_ a=>a) I.ok.lP
def Inv.stack(I:Inv X f B H s):s.heap.FunFrames X.base X.stack:=by
 rcases I.ok.CH with e|⟨e,hf⟩;·rw[e];exact I.lP
 ·rw[e];obtain⟨m,a,_⟩:=I.loc;refine .cons (by rw[I.ok.kind];decide) hf a ?_ I.lP;exact Heap.get?_none_of_le (aI I.ok.ny I.ok.above)
def Inv.rJ(I:Inv X f B H s):∀b∈frs X.stack,b∈X.env.locals::X.fs:=λb a=>by
 rcases I.ok.CH with e|⟨e,hf⟩;·rw[e]at a;exact bu _ a
 ·rw[e]at a;unfold frs at a;rw[eB,hf]at a;exact a
def Inv.uG(I:Inv X f B H s):∀b∈frs X.stack,H b=none:=λb a=>by
 rcases aF.mp (I.rJ b a)with e|a;·rw[e];exact I.free
 ·obtain⟨_,o,c,_⟩:=I.ok.lP.mem a;exact I.base.free b o c (I.ok.td b a) λz=>I.ok.sU b z a
def Inv.step{g':Array GenState}{Y:Nat}{d':Drawn}{ch:List Addr}(I:Inv X f B H s)
    (h:∀b∈ch,(b∈X.ex\/X.s₀.heap.objs.size<=b)/\b≠X.env.locals/\(∀x c,X.env.cells.lookup x=some c->c≠b)/\∀p∈X.pn++f,p.1≠b)
    (keep:∀b o,b≠X.env.locals->b∉X.fs->b∉ch->s.heap.get? b=some o->H b=none->h'.get? b=some o)
    (A:∀b o,b≠X.env.locals->b∈X.fs->b∉ch->s.heap.get? b=some o->H b=none->∃Q,h'.get? b=some {o with slots:=Q})(free:∀b o,b∉ch->s.heap.get? b=some o->H b=none->C b=none)
    (there:∀b o,b∉ch->s.heap.get? b=some o->∃J,h'.get? b=some J)
    (F:∀b y,H b=some (.tup y)->C b=some (.tup y))(M:∀b o u,H b=some (.jD o u)->C b=some (.jD o u))(G:∀b O,H b=some (.iO O)->∃L,C b=some (.iO<|O++L))
    (Z:∀m,s.heap.Ns X.env.locals m->h'.Ns X.env.locals m)(R:iL X.prog X.w C h')(hg:AllBare g'):
    Inv X f B C {s with heap:=h',gens:=g',drawn:=d',toks:=Y}:=by
 have K:∀b o,X.s₀.heap.get? b=some o->b≠X.env.locals:=λb o e=>aO (ay (Heap.lt_size e) I.ok.above);have t:∀b o,X.s₀.heap.get? b=some o->b∉X.ex->b∉ch:=λb o e a D=>by
  rcases(h b D).1 with z|z;·exact a z
  ·exact absurd (ay (Heap.lt_size e) z) (bj _)
 have j:∀x c,X.env.cells.lookup x=some c->∀v,s.heap.IsCell c v->h'.IsCell c v:=λx c e v ⟨o,E,S⟩=>by
  have g:c∉ch:=λz=>(h c z).2.2.1 x c e rfl;by_cases W:c∈X.fs
  ·obtain⟨Q,q⟩:=A c o (I.ov x c e) W g E (I.mw x c e);exact⟨_,q,S⟩
  ·exact⟨o,keep c o (I.ov x c e) W g E<|I.mw x c e,S⟩
 refine⟨I.ok,I.os,hg,⟨λb o e n D a=>?_,λb o e n D a=>?_,λb o e n a=>?_,λb o e a=>?_,λb y e=>F b y<|I.base.tups b y e,λb o y e=>M b o y<|I.base.lO b o y e,λb O e=>?_⟩,?_,λx c e=>?_,?_,λx c e=>?_,λp U=>?_,R,I.len⟩;·exact keep b o (K b o e) D (t b o e a) (I.base.keep b o e n D a) (I.base.free b o e n a)
 ·obtain⟨Q,w⟩:=I.base.slot b o e n D a;obtain⟨P,N⟩:=A b _ (K b o e) D (t b o e a) w (I.base.free b o e n a);exact⟨P,N⟩
 ·obtain⟨J,w⟩:=I.base.there b o e a;exact free b J (t b o e a) w (I.base.free b o e n a)
 ·obtain⟨J,w⟩:=I.base.there b o e a;exact there b J (t b o e a) w
 ·obtain⟨m1,w⟩:=I.base.m8 b O e;obtain⟨m2,N⟩:=G b _ w;exact⟨m1++m2,by rw[N,Array.append_assoc]⟩
 ·obtain⟨m,hn,hl⟩:=I.loc;refine⟨m,Z m hn,λi x v w N e3=>?_⟩;obtain⟨u,r,l⟩:=hl i x v w N e3;refine⟨u,r,?_⟩;rcases l with l|⟨k,c,e,z⟩;·exact .inl l
  ·exact .inr ⟨k,c,e,j x c e _ z⟩
 ·obtain⟨v,z⟩:=I.cell x c e;exact⟨v,j x c e v z⟩
 ·obtain⟨m,⟨o,_,_,E,_⟩,_⟩:=I.loc;exact free _ o (λz=>(h _ z).2.1 rfl) E I.free
 ·obtain⟨v,o,E,S⟩:=I.cell x c e;exact free c o (λz=>(h c z).2.2.1 x c e rfl) E (I.mw x c e)
 ·obtain⟨e,n,ne,T,d⟩:=I.pin p U;have g:p.1∉ch:=λz=>(h p.1 z).2.2.2 p U rfl;exact⟨keep p.1 p.2 ne T g e n,free p.1 p.2 g e n,ne,T,d⟩
def Inv.un{t':Nat}(I:Inv X f B H s)(u:Un X.fs [] H C s.heap h')(c:iL X.prog X.w C h'):Inv X f B C {s with heap:=h',toks:=t'}:=by obtain⟨m,⟨o,v,w,i,r⟩,_⟩:=id I.loc;obtain⟨p,l⟩:=u.any i I.free (by simp);exact I.step (g':=s.gens) (d':=s.drawn) (ch:=[]) (λ_ z=>nomatch z) (λb o _ d _ e n=>u.keep b o e n d (by simp)) (λb o _ d _ e n=>u.slot b o e n d (by simp)) (λb o _ e n=>u.free b o e n (by simp)) (λb o _ e=>u.there b o e (by simp)) u.tups u.lO u.m8 (λt k=>by obtain⟨q,g,h,a,j⟩:=k;rw[i]at a;cases a;exact⟨_,g,h,l,j⟩) c I.bare
def Inv.call{g':Array GenState}{t':Nat}{d':Drawn}{ch:List Addr}(I:Inv X f B H s)(u:Un (frs X.stack) ch H C s.heap h')(h:iL X.prog X.w C h')(v:AllBare g')
    (g:∀b∈ch,(b∈X.ex\/X.s₀.heap.objs.size<=b)/\b≠X.env.locals/\(∀x c,X.env.cells.lookup x=some c->c≠b)/\∀p∈X.pn++f,p.1≠b):
    Inv X f B C {s with heap:=h',gens:=g',drawn:=d',toks:=t'}:=by
 obtain⟨m,⟨o,E,F,l,r⟩,_⟩:=id I.loc;obtain⟨y,i⟩:=u.any l I.free λz=>(g _ z).2.1 rfl;exact I.step (ch:=ch) g (λb o i w a e n=>u.keep b o e n (λz=>(aF.mp (I.rJ b z)).elim i w) a) (λb o _ _ a e n=>u.any e n a) (λb o a e n=>u.free b o e n a) (λb o a e=>u.there b o e a) u.tups u.lO u.m8 (λD t=>by obtain⟨A,j,k,d,q⟩:=t;rw[l]at d;cases d;exact⟨_,j,k,i,q⟩) h v
def Inv.turned{t':Nat}{a:Addr}(I:Inv X f B H s)(k:∀b o,b≠a->s.heap.get? b=some o->h'.get? b=some o)(j:H a=none)(h:a≠X.env.locals)
    (A:a∈X.ex\/X.s₀.heap.objs.size<=a)(y:∀x c,X.env.cells.lookup x=some c->c≠a)(w:∀p∈X.pn++f,p.1≠a):Inv X f B H {s with heap:=h',toks:=t'}:=by
 have g:∀b u,H b=some u->b≠a:=λb u e z=>by rw[z,j]at e;cases e
 refine I.step (g':=s.gens) (d':=s.drawn) (ch:=[a]) (λb t=>?_) (λb o _ _ d e _=>k b o (λz=>d<|by simp[z]) e) (λb o _ _ d e _=>⟨o.slots,k b o (λz=>d<|by simp[z]) e⟩) (λ_ _ _ _ n=>n)
  (λb o d e=>⟨o,k b o (λz=>d<|by simp[z]) e⟩) (λ_ _ e=>e) (λ_ _ _ e=>e) (λb F e=>⟨#[],by rw[e];simp⟩) (λm l=>?_) (λb u e=>?_) I.bare
 ·have e:b=a:=by simpa using t
  subst e;exact⟨A,h,y,w⟩
 ·obtain⟨o,D,E,i,r⟩:=l;exact⟨o,D,E,k _ o (cA h) i,r⟩
 ·refine(I.hok b u e).oT (λc v d q=>k c v ?_ q) (λ_ q=>q) λ_ _ q=>q;rcases d with z|z;·rw[z];exact g b u e
  ·exact g c _ z
def Inv.tok(I:Inv X f B H s)(t:Nat):Inv X f B H {s with toks:=t}:=I.un (h':=s.heap) (t':=t) Un.refl I.hok
def Inv.kept{t':Nat}(I:Inv X f B H s)(k:∀b u,s.heap.get? b=some u->h'.get? b=some u):Inv X f B H {s with heap:=h',toks:=t'}:=I.un (Un.kept k) (I.hok.kept k)
def Inv.laid{a:Addr}{o:HO}{t':Nat}(I:Inv X f B H s)(k:∀b u,s.heap.get? b=some u->h'.get? b=some u)(c:s.heap.objs.size<=a)(new:iY X.prog X.w (upd H a o) h' a o):
    Inv X f B (upd H a o) {s with heap:=h',toks:=t'}:=I.un (Un.laid k c<|I.hok.fresh c) (I.hok.laid k c new)
def Inv.write{x e:Addr}{o:HO}{t':Nat}(I:Inv X f B H s)(c:qB<|H x)(d:e=x\/H e=some (.own x))(k:∀b u,b≠e->s.heap.get? b=some u->h'.get? b=some u)(a:∃u,h'.get? e=some u)
    (new:iY X.prog X.w (upd H x o) h' x o):Inv X f B (upd H x o) {s with heap:=h',toks:=t'}:=I.un (Un.write c d k a) (I.hok.write c d k a new)
def Inv.weak{a:List<|Option V}(I:Inv X f B H s)(d:a.length=B.length)(w:∀(i:Nat) v,a[i]?=some (some v)->B[i]?=some (some v)):Inv X f a H s:=
 ⟨I.ok,I.os,I.bare,I.base,let⟨m,c,b⟩:=I.loc;⟨m,c,λi x v h g e=>b i x v h (w i v g) e⟩,I.cell,I.free,I.mw,I.pin,I.hok,d.trans I.len⟩
def Inv.BN{a:List<|Addr×Obj}(I:Inv X f B H s)(h:∀p∈a,s.heap.get? p.1=some p.2/\H p.1=none/\p.1≠X.env.locals/\p.1∉X.fs/\∀v,p.2.data≠.cell v):Inv X a B H s:=
 ⟨I.ok,I.os,I.bare,I.base,I.loc,I.cell,I.free,I.mw,λp b=>(bx.mp b).elim (λz=>I.pin p<|bR _ z) (h p),I.hok,I.len⟩
def Bl{N:List Str}(hN:N.Nodup){i j:Nat}{x:Str}(a:N[i]?=some x)(b:N[j]?=some x):i=j:=by obtain⟨g,d⟩:=ar.mp a;obtain⟨e,c⟩:=ar.mp b;exact(List.getElem_inj hN).mp (d.trans c.symm)
def x8{M:Model}{A:Around}{E:ia}{i:Nat}{x:Str}{v:V}{u:Value}{Q:Unit->Shared->Prop}(I:Inv X f B H s)(hN:X.N.Nodup)(hi:X.N[i]?=some x)(D:Loc X.env.scope x)(r:RelV v u)
    (h:∀s',Inv X f (B.set i<|some v) H s'->(∃a,Heap.SameBut a s.heap s'.heap/\(a=X.env.locals\/X.env.cells.lookup x=some a))->Q () s')(hf:X.hf x):wpAny M A (storeName X.env x u) Q E s:=by
 obtain⟨m,hn,hl⟩:=id I.loc;have R:(X.env.scope.kind==.class||(X.env.scope.kind==.module&&X.env.locals !=X.env.globals))=false:=by rw[I.ok.kind];rfl
 have J:i<B.length:=by rw[I.len];exact(ar.mp hi).1
 have ov:=I.ov;have l:∀{a:Addr} {h':Heap},(∃o,s.heap.get? a=some o/\H a=none)->Heap.SameBut a s.heap h'->iL X.prog X.w H h':=λ{a h'} ha g b ob e=>by
  obtain⟨_,_,F⟩:=ha;refine(I.hok b ob e).oT (λc U w q=>(g.2 c ?_).trans q) (λ_ q=>q) λ_ _ q=>q
  rintro rfl
  rcases w with rfl|w;·rw[F]at e;cases e
  ·rw[F]at w;cases w
 rcases D with hk|hk
 ·refine wpAny_storeName_local hk hn (λh' AD g=>?_) R;obtain⟨oL,_,_,Hd,_⟩:=id hn;refine h _ ⟨I.ok,I.os,I.bare,⟨λb o e n N D=>?_,λb o e n N D=>?_,I.base.free,λb o e D=>?_,I.base.tups,I.base.lO,I.base.m8⟩,⟨_,AD,λj y Y t G e3=>?_⟩,λy c e=>?_,I.free,I.mw,λp hp=>?_,l ⟨oL,Hd,I.free⟩ g,by simpa using I.len⟩ ⟨_,g,.inl rfl⟩;·exact(g.2 b<|aO<|ay (Heap.lt_size e) I.ok.above).trans (I.base.keep b o e n N D)
  ·obtain⟨sl,t⟩:=I.base.slot b o e n N D;exact⟨sl,(g.2 b<|aO<|ay (Heap.lt_size e) I.ok.above).trans t⟩
  ·obtain⟨o',t⟩:=I.base.there b o e D;exact⟨o',(g.2 b<|aO<|ay (Heap.lt_size e) I.ok.above).trans t⟩
  ·by_cases K:j=i
   ·subst K;rw[hi]at t;cases t;rw[aR J]at G;cases G;exact⟨u,r,.inl ⟨hk,by simp⟩⟩
   ·rw[ax<|cA K]at G;obtain⟨Z,r',q⟩:=hl j y Y t G e3;refine⟨Z,r',?_⟩;rcases q with⟨k,e⟩|⟨k,c,e,z⟩
    ·refine .inl ⟨k,?_⟩;have:y≠x:=λe=>K (Bl hN t<|e▸hi);simp[this,e]
    ·exact .inr ⟨k,c,e,z.sameBut g<|ov y c e⟩
  ·obtain⟨U,z⟩:=I.cell y c e;exact⟨U,z.sameBut g<|ov y c e⟩
  ·obtain⟨e,n,ne,nf,d⟩:=I.pin p hp;exact⟨(g.2 p.1 ne).trans e,n,ne,nf,d⟩
 ·have L:X.fn x=true:=by
   rcases hf with z|z;·exact z
   ·rw[z]at hk;cases hk
  obtain⟨c,w⟩:=I.ok.has x (.inl hk);obtain⟨U,z⟩:=I.cell x c w;refine wpAny_storeName_cell I.ok.kind hk w z (λh' T g=>?_);obtain⟨oc,P,O⟩:=id z;refine h {s with heap:=h'} ⟨I.ok,I.os,I.bare,⟨λb o e n N D=>?_,λb o e n N D=>?_,I.base.free,λb o e D=>?_,I.base.tups,I.base.lO,I.base.m8⟩,⟨m,hn.sameBut g<|cA<|ov x c w,λj y Y t G e3=>?_⟩,λy W e=>?_,I.free,I.mw,λp hp=>?_,l ⟨oc,P,I.mw x c w⟩ g,by simpa using I.len⟩ ⟨c,g,.inr w⟩;·exact(g.2 b<|aO<|ay (Heap.lt_size e)<|I.ok.cab x c L w).trans (I.base.keep b o e n N D)
  ·obtain⟨sl,t⟩:=I.base.slot b o e n N D;exact⟨sl,(g.2 b<|aO<|ay (Heap.lt_size e)<|I.ok.cab x c L w).trans t⟩
  ·obtain⟨o',t⟩:=I.base.there b o e D;exact⟨o',(g.2 b<|aO<|ay (Heap.lt_size e)<|I.ok.cab x c L w).trans t⟩
  ·by_cases K:j=i
   ·subst K;rw[hi]at t;cases t;rw[aR J]at G;cases G;exact⟨u,r,.inr ⟨.inl hk,c,w,T⟩⟩
   ·rw[ax<|cA K]at G;obtain⟨Z,r',q⟩:=hl j y Y t G e3;refine⟨Z,r',?_⟩;rcases q with q|⟨k,W,e,z'⟩;·exact .inl q
    ·refine .inr ⟨k,W,e,z'.sameBut g ?_⟩
     rintro rfl
     exact K (Bl hN t<|I.ok.inj _ _ _ e w▸hi)
  ·by_cases S:W=c;·subst S;exact⟨_,T⟩
   ·obtain⟨w2,z2⟩:=I.cell y W e;exact⟨w2,z2.sameBut g S⟩
  ·obtain⟨e,n,ne,nf,d⟩:=I.pin p hp;refine⟨(g.2 p.1 ?_).trans e,n,ne,nf,d⟩;intro q;rw[q,P]at e;have q':oc=p.2:=Option.some.inj e;exact d U (by rw[<-q'];exact O)
def uH{M:Model}{A:Around}{E:ia}{i:Nat}{x:Str}{v:V}{u:Value}{Q:Unit->Shared->Prop}(I:Inv X f B H s)(hN:X.N.Nodup)(hi:X.N[i]?=some x)(b:Loc X.env.scope x)(r:RelV v u)
    (h:∀a,Inv X f (B.set i<|some v) H a->Q () a)(hf:X.hf x):wpAny M A (storeName X.env x u) Q E s:=
 x8 I hN hi b r (λa c _=>h a c) hf
def Inv.vB{s':Shared}{ch:List Addr}(I:Inv X f B H s)(h:s'.os=s.os)(u:Un (frs X.stack) ch H C s.heap s'.heap)(a:iL X.prog X.w C s'.heap)(i:AllBare s'.gens)
    (d:∀b∈ch,(b∈X.ex\/X.s₀.heap.objs.size<=b)/\b≠X.env.locals/\(∀x c,X.env.cells.lookup x=some c->c≠b)/\∀p∈X.pn++f,p.1≠b):Inv X f B C s':=by
 obtain⟨h',g',d',t',g⟩:=s';have e:g=s.os:=h;subst e;exact I.call (g':=g') (t':=t') (d':=d') u a i d
end
abbrev XK:=Value->Option Addr->Hp->Prop
abbrev St:=List (Option V)
abbrev VK:=V->Hp->Prop
abbrev TE:=St->Hp->VK->Prop
abbrev TT:=St->Hp->(Bool->Hp->Prop)->Prop
abbrev TA:=St->Hp->(List V->Hp->Prop)->Prop
structure Ends where
 nx:St->Hp->Prop
 rt:VK
 bk:St->Hp->Prop:=λ_ _=>False
 ct:St->Hp->Prop:=λ_ _=>False
abbrev TS:=Ends->St->Hp->Prop
def EP(X:Cx)(a:List<|Addr×Obj)(c:St)(Q:VK)(u:Value)(d:Shared):Prop:=∃v b,Inv X a c b d/\RelV v u/\Q v b
def TP(X:Cx)(a:List<|Addr×Obj)(d:St)(Q:Bool->Hp->Prop)(b:Bool)(e:Shared):Prop:=∃c,Inv X a d c e/\Q b c
def AP(X:Cx)(a:List<|Addr×Obj)(d:St)(Q:List V->Hp->Prop)(e:List Value)(f:Shared):Prop:=∃b c,Inv X a d c f/\Vals b e/\Q b c
def SP(X:Cx)(b:List<|Addr×Obj)(D:Ends)(f:Flow)(d:Shared):Prop:=
 match f with
 |.next=>∃a c,Inv X b a c d/\D.nx a c
 |.brk=>∃a c,Inv X b a c d/\D.bk a c
 |.cont=>∃a c,Inv X b a c d/\D.ct a c
 |.ret u=>∃v a c,Inv X b a c d/\RelV v u/\D.rt v c
def PE(X:Cx)(e:Expr)(t:TE):Prop:=
 ∀(a:List<|Addr×Obj) (s:Shared) (σ:St) (H:Hp) (Q:VK),Inv X a σ H s->t σ H Q->wpAny (model X.prog X.w) X.A (eval e X.env) (EP X a σ Q) X.xe s
def PT(X:Cx)(e:Expr)(t:TT):Prop:=
 ∀(a:List<|Addr×Obj) (s:Shared) (σ:St) (H:Hp) (Q:Bool->Hp->Prop),Inv X a σ H s->t σ H Q->wpAny (model X.prog X.w) X.A (isTrue e X.env<|eval e X.env) (TP X a σ Q) X.xe s
def PW(X:Cx)(e:Expr)(t:TT):Prop:=
 ∀(a:Sem Value) (pins:List<|Addr×Obj) (s:Shared) (σ:St) (H:Hp) (Q:Bool->Hp->Prop),Inv X pins σ H s->t σ H Q->wpAny (model X.prog X.w) X.A (isTrue e X.env a) (TP X pins σ Q) X.xe s
def PW.pt{t}(h:PW X e t):PT X e t:=h _
def PA(X:Cx)(a:List Expr)(t:TA):Prop:=
 ∀(pos:Pos) (pins:List<|Addr×Obj) (s:Shared) (σ:St) (H:Hp) (Q:List V->Hp->Prop),Inv X pins σ H s->t σ H Q->wpAny (model X.prog X.w) X.A (spliced<|backTo pos<|starEach a X.env) (AP X pins σ Q) X.xe s
def PS(X:Cx)(b:Stmt)(t:TS):Prop:=
 ∀(a:List<|Addr×Obj) (s:Shared) (σ:St) (H:Hp) (D:Ends),Inv X a σ H s->t D σ H->wpAny (model X.prog X.w) X.A (exec b X.env) (SP X a D) X.xe s
def lu(X:Cx)(b:List Stmt)(t:TS):Prop:=
 ∀(a:List<|Addr×Obj) (s:Shared) (σ:St) (H:Hp) (D:Ends),Inv X a σ H s->t D σ H->wpAny (model X.prog X.w) X.A (execs b X.env) (SP X a D) X.xe s
def g8{b:Type}{t:Sem b}{Q c:b->Shared->Prop}{M:Model}{A:Around}{E:ia}{s:Shared}(h:wpAny M A t Q E s)(d:∀a s,Q a s->c a s):wpAny M A t c E s:=aS h d λ_ _ x=>x
section
variable{X:Cx}
def CM(i:Nat):TE:=λa H Q=>∃v,a[i]?=some (some v)/\Q v H
def tC(v:V):TE:=λ_ H Q=>Q v H
def ui{i:Nat}{x:Str}{pos:Pos}(hN:X.N[i]?=some x)(o:oa X.env.scope x)(g:jc x:=by decide)(j:(x==("__classdict__":Str))=false:=by decide):PE X (.Name x pos) (CM i):=by
 intro f s n H Q I h;obtain⟨v,e,h⟩:=h;obtain⟨m,p,t⟩:=I.loc;obtain⟨u,r,l⟩:=t i x v hN e o;have d:EP X f n Q u s:=⟨v,H,I,r,h⟩;rcases l with⟨b,q⟩|⟨b,c,k,a⟩;·exact wpAny_Name (wpAny_loadName_local I.ok.kind b p q d) g
 ·rcases b with b|b;·exact wpAny_Name (wpAny_loadName_cell I.ok.kind b k a d) g
  ·exact wpAny_Name (wpAny_loadName_free I.ok.kind b k a d j) g
def KN{i j pos}:PE X (.Constant (.int i) j pos) (tC<|.int i):=λ_ _ _ H _ I h=>wpAny_Constant_int ⟨.int i,H,I.tok _,⟨_,rfl⟩,h⟩
def Kw{b j pos}:PE X (.Constant (.bool b) j pos) (tC<|.bl b):=λ_ _ _ H _ I h=>Constant_bool ⟨.bl b,H,I,rfl,h⟩
def KQ{j pos}:PE X (.Constant .none j pos) (tC .non):=λ_ _ _ H _ I h=>Constant_none ⟨.non,H,I,rfl,h⟩
def K0{x j pos}:PE X (.Constant (.str x) j pos) (tC<|.str x):=λ_ _ _ H _ I h=>Calls.Constant_str ⟨.str x,H,I.tok _,⟨_,rfl⟩,h⟩
def Gl(X:Cx)(x:Str):Prop:=X.env.kindOf x=some .globalImplicit
def wy{E:ia}{a:List<|Addr×Obj}{s:Shared}{b:St}{H:Hp}{x:Str}{u:Value}{pos:Pos}{Q:ia}(I:Inv X a b H s)(d:Gl X x)(c:X.mg x=some u)(h:Q u s)
    (e:jc x):wpAny (model X.prog X.w) X.A (eval (.Name x pos) X.env) Q E s:=
 eG I.ok.kind d (Calls.loadGlobal_global (by rw[I.ok.glob];exact I.mod.glob.keeps I.bk) c h) e
def oI{E:ia}{a:List<|Addr×Obj}{s:Shared}{b:St}{H:Hp}{x:Str}{u:Value}{pos:Pos}{Q:ia}(I:Inv X a b H s)(f:Gl X x)(e:X.mg x=none)(c:bootBuiltins x=some u)(h:Q u s)
    (d:x≠"__name__")(g:jc x):wpAny (model X.prog X.w) X.A (eval (.Name x pos) X.env) Q E s:=by
 obtain⟨k,j,i⟩:=I.mod.blt;exact eG I.ok.kind f (Calls.loadGlobal_builtin (by rw[I.ok.glob];exact I.mod.glob.keeps I.bk) e (by rw[I.ok.blt];exact j.keeps I.bk) ((i x d).trans c) h) g
def KJ{v u pos}(b:Gl X x)(a:X.mg x=some u)(r:RelV v u)(c:jc x):PE X (.Name x pos) (tC v):=
 λ_ _ _ H _ I h=>wy I b a ⟨v,H,I,r,h⟩ c
def Kx{v u pos}(d:Gl X x)(c:X.mg x=none)(a:bootBuiltins x=some u)(r:RelV v u)(b:x≠"__name__")(e:jc x):PE X (.Name x pos) (tC v):=
 λ_ _ _ H _ I h=>oI I d c a ⟨v,H,I,r,h⟩ b e
variable{a b:Expr}{F L:TE}{pos:Pos}
def tB(t:TE):TT:=λd H Q=>t d H λx e=>∃c,x=.bl c/\Q c e
variable{B C:TT}{rest:List Expr}
def Pe(t u:TT):TT:=λd H Q=>t d H λc e=>if c=true then u d e Q else Q false e
def Pt(t u:TT):TT:=λd H Q=>t d H λc e=>if c=true then Q true e else u d e Q
def Pq(t:TT):TT:=λd H Q=>t d H λc e=>Q (!c) e
def Lu(g:PT X a B):PW X (.BoolOp .And [a] pos) B:=by
 intro i d s f H Q I h;refine isTrue_and (g8 (g d s f H Q I h) λc j e=>?_);cases c with
 |true=>exact isTrue_and_nil e
 |false=>exact e
def B3(g:PT X a B):PW X (.BoolOp .Or [a] pos) B:=by
 intro i d s f H Q I h;refine isTrue_or (g8 (g d s f H Q I h) λc j e=>?_);cases c with
 |false=>exact isTrue_or_nil e
 |true=>exact e
def Ls(m:PT X a B)(l:PW X (.BoolOp .And (b::rest) pos) C):PW X (.BoolOp .And (a::b::rest) pos) (Pe B C):=by
 intro j d s e H Q I h;refine isTrue_and (g8 (m d s e H _ I h) λc k ⟨i,g,f⟩=>?_);cases c with
 |true=>exact l j d k e i Q g f
 |false=>exact⟨i,g,f⟩
def B2(m:PT X a B)(l:PW X (.BoolOp .Or (b::rest) pos) C):PW X (.BoolOp .Or (a::b::rest) pos) (Pt B C):=by
 intro j d s e H Q I h;refine isTrue_or (g8 (m d s e H _ I h) λc k ⟨i,g,f⟩=>?_);cases c with
 |true=>exact⟨i,g,f⟩
 |false=>exact l j d k e i Q g f
def Ll(f:PT X a B):PT X (.UnaryOp .Not a pos) (Pq B):=by intro d s e H Q I h;exact isTrue_not (f d s e H (λc g=>Q (!c) g) I h)
def Pf(F L:TE):TE:=λd H Q=>F d H λx e=>∃c,x=.bl c/\if c=true then L d e Q else Q (.bl false) e
def Pr(F:TE):TE:=λd H Q=>F d H λx e=>∃c,x=.bl c/\Q (.bl<|!c) e
def KS{e t}(h:PE X a t):PE X (.BoolOp e [a] pos) t:=λc s d H Q I f=>BoolOp_one (h c s d H Q I f)
def Kv(n:PE X a F)(m:PE X (.BoolOp .And (b::rest) pos) L):PE X (.BoolOp .And (a::b::rest) pos) (Pf F L):=by
 intro d s g H Q I h;refine BoolOp_and (g8 (n d s g H _ I h) λv k f=>?_);obtain⟨x,j,i,l,e⟩:=f;obtain⟨c,rfl,e⟩:=e;cases l;refine dJ ?_;cases c with
 |true=>exact m d k g j Q i e
 |false=>exact⟨.bl false,j,i,rfl,e⟩
def KR(j:PE X a F):PE X (.UnaryOp .Not a pos) (Pr F):=by intro d s g H Q I h;refine UnaryOp_ (g8 (j d s g H _ I h) λv m f=>?_);obtain⟨x,l,k,i,e⟩:=f;obtain⟨c,rfl,e⟩:=e;cases i;exact not_of (dJ ⟨.bl<|!c,l,k,rfl,e⟩)
def jx(K:W.Frag)(H:Hp)(a:Addr)(d:List V):Prop:=
 Rd H a (.lst d)\/
  ∃(o:Obj) (c:Array Value) (n:Nat),K.lookup a=some o/\o.cls=.type "list"/\o.dict=none/\o.data=.seq c n/\c.size<=sizeLine/\Vals d c.toList
def jA(K:W.Frag)(H:Hp)(a:Addr)(d:List V):Prop:=
 Rd H a (.tup d)\/
  ∃(o:Obj) (c:Array Value) (n:Nat),K.lookup a=some o/\o.cls=.type "tuple"/\o.data=.seq c n/\c.size<=sizeLine/\Vals d c.toList
def Ec:Value->Option V
 |.none=>some .non
 |.bool b=>some (.bl b)
 |.int i _=>some (.int i)
 |.str x _=>some (.str x)
 |.bytes b _=>some (.kY b)
 |.float b _=>some (.flt b)
 |.ref a=>some (.ref a)
 |.type n=>some (.ty n)
 |_=>none
def RelV.abs{u}(r:RelV x u):Ec u=some x:=by
 cases x with
 |non=>cases r;rfl
 |bl _=>cases r;rfl
 |int _=>obtain⟨t,rfl⟩:=r;rfl
 |str _=>obtain⟨t,rfl⟩:=r;rfl
 |kY _=>obtain⟨t,rfl⟩:=r;rfl
 |flt _=>obtain⟨t,rfl⟩:=r;rfl
 |ref _=>cases r;rfl
 |ty _=>cases r;rfl
def RelV.inj{x y:V}{u:Value}(r:RelV x u)(q:RelV y u):x=y:=Option.some.inj (r.abs.symm.trans q.abs)
theorem Vals.inj:∀{d c:List V} {e:List Value},Vals d e->Vals c e->d=c
 |_,_,_,.nil,.nil=>rfl
 |_,_,_,.cons r t,.cons g f=>by rw[r.inj g,Vals.inj t f]
variable{f:List<|Addr×Obj}{k:St}{H:Hp}{s:Shared}{a:Addr}{A J:List V}
def Inv.list(I:Inv X f k H s)(h:jx X.K H a A):∃c:List Value,Vals A c/\PlainL s.heap a c.toArray/\A.length<=sizeLine:=by
 rcases h with h|⟨o,c,n,hk,hc,hd,hs,hz,r⟩
 ·obtain⟨z,c,n,r,e⟩:=h.ok I.hok;exact⟨c,r,⟨_,n,e,rfl,rfl,rfl⟩,z⟩
 ·refine⟨c.toList,r,⟨o,n,I.j6 a o hk,hc,hd,by simpa using hs⟩,?_⟩;have e:=r.length;simp only[av]at e;omega
def Inv.tuple(I:Inv X f k H s)(h:jA X.K H a A):∃c:List Value,Vals A c/\IsTup s.heap a c.toArray/\A.length<=sizeLine:=by
 rcases h with h|⟨o,c,n,hk,hc,hs,hz,r⟩
 ·obtain⟨z,c,r,p⟩:=h.ok I.hok;exact⟨c,r,p,z⟩
 ·refine⟨c.toList,r,⟨o,I.j6 a o hk,hc,n,by simpa using hs⟩,?_⟩;have e:=r.length;simp only[av]at e;omega
def Inv.IB(I:Inv X f k H s)(h:jx X.K H a A)(m:jx X.K H a J):A=J:=by
 obtain⟨g,r,⟨o,n,e,_,_,d⟩,_⟩:=I.list h;obtain⟨c,l,⟨p,q,i,_,_,j⟩,_⟩:=I.list m;rw[e]at i;cases i;rw[d]at j;injection j with d1 _;have:g=c:=by simpa using cn Array.toList d1
 subst this;exact r.inj l
def Inv.P9(I:Inv X f k H s)(h:jA X.K H a A)(m:jA X.K H a J):A=J:=by
 obtain⟨g,r,⟨o,e,_,n,d⟩,_⟩:=I.tuple h;obtain⟨c,l,⟨p,i,_,q,j⟩,_⟩:=I.tuple m;rw[e]at i;cases i;rw[d]at j;injection j with d1 _;have:g=c:=by simpa using cn Array.toList d1
 subst this;exact r.inj l
end
section
variable{X:Cx}{j:Stmt}{rest:List Stmt}{t u:TS}{e:Expr}{i:TE}{pos:Pos}
def Po:TS:=λD a H=>D.nx a H
def Pz(t u:TS):TS:=λD a H=>t {D with nx:=u D} a H
def BY:lu X [] Po:=λ_ _ a H _ I h=>en ⟨a,H,I,h⟩
def BX(k:PS X j t)(g:lu X rest u):lu X (j::rest) (Pz t u):=by
 intro a s c H D I h;refine wpAny_execs_cons (g8 (k a s c H {D with nx:=u D} I h) λf d q=>?_);cases f with
 |next=>obtain⟨b,m,l,q⟩:=q;exact g a d b m D l q
 |ret v=>exact q
 |brk=>exact q
 |cont=>exact q
def BZ(c:PS X j t):lu X [j] t:=by
 intro a s b H D I h;refine wpAny_execs_cons (g8 (c a s b H D I h) λf d q=>?_);cases f with
 |next=>exact en q
 |ret v=>exact q
 |brk=>exact q
 |cont=>exact q
def Inv.quiet(I:Inv X pins σ H s):interactive X.env=false:=by simp[interactive,I.ok.kind]
def Pk(i:TE):TS:=λD a H=>i a H λ_ b=>D.nx a b
def BQ(f:PE X e i)(d:swapsWith e none pos.line X.env=pure false):PS X (.Expr e pos) (Pk i):=by intro a s b H D I h;exact wpAny_Expr_any (g8 (f a s b H _ I h) λv l ⟨x,k,g,m,c⟩=>⟨b,k,g,c⟩) I.quiet d
def Py(i:TE):TS:=λD a H=>i a H D.rt
def BU(f:PE X e i):PS X (.Return (some e) pos) (Py i):=by intro a s b H D I h;exact wpAny_Return_some (g8 (f a s b H _ I h) λv l ⟨x,k,g,c,d⟩=>⟨x,b,k,g,c,d⟩)
def Pm(c:TT)(t u:TS):TS:=λD a H=>c a H λb d=>if b=true then t D a d else u D a d
def BS(o:PT X c tc)(q:lu X a t)(p:lu X b u):PS X (.If c a b pos) (Pm tc t u):=by
 intro f s g H D I h;refine wpAny_If (g8 (o f s g H _ I h) λd k ⟨n,m,l⟩=>?_);cases d with
 |true=>exact q f k g n D m l
 |false=>exact p f k g n D m l
end
abbrev TG:=V->St->Hp->(St->Hp->Prop)->Prop
abbrev n9:=List V->St->Hp->(St->Hp->Prop)->Prop
def PG(X:Cx)(a:Expr)(t:TG):Prop:=
 ∀b s d H v u Q,Inv X b d H s->RelV v u->t v d H Q->
  wpAny (model X.prog X.w) X.A (assign a X.env u) (λ_ f=>∃c e,Inv X b c e f/\Q c e) X.xe s
def pe(X:Cx)(g:List Expr)(t:n9):Prop:=
 ∀a s c H d e Q,Inv X a c H s->Vals d e->t d c H Q->
  wpAny (model X.prog X.w) X.A (assignInOrder ((assignEach g X.env).map (·.2)) e) (λ_ h=>∃b f,Inv X a b f h/\Q b f) X.xe s
section
variable{X:Cx}{pos:Pos}
def pJ(i:Nat):TG:=λv a H Q=>Q (a.set i<|some v) H
def uj(hN:X.N.Nodup)(hi:X.N[i]?=some x)(b:Loc X.env.scope x)(hf:X.hf x):PG X (.Name x pos) (pJ i):=by intro a s d H v u Q I r h;exact wpAny_assign_Name (uH I hN hi b r (λe c=>⟨_,H,c,h⟩) hf)
def Gv:n9:=λb a H Q=>b=[]/\Q a H
def Gu(t:TG)(u:n9):n9:=λc b H Q=>∃v r,c=v::r/\t v b H λa d=>u r a d Q
def BH:pe X [] Gv:=by intro a s b H c d Q I r h;obtain⟨e,h⟩:=h;subst e;cases r;exact assignInOrder_nil ⟨b,H,I,h⟩
def BG{t u}(l:PG X e t)(k:pe X es u)
 (j:(assignEach (e::es) X.env).map (·.2)=assign e X.env::(assignEach es X.env).map (·.2)):pe X (e::es) (Gu t u):=by
  intro a s d H p w Q I r h;obtain⟨v,q,m,h⟩:=h;subst m;cases r with
  |cons r g=>rw[j];refine eH (g8 (l a s d H _ _ _ I r h) λ_ f c=>?_);obtain⟨b,o,n,i⟩:=c;exact k a f b o _ _ Q n g i
def Gw(K:W.Frag)(n:Nat)(t:n9):TG:=λv c H Q=>∃a b,v=.ref a/\jA K H a b/\b.length=n/\t b c H Q
def BF{t n}(y:X.calm=true)(h:pe X es t)
 (w:(assignEach es X.env).length=n)(f:(assignEach es X.env).findIdx? (·.1)=none):PG X (.Tuple es k pos) (Gw X.K n t):=by intro c s g H v u Q I r d;obtain⟨a,j,A,q,x,d⟩:=d;subst A;cases r;obtain⟨l,i,p,C⟩:=I.tuple q;refine assign_Tuple_tuple (I.ok.hd y) p (by simp[w,<-x,i.length]) f λz m=>?_;have B:Inv X c g H {s with heap:=z}:=I.kept (t':=s.toks) λb o e=>m b o (aO<|Heap.lt_size e) e;exact h c _ g H j _ Q B (by simpa using i) d
def yd(b:TE)(g:TG):TS:=λD a H=>b a H λx c=>g x a c D.nx
def Lg{g}(m:PE X e te)(l:PG X tg g)(k:swapsWithSole [tg] e pos.line X.env=pure false)(j:swappedStores [tg] e X.env=pure none)
 (n:(assignEach [tg] X.env).map (·.2)=[assign tg X.env]):PS X (.Assign [tg] e pos) (yd te g):=by intro a s c H D I h;refine wpAny_Assign_stores (g8 (m a s c H _ I h) λv d b=>?_) k j;obtain⟨x,p,o,f,i⟩:=b;rw[n];exact g8 (l a d c p x v _ o f i) λ_ r q=>q
def BV(hN:X.N.Nodup)(hi:X.N[i]?=some x)(g:Loc X.env.scope x)(k:PE X e te)(j:swapsWith e (some<|.Name x pos') pos.line X.env=pure false)(hf:X.hf x):
    PS X (.Assign [.Name x pos'] e pos) (yd te<|pJ i):=by
 intro a s c H D I h;refine wpAny_Assign_Name (g8 (k a s c H _ I h) λv p b=>?_) j;obtain⟨y,n,m,d,f⟩:=b;exact uH m hN hi g d (λo l=>⟨_,n,l,f⟩) hf
def Pu(i j:Nat)(c:TA):TS:=λD a H=>c a H λb d=>∃v w,b=[v,w]/\D.nx ((a.set i<|some v).set j (some w)) d
def Li{pt n r d}(Q:X.calm=true)(hN:X.N.Nodup)(hi:X.N[i]?=some x)(P:X.N[j]?=some y)(z:i≠j)
 (C:X.env.scope.names.lookup x=some .local)(B:X.env.scope.names.lookup y=some .local)(R:PA X [a,b] ta)
 (N:swappedStores [.Tuple [.Name x px,.Name y py] n pt] (.Tuple [a,b] r d) X.env=pure (some [x,y]))
 (O:swapsWithSole [.Tuple [.Name x px,.Name y py] n pt] (.Tuple [a,b] r d) pos.line X.env=pure false):
   PS X (.Assign [.Tuple [.Name x px,.Name y py] n pt] (.Tuple [a,b] r d) pos) (Pu i j ta):=by
  intro c s A H D I h;rw[exec_Assign_arm];refine aa (d6 ?_);rw[O];refine aa (af ?_);rw[ak<|by decide];refine aa (Tuple_<|g8 (R _ c s A H _ I h) λG k u=>?_);obtain⟨Y,F,W,K,m⟩:=u;obtain⟨v,w,S,m⟩:=m;subst S;obtain⟨g,f,rfl,J,l⟩:∃g f,G=[g,f]/\RelV v g/\RelV w f:=by
   cases K with
   |cons p q=>
    cases q with
    |cons M L=>cases L;exact⟨_,_,rfl,p,M⟩
  refine aT ?_ (by show 2<=sizeLine;decide);have V:Inv X c A F {k with heap:=k.heap.push {cls:=.type "tuple",data:=.seq [g,f].toArray}}:=W.kept (t':=k.toks) λb o e=>ae _ e;rw[N];refine aa (af ?_);show wpAny (model X.prog X.w) X.A (do rule "assign.swapped-stores";let items<-unpackItems (.ref k.heap.objs.size) 2 none;assignInOrder [λv=>bindName X.env y v,λv=>bindName X.env x v] items.reverse;pure Flow.next) _ _ _;refine aa (gA<|aa<|unpackItems_tuple (items:=#[g,f]) (I.ok.hd Q) (IsTup.new k.heap _) λh' t=>?_);have U:=V.kept (h':=h') (t':=k.toks) λb o e=>t b o (aO<|Heap.lt_size e) e;show wpAny _ _ (assignInOrder [λv=>bindName X.env y v,λv=>bindName X.env x v] [f,g]>>=λ_=>pure Flow.next) _ _ _;refine aa (eH<|eI<|uH U hN P (.inl B) l (λs2 T=>?_)<|.inr B);refine eH (eI<|uH T hN hi (.inl C) J (λZ E=>assignInOrder_nil<|af ?_)<|.inr C);rw[List.set_comm _ _<|cA z]at E;exact⟨_,F,E,m⟩
def PK(c:TT)(h:TS):TS:=λD a H=>∃W:Nat->St->Hp->Prop,(∃m,W m a H)/\∀m a H,W m a H->
 c a H λb f=>if b=true then∃N:St->Hp->Prop,(∀d g,N d g->∃e,e<m/\W e d g)/\h {D with nx:=N,ct:=N,bk:=D.nx} a f else D.nx a f
def Lk(t:PassesOwn (model X.prog X.w) X.A X.env X.xe)(J:PT X c tc)(K:lu X body tb):PS X (.While c body [] pos) (PK tc tb):=by
 intro d s z H D I h;obtain⟨W,⟨G,B⟩,i⟩:=h;refine wpAny_While (codeAny_whileLoop (λn F=>∃g y,Inv X d g y F/\W n g y) ?_ G ⟨z,H,I,B⟩)
 rintro n E ⟨e,x,L,A⟩
 refine cD t (g8 (J d E e x _ L<|i n e x A) λb C ⟨w,u,l⟩=>?_);cases b with
 |true=>
  obtain⟨N,hN,l⟩:=l;rw[ai rfl];refine cD t (g8 (K d C e w _ u l) λf M k=>?_);cases f with
  |next=>obtain⟨a,j,r,o⟩:=k;obtain⟨p,q,m⟩:=hN a j o;exact⟨p,q,a,j,r,m⟩
  |cont=>obtain⟨a,j,r,o⟩:=k;obtain⟨p,q,m⟩:=hN a j o;exact⟨p,q,a,j,r,m⟩
  |brk=>exact k
  |ret v=>exact k
 |false=>rw[ak aA];exact en ⟨e,w,u,l⟩
end
structure It where
 go:Nat->Hp->Prop
 uN:Nat->Hp->V->Hp->Prop
 stop:Nat->Hp->Prop
def mM(X:Cx)(a:List<|Addr×Obj)(H:Hp)(b:Addr):Prop:=
 H b=none/\b≠X.env.locals/\b∉X.fs/\(b∈X.ex\/X.s₀.heap.objs.size<=b)/\(∀x c,X.env.cells.lookup x=some c->c≠b)/\∀p∈X.pn++a,p.1≠b
def Inv.sZ{d:Hp}(I:Inv X pins σ H s)(a:s.heap.objs.size<=b)(g:d b=none):mM X pins d b:=by
 refine⟨g,cc<|ay I.lt a,I.Jp a,.inr<|aI I.sz a,λx c e z=>?_,λp f z=>?_⟩
 ·obtain⟨v,q⟩:=I.cell x c e;exact absurd (ay q.lt (by rw[z];exact a)) (bj _)
 ·exact absurd (ay (Heap.lt_size (I.pin p f).1)<|by rw[z];exact a) (bj _)
structure Turn(P:Program)(w:World)(K:W.Frag)(tg:Expr)(J:It)(fp:List Addr)(it:Addr)(tn:Nat->Heap->Prop):Prop where
 mem:it∈fp
 obj:∀i h,tn i h->∀b∈fp,∃o,h.get? b=some o/\∀v,o.data≠.cell v
 keep:∀i h h',tn i h->(∀b∈fp,∀o,h.get? b=some o->h'.get? b=some o)->tn i h'
 item:∀(X:Cx),X.prog=P->X.w=w->X.K=K->X.calm=true->∀(i:Nat) (pins:List<|Addr×Obj) (s:Shared) (σ:St) (H:Hp) (E:ia),Inv X pins σ H s->(∀b∈fp,mM X pins H b)->tn i s.heap->J.go i H->
  wpAny (model P w) X.A (pyNext (.ref it)) (λr s1=>∃u,r=some u/\
   wpAny (model P w) X.A (letOwnedTupleGo tg (.ref it) u) (λ_ s2=>∃x H',Inv X pins σ H' s2/\RelV x u/\J.uN i H x H'/\tn (i+1) s2.heap/\∀b∈fp,H' b=none) E s1) E s
 done:∀(X:Cx),X.prog=P->X.w=w->X.K=K->X.calm=true->∀(i:Nat) (pins:List<|Addr×Obj) (s:Shared) (σ:St) (H:Hp) (E:ia),Inv X pins σ H s->(∀b∈fp,mM X pins H b)->tn i s.heap->J.stop i H->
  wpAny (model P w) X.A (pyNext<|.ref it) (λr s1=>r=none/\Inv X pins σ H s1) E s
 self:∀(A:Around) (i:Nat) (s:Shared) (Q:ia) (E:ia),tn i s.heap->Q (.ref it) s->wpAny (model P w) A (pyIter<|.ref it) Q E s
abbrev TI:=St->Hp->(It->Hp->Prop)->Prop
def PIE(X:Cx)(a:List<|Addr×Obj)(i:St)(j:Expr)(R:It->Hp->Prop)(c:Value)(f:Shared):Prop:=
 ∃g h e J d,c=.ref g/\Inv X a i d f/\Turn X.prog X.w X.K j J h g e/\e 0 f.heap/\(∀b∈h,mM X a d b)/\R J d
def PI(X:Cx)(e b:Expr)(d:TI):Prop:=
 ∀a s c H R,Inv X a c H s->d c H R->
  wpAny (model X.prog X.w) X.A (eval b X.env) (λv f=>wpAny (model X.prog X.w) X.A (pyIter v) (PIE X a c e R) X.xe f) X.xe s
def qZ{s:Shared}{u n}{Q:Unit->Shared->Prop}(b:s.heap.get? it=some o)(e:o.cls=.type n)(d:o.data=.fields vs)
 (c:["enumerate","zip","dict_itemiterator","dict_reverseitemiterator","odict_iterator","itertools.zip_longest","itertools.pairwise"].contains n=false)(a:Q () s):wpAny M A (letOwnedTupleGo tg (.ref it) u) Q E s:=by
  unfold letOwnedTupleGo
  cases tg<;>first
   |exact af a
   |(cases u<;>first
      |exact af a
      |(refine aa (wpAny_load b ?_)
        rw[e,d];show wpAny M A (if(["enumerate","zip","dict_itemiterator","dict_reverseitemiterator","odict_iterator","itertools.zip_longest","itertools.pairwise"].contains n&&vs[0]?==some (rawInt _))=true then _ else _) Q E s;rw[ak (by intro h;rw[c,Bool.false_and]at h;cases h)];exact af a))
def uY(K:W.Frag)(a:Addr):It:=
 ⟨λi H=>∃b x,jx K H a b/\b[i]?=some x,λi H x c=>c=H/\∀b,jx K H a b->b[i]?=some x,λi H=>∃b,jx K H a b/\b.length<=i⟩
def uZ(K:W.Frag)(a:Addr):It:=
 ⟨λi H=>∃b x,jA K H a b/\b[i]?=some x,λi H x c=>c=H/\∀b,jA K H a b->b[i]?=some x,λi H=>∃b,jA K H a b/\b.length<=i⟩
def r4(lo:Int)(n:Nat):It:=⟨λi _=>i<n,λi H x a=>a=H/\x=.int (lo+i),λi _=>n<=i⟩
def Qc{P:Program}{w:World}{K:W.Frag}{R:Expr}(a j:Addr):Turn P w K R (uY K a) [j] j (λi h=>h.IsListIter j a i) where
 mem:=by simp
 obj:=λi h f b l=>by
  have e:b=j:=by simpa using l
  subst e;obtain⟨o,e,c,d⟩:=f;exact⟨o,e,λv z=>by rw[d]at z;cases z⟩
 keep:=λi h q f k=>f.at λo e=>k j (by simp) o e
 item:=by intro X C A D O i g s N H E I hf f B;subst C A D;obtain⟨Q,x,n,y⟩:=B;obtain⟨t,r,p,U⟩:=I.list n;obtain⟨u,Y,T⟩:=r.get y;obtain⟨M,L,Z,J,G,F⟩:=hf j (by simp);refine wpAny_pyNext_list_item f p.isList (x:=u) (by simpa using Y) λq m S=>?_;have I1:Inv X g N H {s with heap:=q}:=I.turned (t':=s.toks) (λb o l e=>(S.2 b l).trans e) M L J G F;obtain⟨o,e,c,d⟩:=id m;exact⟨u,rfl,qZ (s:={s with heap:=q}) e c d (by decide) ⟨x,H,I1,T,⟨rfl,λys V=>by rw[I.IB V n];exact y⟩,m,λb l=>(hf b l).1⟩⟩
 done:=by intro X C A D O i g s N H E I hf f B;subst C A D;obtain⟨Q,n,y⟩:=B;obtain⟨t,r,p,U⟩:=I.list n;obtain⟨M,L,Z,J,G,F⟩:=hf j (by simp);have hl:=r.length;exact wpAny_pyNext_list_end (I.ok.hd O) f p.isList (by simp;omega) λq eb=>⟨rfl,I.turned (t':=s.toks) (λb o l e=>eb b o l e) M L J G F⟩
 self:=λ_ _ _ _ _ f h=>wpAny_pyIter_listiter f h
def Qe{P:Program}{w:World}{K:W.Frag}{R:Expr}(a l:Addr):Turn P w K R (uZ K a) [l] l (λi h=>h.IsTupleIter l a i) where
 mem:=by simp
 obj:=λi h f b m=>by
  have e:b=l:=by simpa using m
  subst e;obtain⟨o,e,c,d⟩:=f;exact⟨o,e,λv z=>by rw[d]at z;cases z⟩
 keep:=λi h r f k=>f.at λo e=>k l (by simp) o e
 item:=by intro X C A D O i g s N H E I hf f B;subst C A D;obtain⟨Q,x,q,y⟩:=B;obtain⟨j,t,p,U⟩:=I.tuple q;obtain⟨u,Y,T⟩:=t.get y;obtain⟨M,L,Z,J,G,F⟩:=hf l (by simp);refine wpAny_pyNext_tuple_item f (show s.heap.IsTuple a j.toArray from p) (x:=u) (by simpa using Y) λr n S=>?_;have I1:Inv X g N H {s with heap:=r}:=I.turned (t':=s.toks) (λb o m e=>(S.2 b m).trans e) M L J G F;obtain⟨o,e,c,d⟩:=id n;exact⟨u,rfl,qZ (s:={s with heap:=r}) e c d (by decide) ⟨x,H,I1,T,⟨rfl,λys V=>by rw[I.P9 V q];exact y⟩,n,λb m=>(hf b m).1⟩⟩
 done:=by intro X C A D O i g s N H E I hf f B;subst C A D;obtain⟨Q,q,y⟩:=B;obtain⟨j,t,p,U⟩:=I.tuple q;obtain⟨M,L,Z,J,G,F⟩:=hf l (by simp);have hl:=t.length;exact wpAny_pyNext_tuple_end (I.ok.hd O) f (show s.heap.IsTuple a j.toArray from p) (by simp;omega) λr eb=>⟨rfl,I.turned (t':=s.toks) (λb o m e=>eb b o m e) M L J G F⟩
 self:=λ_ _ _ _ _ f h=>wpAny_pyIter_tupleiter f h
def Qd{P:Program}{w:World}{K:PySem.W.Frag}{F:Expr}(d:Addr)(lo:Int)(n:Nat):Turn P w K F (r4 lo n) [d] d (λi h=>IsRangeIter h d (lo+(i:Nat)*1) ((n:Int) - (i:Nat)) 1) where
 mem:=by simp
 obj:=λi h a b f=>by
  have e:b=d:=by simpa using f
  subst e;exact⟨_,a,λv z=>by have D:Data.fields _=Data.cell v:=z;cases D⟩
 keep:=λi h j a k=>k d (by simp) _ a
 item:=by intro X q l r p i c s C H E I hf a m;subst q l r;obtain⟨B,A,L,y,x,u⟩:=hf d (by simp);have W:=Walks.range (prog:=X.prog) (w:=X.w) (I.ok.hd p) d lo 1 n;refine W.item i s _ _ m a λv j tk J g G=>?_;obtain⟨t,rfl⟩:=J;have N:Inv X c C H {s with heap:=j,toks:=tk}:=I.turned (λb o f e=>G b o (by simpa using f) e) B A y x u;refine⟨_,rfl,qZ (s:={s with heap:=j,toks:=tk}) (n:="range_iterator") g rfl rfl (by decide) ⟨.int<|lo+i,H,N,⟨t,?_⟩,⟨rfl,rfl⟩,g,λb f=>(hf b f).1⟩⟩;rw[gG]
 done:=by intro X q l r p i c s C H E I hf a m;subst q l r;obtain⟨B,A,L,y,x,u⟩:=hf d (by simp);exact wpAny_pyNext_range_end (I.ok.hd p) a (by have:n<=i:=m;omega) λj M=>⟨rfl,I.turned (t':=s.toks) (λb o f e=>M b o f e) B A y x u⟩
 self:=λ_ _ _ _ _ a h=>wpAny_pyIter_rangeiter a h
section
variable{X:Cx}{F:Expr}
def Hj(K:W.Frag)(tl:TE):TI:=λc H R=>tl c H λx b=>∃a,x=.ref a/\(∃d,jx K b a d)/\R (uY K a) b
def Hm(K:W.Frag)(tl:TE):TI:=λc H R=>tl c H λx b=>∃a,x=.ref a/\(∃d,jA K b a d)/\R (uZ K a) b
def BI{l:Expr}{tl:TE}(r:PE X l tl):PI X F l (Hj X.K tl):=by
 intro c s i H R I h;refine g8 (r c s i H _ I h) λv d g=>?_;obtain⟨x,u,f,j,k⟩:=g;obtain⟨a,e,⟨w,n⟩,q⟩:=k;subst e;cases j;obtain⟨m,y,p,z⟩:=f.list n;refine eS p.isList ?_;refine⟨d.heap.objs.size,[d.heap.objs.size],_,_,u,rfl,f.kept (t':=d.toks) λb o e=>ae _ e,Qc a _,⟨_,aw _ rfl,rfl,rfl⟩,λb t=>?_,q⟩;have e:b=d.heap.objs.size:=by simpa using t
 subst e;exact f.sZ (ah _) (f.hok.fresh<|ah _)
def K6{l:Expr}{tl:TE}(r:PE X l tl):PI X F l (Hm X.K tl):=by
 intro d s j H R I h;refine g8 (r d s j H _ I h) λv c i=>?_;obtain⟨x,u,f,k,m⟩:=i;obtain⟨a,e,⟨w,n⟩,q⟩:=m;subst e;cases k;obtain⟨g,y,p,z⟩:=f.tuple n;refine wpAny_pyIter_tuple (show c.heap.IsTuple a g.toArray from p) ?_;refine⟨c.heap.objs.size,[c.heap.objs.size],_,_,u,rfl,f.kept (t':=c.toks) λb o e=>ae _ e,Qe a _,⟨_,aw _ rfl,rfl,rfl⟩,λb t=>?_,q⟩;have e:b=c.heap.objs.size:=by simpa using t
 subst e;exact f.sZ (ah _) (f.hok.fresh<|ah _)
def N4{R:It->Hp->Prop}{lo hi:Int}{t u v:Tok}{tk:Nat}(I:Inv X pins σ H s)(h: -(2^62)<=lo)(g:lo<2^62)(f: -(2^62)<=hi)(d:hi<2^62)
 (q:R (r4 lo (hi - lo).toNat) H):wpAny (model X.prog X.w) X.A (pyIter<|.ref s.heap.objs.size) (PIE X pins σ F R) E {s with heap:=s.heap.push {cls:=.type "range",data:=.fields #[.int lo t,.int hi u,.int 1 v]},toks:=tk}:=by
  refine wpAny_pyIter_range (IsRange.new ..) (small_one h g f d) ?_;have a:Inv X pins σ H {s with heap:=s.heap.push {cls:=.type "range",data:=.fields #[.int lo t,.int hi u,.int 1 v]},toks:=tk}:=I.kept λb o e=>ae _ e
  refine⟨(s.heap.push {cls:=.type "range",data:=.fields #[.int lo t,.int hi u,.int 1 v]}).objs.size,[(s.heap.push {cls:=.type "range",data:=.fields #[.int lo t,.int hi u,.int 1 v]}).objs.size],_,_,H,rfl,
   a.kept (t':=tk) λb o e=>ae _ e,Qd _ lo (hi - lo).toNat,?_,λb c=>?_,q⟩
  ·have j:lo+((0:Nat):Int)*1=lo:=by simp
   have i:(((hi - lo).toNat:Nat):Int) - ((0:Nat):Int)=Builtin.Range.rangeSize lo hi 1:=by rw[rangeSize_one];split<;>omega
   show IsRangeIter _ _ (lo+((0:Nat):Int)*1) ((((hi - lo).toNat:Nat):Int) - ((0:Nat):Int)) 1;rw[j,i];exact aw _ rfl
  ·have e:b=(s.heap.push {cls:=.type "range",data:=.fields #[.int lo t,.int hi u,.int 1 v]}).objs.size:=by simpa using c
   subst e;exact a.sZ (ah _) (a.hok.fresh<|ah _)
def Hk(c:TA):TI:=λa H R=>c a H λb d=>∃j:Int,b=[.int j]/\ -(2^62)<=j/\j<2^62/\R (r4 0 j.toNat) d
def K4{pos}(m:Gl X "range")(l:X.mg "range"=none)(n:PA X [a] ta)(k:starEach [a] X.env=[(false,eval a X.env)]):PI X F (.Call (.Name "range" p) [a] [] pos) (Hk ta):=by
 intro b s d H R I h;refine Call_ (oI I m l boot_range (c6 (g8 (n pos b s d H _ I h) λv w ⟨u,x,o,g,c⟩=>?_) k rfl) (by decide)<|by decide);obtain⟨j,e,c,i,q⟩:=c;subst e;cases g with
 |cons r f=>cases f;obtain⟨t,rfl⟩:=r;exact call_range_1 (N4 o (by omega) (by omega) c i<|by simpa using q)
def Pl(f:TI)(g:TG)(h:TS):TS:=λD a H=>f a H λJ k=>∃W:Nat->Nat->St->Hp->Prop,(∃m,W 0 m a k)/\∀i m a H,W i m a H->
 (J.stop i H/\D.nx a H)\/(J.go i H/\∃N:St->Hp->Prop,(∀b c,N b c->∃e,e<m/\W (i+1) e b c)/\∀x c,J.uN i H x c->g x a c λd j=>h {D with nx:=N,ct:=N,bk:=D.nx} d j)
def pZ(a:List Addr)(h:Heap):List (Addr×Obj):=a.filterMap λb=>(h.get? b).map λo=>(b,o)
def pT{h:Heap}(a:b∈fp)(e:h.get? b=some o):(b,o)∈pZ fp h:=cV.mpr ⟨b,a,by rw[e];rfl⟩
def Jz(a:p∈pZ fp h):p.1∈fp/\h.get? p.1=some p.2:=by
 obtain⟨b,c,e⟩:=cV.mp a;cases q:h.get? b with
 |none=>rw[q]at e;cases e
 |some o=>rw[q]at e;have d:(b,o)=p:=Option.some.inj e;subst d;exact⟨c,q⟩
def Inv.pinned(I:Inv X pins σ H s)(hf:∀b∈fp,mM X pins H b)(g:∀b∈fp,∃o,s.heap.get? b=some o/\∀v,o.data≠.cell v):Inv X (pins++pZ fp s.heap) σ H s:=
 I.BN λp f=>(bx.mp f).elim (λz=>I.pin p (aQ _ z)) λz=>by obtain⟨a,e⟩:=Jz z;obtain⟨j,i,h,_⟩:=hf p.1 a;obtain⟨o,c,d⟩:=g p.1 a;rw[e]at c;cases c;exact⟨e,j,i,h,d⟩
def Inv.rN(I:Inv X (pins++pl) σ H s):Inv X pins σ H s:=I.BN λp a=>I.pin p (aQ _<|bR _ a)
def BR{g pos}(L:PassesOwn (model X.prog X.w) X.A X.env X.xe)(hc:X.calm=true)(hi:PI X F iter wi)(hg:PG X F g)(p:lu X body tb)
 (hs:∀x,foldedSetIterable iter X.env x=pure x):PS X (.For F iter body [] pos) (Pl wi g tb):=by
  intro c s Z H D I h;refine wpAny_For (g8 (hi c s Z H _ I h) λv s1 h1=>g8 h1 λAO s2 h2=>?_) hs;obtain⟨it,O,tn,J,H2,e,I2,T,R,f2,W,⟨m0,w0⟩,C⟩:=h2;subst e
  have l:∀{y:Hp},(∀b∈O,y b=none)->∀b∈O,mM X c y b:=λhn b p=>⟨hn b p,(f2 b p).2⟩;refine codeAny_forLoop_any (λn s'=>∃i k y,Inv X c k y s'/\tn i s'.heap/\(∀b∈O,y b=none)/\W i n k y) ?_ m0 ⟨0,Z,H2,I2,R,λb p=>(f2 b p).1,w0⟩
  rintro n s3 ⟨i,j,P,I3,G,M,w3⟩
  rcases C i n j P w3 with⟨E,qn⟩|⟨go,N,hN,step⟩
  ·refine cD L (g8 (T.done X rfl rfl rfl hc i c s3 j P X.xe I3 (l M) G E) λr s4 ⟨U,I4⟩=>?_);subst U;exact en ⟨j,P,I4,qn⟩
  ·refine cD L (g8 (T.item X rfl rfl rfl hc i c s3 j P X.xe I3 (l M) G go) λr s4 ⟨u,U,h4⟩=>?_);subst U;refine cD L (g8 h4 λ_ s5 B=>?_);obtain⟨x,H5,I5,r5,y5,A,V⟩:=B;have Y:=I5.pinned (l V) (T.obj _ _ A);refine cD L (g8 (hg _ s5 j H5 x u _ Y r5<|step x H5 y5) λ_ s6 B=>?_);obtain⟨Q,H6,I6,q6⟩:=B;refine cD L (g8 (p _ s6 Q H6 _ I6 q6) λf S z=>?_);have q:∀{a:St} {w:Hp},Inv X (c++pZ O s5.heap) a w S->N a w->∃m,m<n/\∃i k y,Inv X c k y S/\tn i S.heap/\(∀b∈O,y b=none)/\W i m k y:=λ{a w} t K=>by
    obtain⟨m',hm,w7⟩:=hN a w K;refine⟨m',hm,i+1,a,w,t.rN,T.keep _ _ _ A λb p o e=>(t.pin (b,o)<|aQ _<|aQ _<|pT p e).1,λb p=>?_,w7⟩;obtain⟨o,e,d⟩:=T.obj _ _ A b p;exact(t.pin (b,o)<|aQ _<|aQ _<|pT p e).2.1
   cases f with
   |next=>obtain⟨a,w,t,K⟩:=z;exact q t K
   |cont=>obtain⟨a,w,t,K⟩:=z;exact q t K
   |brk=>obtain⟨a,w,t,z⟩:=z;exact⟨a,w,t.rN,z⟩
   |ret v=>obtain⟨x7,a,w,t,r7,z⟩:=z;exact⟨x7,a,w,t.rN,r7,z⟩
abbrev R2:=V->V->Hp->VK->Prop
def iV(X:Cx)(f:Value->Value->Sem Value)(r:R2):Prop:=
 ∀a s b H x y v u Q,Inv X a b H s->RelV x v->RelV y u->r x y H Q->
  wpAny (model X.prog X.w) X.A (f v u) (EP X a b Q) X.xe s
def so(X:Cx)(f:Value->Sem Value)(r:V->Hp->VK->Prop):Prop:=
 ∀a s b H x v Q,Inv X a b H s->RelV x v->r x H Q->
  wpAny (model X.prog X.w) X.A (f v) (EP X a b Q) X.xe s
def kd(X:Cx)(f:Value)(r:List V->Hp->VK->Prop):Prop:=
 ∀a s b H c d Q,Inv X a b H s->Vals c d->r c H Q->
  wpAny (model X.prog X.w) X.A (call f d) (EP X a b Q) X.xe s
def D9(X:Cx)(r:V->Hp->(Bool->Hp->Prop)->Prop):Prop:=
 ∀(a:List<|Addr×Obj) (s:Shared) (σ:St) (H:Hp) (x:V) (v:Value) (Q:Bool->Hp->Prop),Inv X a σ H s->RelV x v->r x H Q->
  wpAny (model X.prog X.w) X.A (truthy v) (TP X a σ Q) X.xe s
def uJ(r:R2)(c b:TE):TE:=λa H Q=>c a H λx e=>b a e λy d=>r x y d Q
def PH(r:V->Hp->VK->Prop)(b:TE):TE:=λa H Q=>b a H λx c=>r x c Q
def rI(C:Int->Int->Prop)(g:Int->Int->V):R2:=λx y H Q=>∃i j,x=.int i/\y=.int j/\C i j/\Q (g i j) H
def oK(g:Int->Int->V):R2:=λx y H Q=>∃i j,x=.int i/\y=.int j/\Q (g i j) H
def rU(g:Int->V):V->Hp->VK->Prop:=λx H Q=>∃i,x=.int i/\Q (g i) H
variable{a b c:Expr}{A B L:TE}{pos:Pos}
def vq(r:PE X a A)(q:PE X b B){R:V->V->Hp->Prop}(I:Inv X pins σ H s)
 (h:A σ H λx k=>B σ k λy e=>R x y e){f:Value->Value->Sem Value}
 (hf:∀v u j x y e,Inv X pins σ e j->RelV x v->RelV y u->R x y e->wpAny (model X.prog X.w) X.A (f v u) Q X.xe j):
   wpAny (model X.prog X.w) X.A (eval a X.env) (λv i=>wpAny (model X.prog X.w) X.A (eval b X.env) (λu g=>wpAny (model X.prog X.w) X.A (f v u) Q X.xe g) X.xe i) X.xe s:=by
  refine g8 (r pins s σ H _ I h) λv l d=>?_;obtain⟨x,k,w,n,p⟩:=d;refine g8 (q pins l σ k _ w p) λu j d=>?_;obtain⟨y,e,t,m,o⟩:=d;exact hf v u j x y e t n m o
def BA(j:iV X (binaryOp op) r)(l:PE X a A)(k:PE X b B):PE X (.BinOp a op b pos) (uJ r A B):=by intro d s e H Q I h;exact wpAny_BinOp (vq l k I h λv u f x y n m i g q=>j d f e n x y v u Q m i g q)
def K1(j:so X (unaryOp op) r)(k:PE X a A):PE X (.UnaryOp op a pos) (PH r A):=by intro d s e H Q I h;exact UnaryOp_ (g8 (k d s e H _ I h) λv f ⟨x,m,l,g,i⟩=>j d f e m x v Q l g i)
def ue{f:Value->Value->Sem Value}{C:Int->Int->Prop}{g:Int->Int->Int}
 (d:∀(i j:Int) t u (s:Shared) (Q:ia) E,C i j->Q (.int (g i j) s.toks) {s with toks:=s.toks+1}->wpAny (model X.prog X.w) X.A (f (.int i t)<|.int j u) Q E s):
   iV X f (rI C λi j=>.int<|g i j):=by
  intro e s o H x y v u Q I m l h;obtain⟨i,j,rfl,rfl,n,q⟩:=h;obtain⟨t,rfl⟩:=m;obtain⟨k,rfl⟩:=l;exact d i j t k s _ _ n ⟨.int<|g i j,H,I.tok _,⟨_,rfl⟩,q⟩
def Br{f:Value->Value->Sem Value}{g:Int->Int->Int}
 (d:∀(i j:Int) t u (s:Shared) Q E,Q (.int (g i j) s.toks) {s with toks:=s.toks+1}->wpAny (model X.prog X.w) X.A (f (.int i t)<|.int j u) Q E s):
   iV X f (oK λi j=>.int<|g i j):=by
  intro e s n H x y v u Q I m l h;obtain⟨i,j,rfl,rfl,q⟩:=h;obtain⟨t,rfl⟩:=m;obtain⟨k,rfl⟩:=l;exact d i j t k s _ _ ⟨.int<|g i j,H,I.tok _,⟨_,rfl⟩,q⟩
def Bq{f:Value->Value->Sem Value}{g:Int->Int->Bool}
 (d:∀(i j:Int) t u s Q E,Q (.bool<|g i j) s->wpAny (model X.prog X.w) X.A (f (.int i t)<|.int j u) Q E s):
   iV X f (oK λi j=>.bl<|g i j):=by
  intro e s n H x y v u Q I m l h;obtain⟨i,j,rfl,rfl,q⟩:=h;obtain⟨t,rfl⟩:=m;obtain⟨k,rfl⟩:=l;exact d i j t k s _ _ ⟨.bl<|g i j,H,I,rfl,q⟩
def uU(i j:Int):Prop:=(-(2^64)<i/\i<2^64)\/(-(2^64)<j/\j<2^64)
def uU.ok{i j:Int}(h:uU i j):IntMulOk i j:=by
 rcases h with⟨e,d⟩|⟨e,d⟩;·exact .of_left (intBits_le_64 e d)
 ·exact .of_right (intBits_le_64 e d)
def J1:iV X (binaryOp .Add) (oK λi j=>.int<|i+j):=Br λ_ _ _ _ _ _ _ q=>add_int q
def Kq:iV X (binaryOp .Sub) (oK λi j=>.int<|i - j):=Br λ_ _ _ _ _ _ _ q=>sub_int q
def Kj:iV X (binaryOp .Mult) (rI uU λi j=>.int<|i*j):=ue λ_ _ _ _ _ _ _ d q=>mul_int q d.ok
def Ki:iV X (binaryOp .Mod) (rI (λ_ j=>j≠0) λi j=>.int<|i.fmod j):=ue λ_ _ _ _ _ _ _ d q=>mod_int' d q
def Qh{f:Value->Sem Value}{g:Int->Int}
 (d:∀(i:Int) t (s:Shared) Q E,Q (.int (g i) s.toks) {s with toks:=s.toks+1}->wpAny (model X.prog X.w) X.A (f<|.int i t) Q E s):
   so X f (rU λi=>.int<|g i):=by
  intro e s k H x v Q I j h;obtain⟨i,rfl,q⟩:=h;obtain⟨t,rfl⟩:=j;exact d i t s _ _ ⟨.int<|g i,H,I.tok _,⟨_,rfl⟩,q⟩
def Qi:so X (unaryOp .USub) (rU λi=>.int<|-i):=Qh λ_ _ _ _ _ q=>neg_int q
def xM:V->V->Bool
 |.non,.non=>true|.non,.int _=>true|.int _,.non=>true|.non,.bl _=>true|.bl _,.non=>true|.non,.str _=>true|.str _,.non=>true
 |.int _,.int _=>true|.bl _,.bl _=>true|.str _,.str _=>true|.kY _,.kY _=>true
 |.int _,.str _=>true|.str _,.int _=>true|.bl _,.str _=>true|.str _,.bl _=>true
 |_,_=>false
def NW:R2:=λx y H Q=>xM x y=true/\Q (.bl<|decide<|x=y) H
def NZ:R2:=λx y H Q=>xM x y=true/\Q (.bl<|!decide (x=y)) H
def zE{i j:Int}:decide (V.int i=V.int j)=(i==j):=by rw[er];simp
def zA:decide (V.bl i=V.bl j)=(i==j):=by rw[er];simp
def zF:decide (V.str i=V.str j)=(i==j):=by rw[er];simp
def zC:decide (V.kY i=V.kY j)=(i.toList==j.toList):=by rw[er];cases i;cases j;simp
def iG{Q:VK}(I:Inv X pins σ H s)(q:Q (.bl k) H)(e:k=k'):EP X pins σ Q (.bool k') s:=by subst e;exact⟨.bl k,H,I,rfl,q⟩
def Ka:iV X (compareOp .Eq) NW:=by
 intro k s l H x y v u Q I g d h;obtain⟨f,q⟩:=h;cases x with
 |non=>
  cases g;cases y with
  |non=>cases d;exact PySem.EqNone.eq_none_none (iG I q<|by simp)
  |bl j=>cases d;exact PySem.EqNone.eq_none_bool (iG I q<|by simp)
  |int j=>obtain⟨e,rfl⟩:=d;exact PySem.EqNone.eq_none_int (iG I q<|by simp)
  |str j=>obtain⟨e,rfl⟩:=d;exact PySem.EqNone.eq_none_str (iG I q<|by simp)
  |_=>exact absurd (show false=true from f) aA
 |bl i=>
  cases g;cases y with
  |non=>cases d;exact PySem.EqNone.eq_bool_none (iG I q<|by simp)
  |bl j=>cases d;exact eq_bool (iG I q zA)
  |str j=>obtain⟨e,rfl⟩:=d;exact PySem.EqMixed.eq_bool_str (iG I q<|by simp)
  |_=>exact absurd (show false=true from f) aA
 |int i=>
  obtain⟨t,rfl⟩:=g;cases y with
  |non=>cases d;exact PySem.EqNone.eq_int_none (iG I q<|by simp)
  |int j=>obtain⟨e,rfl⟩:=d;exact eq_int (iG I q zE)
  |str j=>obtain⟨e,rfl⟩:=d;exact PySem.EqMixed.eq_int_str (iG I q<|by simp)
  |_=>exact absurd (show false=true from f) aA
 |str i=>
  obtain⟨t,rfl⟩:=g;cases y with
  |non=>cases d;exact PySem.EqNone.eq_str_none (iG I q<|by simp)
  |bl j=>cases d;exact PySem.EqMixed.eq_str_bool (iG I q<|by simp)
  |int j=>obtain⟨e,rfl⟩:=d;exact PySem.EqMixed.eq_str_int (iG I q<|by simp)
  |str j=>obtain⟨e,rfl⟩:=d;exact eq_str (iG I q zF)
  |_=>exact absurd (show false=true from f) aA
 |kY i=>
  obtain⟨t,rfl⟩:=g;cases y with
  |kY j=>obtain⟨e,rfl⟩:=d;exact W.eq_bytes (iG I q zC)
  |_=>exact absurd (show false=true from f) aA
 |_=>cases y<;>exact absurd (show false=true from f) aA
def Km:iV X (compareOp .NotEq) NZ:=by
 intro k s l H x y v u Q I g d h;obtain⟨f,q⟩:=h;cases x with
 |non=>
  cases g;cases y with
  |non=>cases d;exact PySem.EqNone.ne_none_none (iG I q<|by simp)
  |bl j=>cases d;exact PySem.EqNone.ne_none_bool (iG I q<|by simp)
  |int j=>obtain⟨e,rfl⟩:=d;exact PySem.EqNone.ne_none_int (iG I q<|by simp)
  |str j=>obtain⟨e,rfl⟩:=d;exact PySem.EqNone.ne_none_str (iG I q<|by simp)
  |_=>exact absurd (show false=true from f) aA
 |bl i=>
  cases g;cases y with
  |non=>cases d;exact PySem.EqNone.ne_bool_none (iG I q<|by simp)
  |bl j=>cases d;exact ne_bool (iG I q<|cn not zA)
  |str j=>obtain⟨e,rfl⟩:=d;exact PySem.EqMixed.ne_bool_str (iG I q<|by simp)
  |_=>exact absurd (show false=true from f) aA
 |int i=>
  obtain⟨t,rfl⟩:=g;cases y with
  |non=>cases d;exact PySem.EqNone.ne_int_none (iG I q<|by simp)
  |int j=>obtain⟨e,rfl⟩:=d;exact ne_int (iG I q<|cn not zE)
  |str j=>obtain⟨e,rfl⟩:=d;exact PySem.EqMixed.ne_int_str (iG I q<|by simp)
  |_=>exact absurd (show false=true from f) aA
 |str i=>
  obtain⟨t,rfl⟩:=g;cases y with
  |non=>cases d;exact PySem.EqNone.ne_str_none (iG I q<|by simp)
  |bl j=>cases d;exact PySem.EqMixed.ne_str_bool (iG I q<|by simp)
  |int j=>obtain⟨e,rfl⟩:=d;exact PySem.EqMixed.ne_str_int (iG I q<|by simp)
  |str j=>obtain⟨e,rfl⟩:=d;exact ne_str (iG I q<|cn not zF)
  |_=>exact absurd (show false=true from f) aA
 |kY i=>
  obtain⟨t,rfl⟩:=g;cases y with
  |kY j=>obtain⟨e,rfl⟩:=d;exact W.ne_bytes (iG I q<|cn not zC)
  |_=>exact absurd (show false=true from f) aA
 |_=>cases y<;>exact absurd (show false=true from f) aA
def Kh:iV X (compareOp .Lt) (oK λi j=>.bl<|decide<|i<j):=Bq λ_ _ _ _ _ _ _ q=>lt_int q
def Kd:iV X (compareOp .Gt) (oK λi j=>.bl<|decide<|j<i):=Bq λ_ _ _ _ _ _ _ q=>gt_int q
def Ke:iV X (compareOp .Is) (λx y H Q=>y=.non/\Q (.bl<|decide<|x=.non) H):=by
 intro e s g H x y v u Q I d f h;obtain⟨rfl,q⟩:=h;cases f;refine is_none_gen (iG I q ?_)
 cases x<;>first
  |(cases d;rfl)
  |(obtain⟨t,rfl⟩:=d;rfl)
def Ko:iV X (compareOp .IsNot) (λx y H Q=>y=.non/\Q (.bl<|!decide (x=.non)) H):=by
 intro e s g H x y v u Q I d f h;obtain⟨rfl,q⟩:=h;cases f;refine isnot_none_gen (iG I q ?_)
 cases x<;>first
  |(cases d;rfl)
  |(obtain⟨t,rfl⟩:=d;rfl)
def tW(b)(h:op≠.In)(d:op≠.NotIn):behindInMarks op b=false:=by
 have f:(op==CmpOp.In)=false:=by cases op<;>first|rfl|exact absurd rfl h
 have e:(op==CmpOp.NotIn)=false:=by cases op<;>first|rfl|exact absurd rfl d
 cases b<;>simp[behindInMarks,f,e]
def KC(j:iV X (compareOp op) r)(m:PE X a A)(l:PE X b B)(k:behindInMarks op b=false):PE X (.Compare a [op] [b] pos) (uJ r A B):=by intro d s e H Q I h;exact wpAny_Compare1 (vq m l I h λv u f x y o n i g q=>j d f e o x y v u Q n i g q) k
def PC(t:TE):TT:=λd H Q=>t d H λx e=>∃k,x=.bl k/\Q k e
def B0(t:iV X (compareOp op) r)(D:PE X a A)(C:PE X b B)(w:behindInMarks op b=false):PT X (.Compare a [op] [b] pos) (PC<|uJ r A B):=by intro d s g H Q I h;refine wpAny_isTrue_Compare1 (g8 (D d s g H _ I h) λv j f=>?_) w;obtain⟨x,N,J,n,q⟩:=f;refine g8 (C d j g N _ J q) λu i f=>?_;obtain⟨y,M,G,m,p⟩:=f;refine g8 (t d i g M x y v u _ G n m p) λc O f=>?_;obtain⟨z,K,E,l,k,e,o⟩:=f;subst e;cases l;exact dJ ⟨K,E,o⟩
def vg(K:W.Frag)(x:V)(H:Hp)(k:Bool):Prop:=
 match x with
 |.non=>k=false
 |.bl b=>k=b
 |.int i=>k=(i !=0)
 |.str y=>y.length<=sizeLine/\k=((y.length:Int)!=0)
 |.kY y=>y.size<=sizeLine/\k=((y.size:Int)!=0)
 |.ref p=>(∃d,jx K H p d/\k=!d.isEmpty)\/(∃d,jA K H p d/\k=!d.isEmpty)\/∃e,H p=some (.dK e)/\k=!e.isEmpty
 |_=>False
def Hu{e:Type}{d:List<|e×V}{f:List<|e×Value}(r:KV d f):(!f.isEmpty)=!d.isEmpty:=by cases r<;>rfl
def AL{e:List V}{d:List Value}(r:Vals e d):(!d.toArray.isEmpty)=!e.isEmpty:=by cases r<;>simp
def pP:(sizeLine:Nat)<2^63:=by rw[cU];decide
def P6:D9 X (λx H Q=>∃k,vg X.K x H k/\Q k H):=by
 intro z s G H x v Q I l h;obtain⟨k,e,q⟩:=h;have K:=pP;have J:sizeLine=16777216:=cU;cases x with
 |non=>cases l;have d:k=false:=e;subst d;exact truthy_none ⟨H,I,q⟩
 |bl b=>cases l;have d:k=b:=e;subst d;exact dJ ⟨H,I,q⟩
 |int i=>obtain⟨t,rfl⟩:=l;have d:k=(i !=0):=e;subst d;exact PySem.P.truthy_int ⟨H,I,q⟩
 |str y=>obtain⟨t,rfl⟩:=l;obtain⟨D,d⟩:y.length<=sizeLine/\k=((y.length:Int)!=0):=e;subst d;exact PySem.P.truthy_str (by omega) ⟨H,I.tok _,q⟩
 |kY y=>obtain⟨t,rfl⟩:=l;obtain⟨D,d⟩:y.size<=sizeLine/\k=((y.size:Int)!=0):=e;subst d;exact W.truthy_bytes (by omega) ⟨H,I.tok _,q⟩
 |ref p=>
  cases l;have d:(∃j,jx X.K H p j/\k=!j.isEmpty)\/(∃j,jA X.K H p j/\k=!j.isEmpty)\/∃f,H p=some (.dK f)/\k=!f.isEmpty:=e;rcases d with⟨j,n,d⟩|⟨j,n,d⟩|⟨f,n,d⟩
  ·subst d;obtain⟨w,r,u,C⟩:=I.list n;have g:=r.length;exact wpAny_truthy_list u.isList (by simp only[aK];omega) ⟨H,I.tok _,by rw[AL r];exact q⟩
  ·subst d;obtain⟨w,r,u,C⟩:=I.tuple n;have g:=r.length;exact truthy_tuple u (by simp only[aK];omega) ⟨H,I.tok _,by rw[AL r];exact q⟩
  ·subst d;obtain⟨C,E,o,r,m⟩:f.length<=sizeLine/\(p==sysModules)=false/\∃o,KV f o/\s.heap.DictOf (jk X.prog X.w) p o:=I.hok p _ n;have g:f.length=o.length:=Paired.length r;exact wpAny_truthy_dict E m (by omega) ⟨H,I.tok _,by rw[Hu r];exact q⟩
 |_=>exact(show False from e).elim
def Lm(n:PE X a A)(m:∀d,isTrue a X.env d=(do let v<-d;standAt a.pos;holding [v]<|truthy v)):
    PT X a (λf H Q=>A f H λx g=>∃k,vg X.K x g k/\Q k g):=by
 intro e s f H Q I h;exact isTrue_plain (g8 (n e s f H _ I h) λv i ⟨x,p,o,j,l⟩=>P6 e i f p x v Q o j l) (m _)
def J2:iV X (binaryOp .Add) (λx y H Q=>∃i j,x=.str i/\y=.str j/\i.length+j.length<=sizeLine/\Q (.str<|i++j) H):=by intro d s l H x y v u Q I g f h;obtain⟨i,j,rfl,rfl,k,q⟩:=h;obtain⟨t,rfl⟩:=g;obtain⟨e,rfl⟩:=f;exact add_str (λe tk=>⟨.str<|i++j,H,I.tok _,⟨_,rfl⟩,q⟩) k
def vals1(r:Vals [x] us):∃u,us=[u]/\RelV x u:=by
 cases r with
 |cons e d=>cases d;exact⟨_,rfl,e⟩
def vals2(r:Vals [x,y] us):∃u d,us=[u,d]/\RelV x u/\RelV y d:=by
 cases r with
 |cons h g=>
  cases g with
  |cons f e=>cases e;exact⟨_,_,rfl,h,f⟩
def EI:kd X (.builtin "abs") (λd H Q=>∃i,d=[.int i]/\Q (.int<|if i<0 then -i else i) H):=by intro e s f H d g Q I r h;obtain⟨i,rfl,q⟩:=h;obtain⟨u,rfl,t,rfl⟩:=vals1 r;exact call_abs_int λu tk=>⟨.int<|if i<0 then -i else i,H,I.tok _,⟨_,rfl⟩,q⟩
end
structure Rk(h:Heap)(x dx C:Addr)(mA:iw):Prop where
 obj:h.get? x=some (W.instObj C dx)
 ns:h.Ns1 dx mA
 ne:dx≠x
def nr.some_of{v}(r:nr (some v) o):∃u,o=some u/\RelV v u:=by
 cases o with
 |none=>exact(show False from r).elim
 |some u=>exact⟨u,rfl,r⟩
structure DC(K:W.Frag)(C:Addr):Prop where
 pg:W.plainGet K C Str.empty=true
 hd:W.hasDictIn K C=true
 po:W.plainOver K C=true
 sa:W.findIn K (.ref C) "__setattr__"=some (some<|.builtin "object.__setattr__")
structure Rc(K:W.Frag)(C:Addr)(f:Str)(v:V)(u:Value):Prop where
 at_:W.findIn K (.ref C) f=some (some u)
 rel:RelV v u
 get:W.specialIn K u "__get__"=some none
 cp:W.copiedNames.contains f=false
structure Meth(K:W.Frag)(C:Addr)(m:Str)(f:Addr):Prop where
 at_:W.findIn K (.ref C) m=some (some<|.ref f)
 fn:W.isFn K (.ref f)=true
 kp:W.keepIn K (.ref f)=true
section
variable{X:Cx}{f:List<|Addr×Obj}{h:St}{H:Hp}{s:Shared}{A:Around}{E Q:ia}{c:Value}{b:Bool}
inductive lK(K:W.Frag)(H:Hp):V->Value->Prop where
 |non:lK K H .non (.type "NoneType")
 |bl (x:Bool):lK K H (.bl x) (.type "bool")
 |int (i:Int):lK K H (.int i) (.type "int")
 |str (x:Str):lK K H (.str x) (.type "str")
 |flt (x:UInt64):lK K H (.flt x) (.type "float")
 |lst {a:Addr} {xs:List V} (e:H a=some (.lst xs)):lK K H (.ref a) (.type "list")
 |jD {a:Addr} {o:Obj} {xs:List V} (e:H a=some (.jD o<|.lst xs)):lK K H (.ref a) (.type "list")
 |tup {a:Addr} {xs:List V} (e:H a=some (.tup xs)):lK K H (.ref a) (.type "tuple")
 |dK {a:Addr} {kvs:List<|Key×V} (e:H a=some (.dK kvs)):lK K H (.ref a) (.type "dict")
 |dT {a:Addr} {kvs:List<|List Key×V} (e:H a=some (.dT kvs)):lK K H (.ref a) (.type "dict")
 |ins {a C dx:Addr} {fs:List<|Str×V} (e:H a=some (.ins C dx fs)) (cl:DC K C) (ha:W.findIn K (.ref C) "__class__"=some (some<|.builtin "object.__class__"))
   (hn:W.specialIn K (.builtin "object.__class__") "__get__"=some (some<|.builtin "getset_descriptor.__get__")) (htk:W.takesIn K (.builtin "object.__class__")=some true)
   (hm:W.mroIn K C (.type "object")=some true):lK K H (.ref a) (.ref C)
end
structure iR(k:Nat)(A:Around):Prop where
 hd:A.handled=none
 dp:A.depth+3*k+5<recursionLimit
 un:A.units+16*k+200<cLine
def iR.mono(r:iR k A)(h:j<=k):iR j A:=⟨r.hd,by have:=r.dp;omega,by have:=r.un;omega⟩
def iR.deeper(r:iR (k+1) A)(env):iR k (A.deeper env):=
 ⟨r.hd,by have:=r.dp;show A.depth+1+3*k+5<_;omega,by have:=r.un;show A.units+3+16*k+200<_;omega⟩
def iR.depth(r:iR k A):A.depth<recursionLimit:=by have:=r.dp;omega
def iR.units(r:iR k A):A.units+64<cLine:=by have:=r.un;omega
def yf:TA:=λ_ H Q=>Q [] H
def ye(d:TE)(c:TA):TA:=λa H Q=>d a H λx f=>c a f λb e=>Q (x::b) e
section
variable{X:Cx}{e:Expr}{l:List Expr}{m:TE}{t:TA}{pos:Pos}
def nQ:PA X [] yf:=λ_ _ _ _ H Q I h=>eT ⟨[],H,I,.nil,h⟩
def mz(p:PE X e m)(o:PA X l t)(n:X.se e l):PA X (e::l) (ye m t):=by intro pos a s c H Q I h;rw[n];show wpAny _ _ (spliced<|(false,eval e X.env)::backTo pos (starEach l X.env)) _ _ s;refine dD (g8 (p a s c H _ I h) λu f b=>?_);obtain⟨x,w,r,i,k⟩:=b;exact g8 (o pos a f c w _ r k) λy z ⟨d,v,q,g,j⟩=>⟨x::d,v,q,.cons i g,j⟩
def PD(t:TA):TE:=λc H Q=>t c H λa b=>a.length<=sizeLine/\∀p,b p=none->Q (.ref p) (upd b p<|.tup a)
def Pn(t:TA):TE:=λc H Q=>t c H λa b=>a.length<=sizeLine/\∀p,b p=none->Q (.ref p) (upd b p<|.lst a)
def BB{k}(h:PA X l t):PE X (.Tuple l k pos) (PD t):=by intro a s i H Q I o;refine wpAny_Tuple_spliced (g8 (h pos a s i H _ I o) λn c d=>?_);obtain⟨j,g,f,r,z,q⟩:=d;refine⟨by rw[<-r.length];exact z,?_⟩;have hf:g c.heap.objs.size=none:=f.hok.fresh (ah _);refine⟨.ref c.heap.objs.size,upd g c.heap.objs.size<|.tup j,f.laid (t':=c.toks) (λb u e=>ae _ e) (ah _) ?_,rfl,q _ hf⟩;exact⟨z,n,r,⟨_,aw _ rfl,rfl,_,rfl⟩⟩
def KP(h:PA X l t):PE X (.List l pos) (Pn t):=by intro a s i H Q I n;refine wpAny_List_spliced (g8 (h pos a s i H _ I n) λk c d=>?_);obtain⟨j,g,f,r,z,q⟩:=d;refine⟨by rw[<-r.length];exact z,?_⟩;have hf:g c.heap.objs.size=none:=f.hok.fresh (ah _);refine⟨.ref c.heap.objs.size,upd g c.heap.objs.size<|.lst j,f.laid (t':=c.toks) (λb u e=>ae _ e) (ah _) ?_,rfl,q _ hf⟩;exact⟨z,k,0,r,aw _ rfl⟩
abbrev Sp:=List V->Hp->VK->XK->Prop
abbrev lh:=List Env->Hp->Shared->XK->ia
structure qw(P:Program)(w:World)(K:W.Frag)(mg:iw)(base:Heap)(A:Around)(outer:List Env)(s:Shared)(H:Hp):Prop where
 frames:A.frames=some outer
 mod:Mod K mg base
 bs:∀b o,base.get? b=some o->s.heap.get? b=some o/\H b=none
 ny:base.objs.size<=s.heap.objs.size
 lP:s.heap.FunFrames base outer
 td:∀b∈frs outer,H b=none
 hok:iL P w H s.heap
 bare:AllBare s.gens
def CE(a:List Env)(P:Program)(w:World)(H:Hp)(s:Shared)(Q:VK)(u:Value)(b:Shared):Prop:=
 ∃v c,b.os=s.os/\AllBare b.gens/\Un (frs a) [] H c s.heap b.heap/\iL P w c b.heap/\RelV v u/\Q v c
def CR(c:lh)(a:List Env)(P:Program)(w:World)(H:Hp)(s:Shared)(Q:VK)(E:XK)(r:Result)(b:Shared):Prop:=
 match r with
 |.ok (.ret u)=>CE a P w H s Q u b
 |.ok _=>False
 |.error e=>c a H s E e b
structure ku(P:Program)(w:World)(K:W.Frag)(mg:iw)(base:Heap)(CX:lh)(k:Nat)(f:Addr)(fd:FuncData)(ps:List Str)(sp:Sp):Prop where
 len:∀vs H Q E,sp vs H Q E->vs.length=ps.length
 run:∀A outer s H args us vs Q E,iR k A->qw P w K mg base A outer s H->BindsTo s fd args (ps.zip us)->Vals vs us->sp vs H Q E->
  codeAny (model P w) A (.call (.ref f) args) (CR CX outer P w H s Q E) s
def ku.mono{P:Program}{w:World}{K:W.Frag}{i:iw}{a:Heap}{o:lh}{j k:Nat}{f:Addr}{n:FuncData}{g:List Str}{d:Sp}(F:ku P w K i a o j f n g d)(h:j<=k):
    ku P w K i a o k f n g d:=⟨F.len,λA b s H c q p Q E r=>F.run A b s H c q p Q E<|r.mono h⟩
def ku.imp{P:Program}{w:World}{K:W.Frag}{n:iw}{a:Heap}{p:lh}{k:Nat}{f:Addr}{o:FuncData}{j:List Str}{i d:Sp}(F:ku P w K n a p k f o j i)
    (h:∀c H Q E,d c H Q E->i c H Q E):ku P w K n a p k f o j d:=
 ⟨λc H Q E q=>F.len c H Q E<|h _ _ _ _ q,λA b s H g r c Q E x y z u v=>F.run A b s H g r c Q E x y z u<|h _ _ _ _ v⟩
variable{a:List<|Addr×Obj}{c:St}{H:Hp}{s i:Shared}
def Inv.z5(I:Inv X a c H s):qw X.prog X.w X.K X.mg X.base X.A X.stack s H:=
 ⟨I.ok.frames,I.ok.mod,I.bs,aI I.ok.ny I.sz,I.stack,I.uG,I.hok,I.bare⟩
def Inv.after{u}(I:Inv X a c H s)(h:CE X.stack X.prog X.w H s Q u i):EP X a c Q u i:=by obtain⟨v,p,n,f,un,k,r,q⟩:=h;obtain⟨o,g,d,t,j⟩:=i;obtain rfl:j=s.os:=n;exact⟨v,p,I.call (h':=o) (g':=g) (d':=d) (t':=t) (ch:=[]) un k f<|λb z=>absurd z<|by simp,r,q⟩
end
def CK(d:Sp)(a:List V)(E:XK)(t:TA):TE:=λb H Q=>t b H λc e=>d (c++a) e Q E
def Binds(K:W.Frag)(c:FuncData)(a:List Str)(b:List Value):Prop:=
 ∀(s:Shared) us,K.In s.heap->(us++b).length=a.length->BindsTo s c ⟨us,[]⟩ (a.zip<|us++b)
def Binds.all{K:W.Frag}{d:FuncData}{b:List Str}(h:∀a:List Value,a.length=b.length->bindArgs d ⟨a,[]⟩=pure (b.zip a)):Binds K d b []:=λs a _ c=>by rw[aZ]at c⊢;exact .of_eq (h a c)
def Passes(d:lh)(X:Cx)(E:XK):Prop:=∀a c H s e b,Inv X a c H s->d X.stack H s E e b->X.xe e b
section
variable{X:Cx}{y:lh}{k:Nat}{f C:Addr}{i:FuncData}{b:List Str}{j:Sp}{a:List V}{c:List Value}{E:XK}{x m:Str}{p pos B:Pos}{e o:Expr}{l:List Expr}{M:TE}{t:TA}
def Cp(F:ku X.prog X.w X.K X.mg X.base y k f i b j)(v:iR k X.A)(A:Binds X.K i b c)(z:Vals a c)(q:Passes y X E)
 (I:Inv X pins σ H s)(r:Vals vs us)(h:j (vs++a) H Q E):wpAny (model X.prog X.w) X.A (call (.ref f) us) (EP X pins σ Q) X.xe s:=by
  have g:Vals (vs++a) (us++c):=r.append z;have w:(us++c).length=b.length:=by rw[<-g.length];exact F.len _ _ _ _ h
  refine wpAny_call (dM (F.run X.A X.stack s H ⟨us,[]⟩ (us++c) (vs++a) Q E v I.z5 (A s us I.j6 w) g h) λr n d=>?_);cases r with
  |error e=>exact q pins σ H s e n I d
  |ok D=>
   cases D with
   |ret u=>exact I.after d
   |next=>exact False.elim d
   |brk=>exact False.elim d
   |cont=>exact False.elim d
def Ky(F:ku X.prog X.w X.K X.mg X.base y k f i b j)(A:iR k X.A)(J:Gl X x)(D:X.mg x=some (.ref f))(G:W.keepIn X.K (.ref f)=true)(N:Binds X.K i b c)(L:Vals a c)(z:Passes y X E)
 (O:PA X (e::l) t)(u:jc x)(K:X.se e l)(n:X.bk pos l):
   PE X (.Call (.Name x p) (e::l) [] pos) (CK j a E t):=by
  intro d s w H Q I h;refine b8 (wy I J D ?_ u);refine W.callWith_K (h₀:=X.base) I.ok.mod.wq G (g8 (O pos d s w H _ I h) λR S g=>?_) K n;obtain⟨P,T,v,r,q⟩:=g;refine⟨v.j6,?_⟩;exact Cp F A N L z v r q
structure Mk(K:W.Frag)(C f:Addr):Prop where
 makes:W.makesIn K C=true
 init:W.findIn K (.ref C) "__init__"=some (some<|.ref f)
 fn:W.isFn K (.ref f)=true
 kp:W.keepIn K (.ref C)=true
variable{z:List Str}{A:Pos}{J:List Keyword}{L:TE}{tk:TA}{N:Option Str}
structure Rh(K:W.Frag)(i:FuncData)(b z:List Str)(g:List Value->List Value->List Value)(gV:List V->List V->List V):Prop where
 to:∀(s:Shared) (us ws:List Value),K.In s.heap->(g us ws).length=b.length->BindsTo s i ⟨us,z.zip ws⟩ (b.zip<|g us ws)
 rel:∀{vs:List V} {us:List Value} {zs:List V} {ws:List Value},Vals vs us->Vals zs ws->Vals (gV vs zs) (g us ws)
variable{g:List Value->List Value->List Value}{gV:List V->List V->List V}
end
structure i3(N P:List Str)(sc:Scope):Prop where
 kind:sc.kind=.function
 co:sc.isCoroutine=false
 gen:sc.isGenerator=false
 nd:N.Nodup
 pre:N.take P.length=P
 par:∀x∈P,sc.names.lookup x=some .local\/sc.names.lookup x=some .cell
 Jo:∀y∈sc.names,y.2≠.free
theorem zc{a:Str->Option NameKind}{x:Str}:∀{binds:List<|Str×Value} {m:iw},(∀v,(x,v)∉binds)->bindL a binds m x=m x
 |[],_,_=>rfl
 |(n,v)::r,m,h=>by
  unfold bindL;rw[zc λw b=>h w<|bu _ b];split
  ·have:x≠n:=by rintro rfl;exact h v bP
   simp[this]
  ·rfl
theorem za{a:Str->Option NameKind}{x:Str}:∀{binds:List<|Str×Value} {m:iw},(∀v,(x,v)∉binds)->bindC a binds m x=m x
 |[],_,_=>rfl
 |(n,v)::r,m,h=>by
  unfold bindC;rw[za λw b=>h w<|bu _ b];split;·rfl
  ·have:x≠n:=by rintro rfl;exact h v bP
   simp[this]
theorem zb{a:Str->Option NameKind}{x:Str}{v:Value}:∀{P:List Str} {b:List Value} {i:Nat} {m:iw},P.Nodup->P[i]?=some x->b[i]?=some v->a x=some .local->
 bindL a (P.zip b) m x=some v
 |[],_,_,_,_,h,_,_=>by simp at h
 |_::_,[],_,_,_,_,h,_=>by simp at h
 |p::P,w::b,0,m,e,d,c,f=>by simp at d c;subst d;subst c;show bindL a ((p,w)::P.zip b) m p=_;unfold bindL;rw[zc λv g=>(bX.mp e).1 (et g).1,ai f];simp
 |p::P,w::b,i+1,m,e,d,c,f=>by show bindL a ((p,w)::P.zip b) m x=_;unfold bindL;exact zb (i:=i) (bX.mp e).2 (by simpa using d) (by simpa using c) f
theorem y9{a:Str->Option NameKind}{x:Str}{v:Value}:∀{P:List Str} {b:List Value} {i:Nat} {m:iw},P.Nodup->P[i]?=some x->b[i]?=some v->a x≠some .local->
 bindC a (P.zip b) m x=some v
 |[],_,_,_,_,h,_,_=>by simp at h
 |_::_,[],_,_,_,_,h,_=>by simp at h
 |p::P,w::b,0,m,e,d,c,f=>by simp at d c;subst d;subst c;show bindC a ((p,w)::P.zip b) m p=_;unfold bindC;rw[za λv g=>(bX.mp e).1 (et g).1,ak f];simp
 |p::P,w::b,i+1,m,e,d,c,f=>by show bindC a ((p,w)::P.zip b) m x=_;unfold bindC;exact y9 (i:=i) (bX.mp e).2 (by simpa using d) (by simpa using c) f
def start(N:List Str)(a:List V):St:=a.map some++List.replicate (N.length - a.length) none
def iz(g:lh)(P:Program)(w:World)(K:W.Frag)(mg:iw)(base:Heap)(N:List Str)(b:Str)(a:Scope)(f:Addr)(d:Value)(A:Around)(outer:List Env)(s:Shared)(H:Hp)(E:XK):Cx where
 prog:=P
 w:=w
 K:=K
 mg:=mg
 base:=base
 A:=A.deeper (envOfC b a s.heap.objs.size f d)
 N:=N
 s₀:=s
 H₀:=H
 env:=envOfC b a s.heap.objs.size f d
 outer:=outer
 stack:=envOfC b a s.heap.objs.size f d::outer
 ex:=[]
 calm:=true
 fn:=λ_=>true
 pn:=[]
 xe:=λe h=>wpAny (model P w) (A.deeper<|envOfC b a s.heap.objs.size f d) (leaving (envOfC b a s.heap.objs.size f d) e) (λ_ c=>g outer H s E e c) (λi c=>g outer H s E i c) h
def zl{a:Scope}{n}(h:a.names.lookup x=some .cell):∃c,(cellsFrom n a.names []).lookup x=some c:=by have q:=fj a.names n [] (.inl h);exact cf.mp q
def AK{T:lh}{P:Program}{w:World}{K:W.Frag}{M:iw}{m:Heap}{N B:List Str}{j:Str}{d:Scope}{f:Addr}{J:Value}{A:Around}{g:List Env}{s O:Shared}{H:Hp}{E:XK}{L:List Value}{t:List V}
    (S:i3 N B d)(Y:A.handled=none)(o:qw P w K M m A g s H)(hl:t.length=B.length)(r:Vals t L)
    (x:InCallC s s.heap.objs.size (bindL (envOfC j d s.heap.objs.size f J).kindOf (B.zip L) λ_=>none) (cellsFrom (s.heap.objs.size+1) d.names []) (bindC (envOfC j d s.heap.objs.size f J).kindOf (B.zip L) λ_=>none) O):
    Inv (iz T P w K M m N j d f J A g s H E) [] (start N t) H O:=by
 have X:B.length<=N.length:=by have:=cn List.length S.pre;rw[cw]at this;omega
 obtain⟨I,tk,rfl,R⟩:=x.done;have C:∀b:Addr,b∉(iz T P w K M m N j d f J A g s H E).ex:=λb z=>absurd (show b∈([]:List Addr)from z) (by simp)
 refine⟨⟨o.mod,S.kind,rfl,rfl,ah _,λy z c I l=>?_,λy D=>?_,λy c _ h=>?_,λ_=>Y,Around.frames_deeper o.frames,.inr ⟨rfl,rfl⟩,λb z=>absurd z (C b),o.bs,o.ny,λb _ _=>C b,λb z=>absurd z (C b),o.lP,o.td⟩,
  rfl,o.bare,Un.kept R,⟨_,x.toInCall.ns,λi y v I l h3=>?_⟩,λy c h=>⟨_,x.cell y c h⟩,o.hok.fresh (ah _),λy c h=>?_,λp G=>absurd (show p∈([]:List (Addr×Obj))from G) (by simp),o.hok.kept R,?_⟩
 ·exact name_of_addr x.apart (aY I) (aY l)
 ·have D:d.names.lookup y=some .cell\/d.names.lookup y=some .free:=D;rcases D with D|D;·exact zl D
  ·exact absurd rfl (S.Jo _<|aY D)
 ·exact bJ (x.above y c<|aY h)
 ·have hi:i<t.length:=by
   unfold start at l;by_cases hi:i<t.length;·exact hi
   ·rw[aC<|by simpa using hi]at l;rw[br]at l;split at l<;>cases l
  have Z:t[i]?=some v:=by
   unfold start at l;rw[ag<|by simpa using hi,aB]at l;cases e:t[i]? with
   |none=>rw[e]at l;cases l
   |some a=>rw[e]at l;cases l;rfl
  obtain⟨u,Q,U⟩:=r.get Z;have G:B[i]?=some y:=by rw[<-S.pre,List.getElem?_take_of_lt<|by omega];exact I
  have F:B.Nodup:=by rw[<-S.pre];exact S.nd.sublist (List.take_sublist _ _)
  refine⟨u,U,?_⟩;rcases S.par y (aM G)with k|k;·exact .inl ⟨k,zb F G Q k⟩
  ·obtain⟨c,e⟩:=zl (n:=s.heap.objs.size+1) k;refine .inr ⟨.inl k,c,e,?_⟩;have q:=x.cell y c e;rw[y9 F G Q (by show d.names.lookup y≠_;rw[k];decide)]at q;exact q
 ·exact o.hok.fresh (bJ<|x.above y c<|aY h)
 ·unfold start;show _=N.length;rw[aq,aD,b7];omega
def Ah{w}{K:W.Frag}{dV kV}
 {p:Sp}(R:K.lookup f=some ⟨oc,od,.func<|W.fnOf name qual params body scope dV kV doc pm an cdv ct,Bw⟩)(F:W.codeIn K cdv qual=true)(S:i3 N ps scope)
 (len:∀c H Q E,p c H Q E->c.length=ps.length)
 (h:∀(A:Around) outer (s:Shared) H c Q E,iR k (A.deeper (envOfC qual scope s.heap.objs.size f cdv))->p c H Q E->
 ∃t,lu (iz CX P w K mg base N qual scope f cdv A outer s H E) body t/\t {nx:=λ_ d=>Q .non d,rt:=Q} (start N c) H):
   ku P w K mg base CX (k+1) f (W.fnOf name qual params body scope dV kV doc pm an cdv ct) ps p:=by
  refine⟨len,λA outer s H L O c Q E D m hb r j=>?_⟩;have Y:=len _ _ _ _ j;have M:K.In s.heap:=m.mod.wq.keeps λb o e=>(m.bs b o e).1;have C:s.heap.NoLimit:=m.mod.nolimit.keeps λb o e=>(m.bs b o e).1;have g:∀y∈ps.zip O,scope.names.lookup y.1=some .local\/(scope.names.lookup y.1=some .cell/\((cellsFrom (s.heap.objs.size+1) scope.names []).lookup y.1).isSome=true):=λ⟨n,v⟩ T=>by
   rcases S.par n (et T).1 with q|q;·exact .inl q
   ·exact .inr ⟨q,fj _ _ _<|.inl q⟩
  refine codeAny_call_function D.depth (M _ _ R) rfl S.co S.gen rfl (W.codeRec_of M F) (hb _ _ _ _ ?_);refine eJ S.kind g λenv Z G x=>?_;subst Z;refine⟨C.keeps x.toInCall.keep,codeAny_func ?_⟩;obtain⟨t,U,X⟩:=h A outer s H c Q E (D.deeper _) j;have I:Inv (iz CX P w K mg base N qual scope f cdv A outer s H E) [] (start N c) H G:=AK S D.hd m Y r x;refine aS (U [] G (start N c) H _ I X) (λfl z i=>?_) λe z i=>i
  have l:∀{a:St} {d:Hp} {v:V} {u:Value},Inv (iz CX P w K mg base N qual scope f cdv A outer s H E) [] a d z->RelV v u->Q v d->CE outer P w H s Q u z:=
   λ{a d v u} J B q=>⟨v,d,J.os,J.bare,J.base,J.hok,B,q⟩
  cases fl with
  |ret u=>obtain⟨v,a,d,J,B,q⟩:=i;exact l J B q
  |next=>obtain⟨a,d,J,q⟩:=i;exact l (v:=V.non) (u:=Value.none) J rfl q
  |brk=>obtain⟨_,_,_,q⟩:=i;exact False.elim q
  |cont=>obtain⟨_,_,_,q⟩:=i;exact False.elim q
variable{X:Cx}{x:Str}{p pos:Pos}{e:Expr}{O:List Expr}{t:TA}{U T:String}{r:List V->Hp->VK->Prop}
def CJ(r:List V->Hp->VK->Prop)(t:TA):TE:=λa H Q=>t a H λb c=>r b c Q
def Kz(u:kd X (.builtin U) r)(o:Gl X x)(n:X.mg x=none)(l:bootBuiltins x=some (.builtin U))(v:PA X (e::O) t)(m:x≠"__name__")(c:jc x)
 (q:X.se e O)(b:X.bk pos O):PE X (.Call (.Name x p) (e::O) [] pos) (CJ r t):=by intro a s d H Q I h;refine b8 (oI I o n l ?_ m c);exact cK (g8 (v pos a s d H _ I h) λg i ⟨f,y,w,j,k⟩=>u a i d y f g Q w j k) q b
def KA(u:kd X (.type T) r)(o:Gl X x)(n:X.mg x=none)(l:bootBuiltins x=some (.type T))(v:PA X (e::O) t)(m:x≠"__name__")(c:jc x)
 (q:X.se e O)(b:X.bk pos O):PE X (.Call (.Name x p) (e::O) [] pos) (CJ r t):=by intro a s d H Q I h;refine b8 (oI I o n l ?_ m c);exact c6 (g8 (v pos a s d H _ I h) λg i ⟨f,y,w,j,k⟩=>u a i d y f g Q w j k) q b
end L2
namespace HT
open PySem PyProof.Rows
variable{a:Program}{w:World}{A:Around}{E:ia}{s:Shared}
def EX{t}{f c:List Value}{Q:ia}(y:IsTup s.heap t f.toArray)(z:IsTup s.heap b c.toArray)(r:f≠[])
 (C:c=[]->Q (.ref t) s)(B:c≠[]->Q (.ref s.heap.objs.size) {s with heap:=s.heap.push {cls:=.type "tuple",data:=.seq (f++c).toArray}})
 (m:f.length+c.length<=sizeLine):wpAny (model a w) A (binaryOp .Add (.ref t)<|.ref b) Q E s:=by
  obtain⟨⟨cls,dd,data,p⟩,l,v,n,u⟩:=id y;obtain⟨⟨x,j,o,g⟩,d,i,q,h⟩:=id z;simp only at v u i h;subst v u i h;have e:f.toArray++c.toArray=(f++c).toArray:=by simp
  by_cases k:c=[]
  ·exact concat_meets ⟨_,l,rfl⟩ ⟨_,d,rfl⟩ noFill_tuple_add seq_tuple_add fI fk (eX _ _)
    (tuple_addW1 t b f.toArray c.toArray n q dd j p g (by simpa using r)<|by simp[k]) ⟨l,d,C k⟩
  ·refine concat_meets ⟨_,l,rfl⟩ ⟨_,d,rfl⟩ noFill_tuple_add seq_tuple_add fI fk (eX _ _)
    (tuple_addW2 t b f.toArray c.toArray n q dd j p g (by simpa using r) (by simpa using k)<|by rw[aK,aK];exact m) ⟨l,d,?_⟩
   rw[e];exact B k
def hI(n d:Nat):Option Int->Nat
 |none=>d
 |some v=>if v<0 then(v+(n:Int)).toNat else min v.toNat n
def Cr(n d k:Nat):hI n d (some (k:Int))=min k n:=by show(if(k:Int)<0 then((k:Int)+(n:Int)).toNat else min (k:Int).toNat n)=min k n;rw[ak<|by omega,bo]
def Oz(n d)(c:d<=n)(o):hI n d o<=n:=by
 cases o with
 |none=>exact c
 |some v=>
  show(if v<0 then(v+(n:Int)).toNat else min v.toNat n)<=n;by_cases b:v<0;·rw[ai b];omega
  ·rw[ak b];exact Nat.min_le_right _ _
def zm(v:Int)(n d:Nat):(if v<0 then max (v+(n:Int)) 0 else min v (n:Int))=((hI n d<|some v:Nat):Int):=by
 show(if v<0 then max (v+(n:Int)) 0 else min v (n:Int))=(((if v<0 then(v+(n:Int)).toNat else min v.toNat n):Nat):Int);by_cases b:v<0;·simp only[ai b];omega
 ·simp only[ak b];omega
def Ef(lo hi:Option Int)(n:Nat):Builtin.Slice.sliceAdjust lo hi 1 (n:Int)=(((hI n 0 lo:Nat):Int),((hI n n hi:Nat):Int)):=by
 have b:¬((1:Int)<0):=by omega
 unfold Builtin.Slice.sliceAdjust;simp only[b,bC];refine Prod.ext ?_ ?_
 ·cases lo with
  |none=>rfl
  |some v=>exact zm v n 0
 ·cases hi with
  |none=>rfl
  |some v=>exact zm v n n
def K8(i j:Nat):Builtin.Slice.slicePlaces (i:Int) (j:Int) 1=j - i:=by
 unfold Builtin.Slice.slicePlaces;have b:(1:Int)>0:=by omega
 simp only[b,cB,Int.ediv_one];split<;>omega
def CB{v}{Q:Option Int->Shared->Prop}(p:IsPart v o)(h:Q o s):wpAny (model a w) A (Builtin.Slice.slicePartIndex v) Q E s:=by
 cases p with
 |none=>exact slicePart_none h
 |int i t=>exact slicePart_int h
def OZ{lo hi n}{Q:Int×Int×Nat->Shared->Prop}(f:s.heap.IsSliceOf sl vl vu .none)(e:IsPart vl lo)(d:IsPart vu hi)
 (h:Q (((hI n 0 lo:Nat):Int),1,hI n n hi - hI n 0 lo) s):wpAny (model a w) A (Builtin.Slice.sliceApplied (.ref sl) (pure (n:Int))) Q E s:=by obtain⟨i,b,g,c⟩:=id f;unfold Builtin.Slice.sliceApplied Builtin.Slice.sliceFields;refine aa (aa<|dH b c (x:=vl) rfl<|aa<|dH b c (x:=vu) rfl<|aa<|dH b c (x:=.none) rfl<|af ?_);refine aa (slicePart_none ?_);show wpAny _ _ (if((1:Int)==0)=true then _ else _) _ _ s;rw[ak<|by decide];refine aa (CB e<|aa<|CB d<|aa<|af ?_);show wpAny _ _ (match Builtin.Slice.sliceAdjust lo hi 1 (n:Int)with|(lo,hi)=>pure (lo,(1:Int),Builtin.Slice.slicePlaces lo hi 1)) _ _ s;rw[Ef lo hi n];show wpAny _ _ (pure (((hI n 0 lo:Nat):Int),(1:Int),Builtin.Slice.slicePlaces ((hI n 0 lo:Nat):Int) ((hI n n hi:Nat):Int) 1)) _ _ s;rw[K8];exact af h
def K7(b:Array Value)(i k:Nat):((List.range k).filterMap λ(m:Nat)=>b[((i:Int)+(m:Int)*1).toNat]?).toArray=((b.toList.drop i).take k).toArray:=by
 have e:(λ(m:Nat)=>b[((i:Int)+(m:Int)*1).toNat]?)=λm=>b[i+m]?:=by
  funext m;have:((i:Int)+(m:Int)*1).toNat=i+m:=by omega
  rw[this]
 rw[e];have:=pick_run b i k;rw[List.filterMap_map]at this;have c:((λx=>b[x]?)∘λx=>i+x)=λm=>b[i+m]?:=rfl;rw[c]at this;rw[this]
def GA{t e:Addr}{b:Array Value}{l k:Value}{lo hi:Option Int}{Q:ia}(d:IsTup s.heap t b)(n:s.heap.IsSliceOf e l k .none)(p:IsPart l lo)(o:IsPart k hi)
    (u:¬(hI b.size 0 lo=0/\hI b.size b.size hi=b.size))
    (h:Q (.ref s.heap.objs.size) {s with heap:=s.heap.push {cls:=.type "tuple",data:=.seq ((b.toList.drop<|hI b.size 0 lo).take (hI b.size b.size hi - hI b.size 0 lo)).toArray}})
    (v:b.size<=sizeLine):wpAny (model a w) A (getItem (.ref t)<|.ref e) Q E s:=by
 have c:sizeOk (.seq ((b.toList.drop<|hI b.size 0 lo).take (hI b.size b.size hi - hI b.size 0 lo)).toArray):=by show((b.toList.drop<|hI b.size 0 lo).take (hI b.size b.size hi - hI b.size 0 lo)).toArray.size<=sizeLine;rw[aK,cw,cL,av];omega
 have B:hI b.size b.size hi<=b.size:=Oz _ _ (ah _) hi;obtain⟨r,f,i,x⟩:=id n;have j:s.TypeIs (.ref e) "slice":=⟨r,f,i⟩;unfold getItem;try with_reducible refine bU ?_
 first|refine aa (af ?_)|skip
 refine aa (wpAny_sequenceKey d.typeIs (by decide) ?_)
 refine aa (bH (name:=Str.ofString "__getitem__") d.typeIs dX
  (bA dX d.typeIs entry_tuple_getitem ?_ (args_tuple_getitem _ _)))
 show wpAny _ _ (Builtin.Tuple.tupleItemsOf (.ref t)>>=_) _ _ s;refine aa (tupleItemsOf_ d ?_);refine aa (fJ j ?_);rw[ai<|by decide];refine aa (OZ n p o ?_);have g:¬((((hI b.size 0 lo:Nat):Int)==0&&(1:Int)==1&&(hI b.size b.size hi - hI b.size 0 lo)==b.size)=true):=by intro q;rw[aN,aN]at q;have z:((hI b.size 0 lo:Nat):Int)=0:=eq_of_beq q.1.1;have y:hI b.size b.size hi - hI b.size 0 lo=b.size:=eq_of_beq q.2;exact u ⟨by omega,by omega⟩
 show wpAny _ _ (if(((hI b.size 0 lo:Nat):Int)==0&&(1:Int)==1&&(hI b.size b.size hi - hI b.size 0 lo)==b.size)=true then _ else _) _ _ s;rw[ak g,K7]
 first
  |exact aa (m:=Builtin.Tuple.tupleExact _) (aT (af ⟨_,rfl,af h⟩) c)
  |exact aa (m:=Builtin.Tuple.tupleExact _) (aT (aa<|af<|af ⟨_,rfl,af h⟩) c)
  |exact aa (aa (m:=Builtin.Tuple.tupleExact _)<|aT (af<|af ⟨_,rfl,af h⟩) c)
  |exact aa (aa (m:=Builtin.Tuple.tupleExact _)<|aT (af ⟨_,rfl,af h⟩) c)
end HT
namespace L2
open PySem PySem.Spec PyProof.Rows
abbrev TO:=St->Hp->(Option Int->Hp->Prop)->Prop
def PO(X:Cx)(e:Option Expr)(t:TO):Prop:=
 ∀a s b H Q,Inv X a b H s->t b H Q->
  wpAny (model X.prog X.w) X.A (evalPart e X.env) (λu d=>∃o c,Inv X a b c d/\IsPart u o/\Q o c) X.xe s
def Pp:TO:=λ_ H Q=>Q none H
def Pw(t:TE):TO:=λa H Q=>t a H λx b=>∃i,x=.int i/\Q (some i) b
section
variable{X:Cx}{e:Expr}{c:TE}{lo hi:Option Expr}{tl f:TO}{pos j:Pos}
def Lc:PO X none Pp:=by intro a s b H Q I h;rw[evalPart_none];exact af ⟨none,H,I,.none,h⟩
def Ld(h:PE X e c):PO X (some e) (Pw c):=by intro a s d H Q I l;rw[evalPart_some];refine g8 (h a s d H _ I l) λu o b=>?_;obtain⟨x,n,m,g,k⟩:=b;obtain⟨i,rfl,q⟩:=k;obtain⟨t,rfl⟩:=g;exact⟨some i,n,m,.int i t,q⟩
def mP(X:Cx)(r:V->Option Int->Option Int->Hp->VK->Prop):Prop:=
 ∀a s b H x v g d lo hi h Q,Inv X a b H s->RelV x v->s.heap.IsSliceOf h g d .none->IsPart g lo->IsPart d hi->r x lo hi H Q->
  ∃T i,typeLookup (.type T) "__getitem__"=pure (some<|.builtin i)/\s.TypeIs v T/\wpAny (model X.prog X.w) X.A (getItem v<|.ref h) (EP X a b Q) X.xe s
def mP.or{r l:V->Option Int->Option Int->Hp->VK->Prop}(h:mP X r)(p:mP X l):mP X (λx lo hi H Q=>r x lo hi H Q\/l x lo hi H Q):=by
 intro a s b H x v g d lo hi i Q I k o n m q;rcases q with q|q;·exact h a s b H x v g d lo hi i Q I k o n m q
 ·exact p a s b H x v g d lo hi i Q I k o n m q
def PB(r:V->Option Int->Option Int->Hp->VK->Prop)(c:TE)(tl f:TO):TE:=λa H Q=>c a H λx g=>tl a g λl d=>f a d λu b=>r x l u b Q
def KU(E:mP X r)(J:PE X e c)(F:PO X lo tl)(C:PO X hi f):PE X (.Subscript e (.Slice lo hi none j) pos) (PB r c tl f):=by intro a s i H Q I h;refine Subscript_ (g8 (J a s i H _ I h) λv p d=>?_);obtain⟨x,P,N,t,z⟩:=d;refine wpAny_Slice (g8 (F a p i P _ N z) λm o d=>?_);obtain⟨l,O,M,B,y⟩:=d;refine g8 (C a o i O _ M y) λk g d=>?_;obtain⟨u,n,L,A,w⟩:=d;rw[evalPart_none];refine af ?_;have K:Inv X a i n {g with heap:=g.heap.push {cls:=.type "slice",data:=.fields #[m,k,.none]}}:=L.kept (t':=g.toks) λb ob q=>ae _ q;obtain⟨T,R,hT,D,G⟩:=E a {g with heap:=g.heap.push {cls:=.type "slice",data:=.fields #[m,k,.none]}} i n x v m k l u g.heap.objs.size Q K t (Heap.IsSliceOf.new ..) B A w;show wpAny (model X.prog X.w) X.A (subscriptTail e (.Slice lo hi none j) v<|.ref g.heap.objs.size) (EP X a i Q) X.xe {g with heap:=g.heap.push {cls:=.type "slice",data:=.fields #[m,k,.none]}};exact tail_any (ops:=[.ref g.heap.objs.size,v]) D hT G (by with_unfolding_all rfl)
def nB(a:List V)(lo hi:Option Int):List V:=(a.drop<|HT.hI a.length 0 lo).take (HT.hI a.length a.length hi - HT.hI a.length 0 lo)
def zw(xs lo hi):(nB xs lo hi).length<=xs.length:=by unfold nB;rw[cw,cL];omega
def N2(K:W.Frag):V->Option Int->Option Int->Hp->VK->Prop:=λx lo hi H Q=>∃a b,x=.ref a/\jA K H a b/\
 ¬(HT.hI b.length 0 lo=0/\HT.hI b.length b.length hi=b.length)/\∀p,H p=none->Q (.ref p) (upd H p<|.tup<|nB b lo hi)
def OY:mP X (N2 X.K):=by
 intro k s z H x v B A lo hi C Q I n y t p h;obtain⟨a,g,rfl,u,w,q⟩:=h;cases n;obtain⟨i,r,m,l⟩:=I.tuple u;have d:i.toArray.size=g.length:=by rw[aK];exact r.length.symm
 refine⟨"tuple",_,PyProof.Rows.slot_tuple_getitem.lookup,m.typeIs,?_⟩;refine HT.GA m y t p (by rw[d];exact w) ?_ (by rw[d];exact l);rw[d];refine⟨.ref s.heap.objs.size,_,I.laid (t':=s.toks) (o:=.tup<|nB g lo hi) (λb ob q=>ae _ q) (ah _) ?_,rfl,q _<|I.hok.fresh<|ah _⟩;exact⟨aI (zw g lo hi) l,_,(r.drop<|HT.hI g.length 0 lo).take (HT.hI g.length g.length hi - HT.hI g.length 0 lo),IsTup.new _ _⟩
def NV(K:W.Frag):R2:=λx y H Q=>∃a b g d,x=.ref a/\y=.ref b/\jA K H a g/\jA K H b d/\g≠[]/\g.length+d.length<=sizeLine/\
 (d=[]->Q (.ref a) H)/\(d≠[]->∀p,H p=none->Q (.ref p) (upd H p<|.tup<|g++d))
def Vals.wL(r:Vals xs us):us=[]↔xs=[]:=by
 cases r with
 |nil=>simp
 |cons _ _=>simp
def J4:iV X (binaryOp .Add) (NV X.K):=by intro i s G H x y v u Q I r p h;obtain⟨a,b,n,m,rfl,rfl,F,E,D,l,A,t⟩:=h;cases r;cases p;obtain⟨C,g,B,_⟩:=I.tuple F;obtain⟨k,d,j,_⟩:=I.tuple E;refine HT.EX B j (λz=>D (g.wL.mp z)) (λz=>⟨.ref a,H,I,rfl,A (d.wL.mp z)⟩) (λz=>?_) (by rw[<-g.length,<-d.length];exact l);refine⟨.ref s.heap.objs.size,_,I.laid (t':=s.toks) (o:=.tup<|n++m) (λb ob q=>ae _ q) (ah _) ?_,rfl,t (λw=>z<|d.wL.mpr w) _<|I.hok.fresh<|ah _⟩;exact⟨by rw[aq];exact l,_,g.append d,IsTup.new _ _⟩
end
def oG(n:Nat)(i:Int):Option Nat:=if 0<=i then(if i<n then some i.toNat else none)else if -(n:Int)<=i then some (i+n).toNat else none
def iM{a:Type}(b:List a)(i:Int):Option a:=(oG b.length i).bind λj=>b[j]?
def HD{n}{i:Int}(h:oG n i=some j):seqIndex? i n=some j/\j<n/\ -(n:Int)<=i/\i<n:=by
 unfold oG at h;by_cases b:0<=i
 ·rw[ai b]at h;by_cases a:i<n
  ·rw[ai a]at h;have e:i.toNat=j:=Option.some.inj h;exact⟨by rw[seqIndex_of b a,e],by omega,by omega,a⟩
  ·rw[ak a]at h;cases h
 ·rw[ak b]at h;by_cases a: -(n:Int)<=i
  ·rw[ai a]at h;have e:(i+n).toNat=j:=Option.some.inj h;exact⟨by rw[seqIndex_neg (by omega) a,e],by omega,a,by omega⟩
  ·rw[ak a]at h;cases h
def vj{b:Type}{a:List b}{i:Int}{v:b}(h:iM a i=some v):∃j,seqIndex? i a.length=some j/\a[j]?=some v/\j<a.length/\ -(a.length:Int)<=i/\i<a.length:=by
 unfold iM at h;cases e:oG a.length i with
 |none=>rw[e]at h;cases h
 |some j=>rw[e]at h;obtain⟨g,f,d,c⟩:=HD e;exact⟨j,g,h,f,d,c⟩
def Er{b:Type}{a:List b}{j:Nat}{v:b}(h:a[j]?=some v):iM a (j:Int)=some v:=by
 have c:j<a.length:=(ar.mp h).1;have e:oG a.length (j:Int)=some j:=by unfold oG;rw[ai<|by omega,ai<|by omega];simp
 unfold iM;rw[e];exact h
def yM(b:Expr):Prop:=∀o i,subscripted b false o i=operate [o,i] (getItem o i)
def mj(X:Cx)(r:R2):Prop:=
 ∀(b a:Expr) (pins:List<|Addr×Obj) (s:Shared) (σ:St) (H:Hp) (x y:V) (v u:Value) (Q:VK),Inv X pins σ H s->RelV x v->RelV y u->r x y H Q->
  subscripted a false v u=operate [v,u] (getItem v u)->wpAny (model X.prog X.w) X.A (subscriptTail b a v u) (EP X pins σ Q) X.xe s
def D6(X:Cx)(e:String)(r:V->List V->Hp->VK->Prop):Prop:=
 ∀a s b H x c v d Q,Inv X a b H s->RelV x v->Vals c d->r x c H Q->
  wpAny (model X.prog X.w) X.A (call (.builtin e)<|v::d) (EP X a b Q) X.xe s
variable{X:Cx}{a b:Expr}{P O:TE}{pos:Pos}
def mj.or{r j:R2}(h:mj X r)(l:mj X j):mj X (λx y H Q=>r x y H Q\/j x y H Q):=by
 intro c d e s f H x y v u Q I i g q k;rcases q with q|q;·exact h c d e s f H x y v u Q I i g q k
 ·exact l c d e s f H x y v u Q I i g q k
def KO(j:mj X r)(l:PE X a P)(k:PE X b O)(i:yM b):PE X (.Subscript a b pos) (uJ r P O):=by intro c s d H Q I h;exact Subscript_ (vq l k I h λv u e x y n m g f q=>j a b c e d n x y v u Q m g f q<|i _ _)
def Cc(K:W.Frag):R2:=λx y H Q=>∃p c i v,x=.ref p/\y=.int i/\jx K H p c/\iM c i=some v/\Q v H
def Ce(K:W.Frag):R2:=λx y H Q=>∃p c i v,x=.ref p/\y=.int i/\jA K H p c/\iM c i=some v/\Q v H
def Cd:R2:=λx y H Q=>∃z i c,x=.str z/\y=.int i/\z.length<=sizeLine/\iM z.cps.toList i=some c/\Q (.str ⟨#[c]⟩) H
def HG:mj X (Cc X.K):=by
 intro f g c s o H x y v u Q I F E h A;obtain⟨p,R,i,z,rfl,rfl,G,K,q⟩:=h;cases F;obtain⟨t,rfl⟩:=E;obtain⟨m,r,l,S⟩:=I.list G;obtain⟨j,e,N,U,M,L⟩:=vj K;obtain⟨w,C,k⟩:=r.get N;have J:=r.length;have T:=pP;have d:EP X c o Q w s:=⟨z,H,I,k,q⟩;by_cases B:0<=i
 ·have n:i.toNat=j:=by
   rw[seqIndex_of B L]at e;exact Option.some.inj e
  exact item_listR l.isList B (by omega) (by rw[n];simpa using C) d A
 ·have n:(i+(m.toArray.size:Int)).toNat=j:=by
   rw[seqIndex_neg (by omega) M]at e;rw[aK,<-J];exact Option.some.inj e
  exact subscriptTail_builtinR (x:=w) l.isList.typeIs slot_list_getitem.lookup
   (wpAny_getItem_list_neg (Q:=λr D=>r=w/\EP X c o Q r D) l.isList (by omega) (by rw[aK]<;>omega) (by omega) (by rw[n];simpa using C) ⟨rfl,d⟩) A
def HJ:mj X (Ce X.K):=by
 intro d e c s k H x y v u Q I o n h B;obtain⟨p,K,i,z,rfl,rfl,C,E,q⟩:=h;cases o;obtain⟨t,rfl⟩:=n;obtain⟨A,r,l,L⟩:=I.tuple C;obtain⟨j,G,F,S,R,N⟩:=vj E;obtain⟨w,J,f⟩:=r.get F;have D:=r.length;have M:=pP;have g:EP X c k Q w s:=⟨z,H,I,f,q⟩
 exact subscriptTail_builtinR (x:=w) l.typeIs slot_tuple_getitem.lookup
  (getItem_tuple (j:=j) (Q:=λr m=>r=w/\EP X c k Q r m) l (by omega) (by omega) (by rw[aK,<-D];exact G) (by simpa using J) ⟨rfl,g⟩) B
def HI:mj X Cd:=by
 intro d e f s C H x y v u Q I l k h m;obtain⟨z,i,c,rfl,rfl,E,o,q⟩:=h;obtain⟨t,rfl⟩:=l;obtain⟨D,rfl⟩:=k;obtain⟨j,g,w,G,r,p⟩:=vj o;have n:z.cps.toList.length=z.length:=by simp[Str.length]
 rw[n]at g r p;have F:=pP;exact tail_any (typeIs_str s z t) slot_str_getitem.lookup (getItem_str (c:=c) (by have B:decide (i< -(2^63:Int))=false:=aW (by omega);have A:decide (i≥2^63)=false:=aW (by omega);rw[B,A,Bool.or_false]) (by rw[g];simpa using w) ⟨.str ⟨#[c]⟩,H,I.tok _,⟨_,rfl⟩,q⟩) m
def NY(K:W.Frag):R2:=λx y H Q=>Cc K x y H Q\/Ce K x y H Q\/Cd x y H Q
def HH:mj X (NY X.K):=HG.or (HJ.or HI)
def O1(lo hi n):(sliceBounds lo hi none n).1=((HT.hI n 0 lo:Nat):Int)/\(sliceBounds lo hi none n).2.1=((HT.hI n n hi:Nat):Int)/\(sliceBounds lo hi none n).2.2=1:=by
 refine⟨?_,?_,rfl⟩
 ·cases lo with
  |none=>simp[sliceBounds,HT.hI]
  |some i=>
   simp only[sliceBounds,HT.hI,Option.getD_none,show(1:Int)>0 by decide,cB];by_cases h:i<0;·simp only[h,cB]<;>omega
   ·simp only[h,bC]<;>omega
 ·cases hi with
  |none=>simp[sliceBounds,HT.hI]
  |some i=>
   simp only[sliceBounds,HT.hI,Option.getD_none,show(1:Int)>0 by decide,cB];by_cases h:i<0;·simp only[h,cB]<;>omega
   ·simp only[h,bC]<;>omega
def O0(c:List Value)(lo hi):slicePick c.toArray lo hi none=((c.drop (HT.hI c.length 0 lo)).take (HT.hI c.length c.length hi - HT.hI c.length 0 lo)).toArray:=by obtain⟨f,e,d⟩:=O1 lo hi c.toArray.size;unfold slicePick;rw[f,e,d];simp only[sliceRange_one,pick_run,aK]<;>rfl
def N0(K:W.Frag):V->Option Int->Option Int->Hp->VK->Prop:=λx lo hi H Q=>∃a c,x=.ref a/\jx K H a c/\∀p,H p=none->Q (.ref p) (upd H p<|.lst<|nB c lo hi)
def OW:mP X (N0 X.K):=by intro e s p H x v u t lo hi w Q I g n j i h;obtain⟨a,c,rfl,m,q⟩:=h;cases g;obtain⟨k,r,f,l⟩:=I.list m;have d:=r.length;refine⟨"list",_,slot_list_getitem.lookup,f.isList.typeIs,?_⟩;refine wpAny_getItem_list_slice f.isList n j i .none (by simp) ?_ (by rw[aK]<;>omega);rw[O0,<-d];refine⟨.ref s.heap.objs.size,_,I.laid (t':=s.toks) (o:=.lst<|nB c lo hi) (λb ob q=>ae _ q) (ah _) ?_,rfl,q _<|I.hok.fresh<|ah _⟩;exact⟨aI (zw c lo hi) l,_,0,(r.drop<|HT.hI c.length 0 lo).take (HT.hI c.length c.length hi - HT.hI c.length 0 lo),aw _ rfl⟩
def EN:kd X (.builtin "len") (λj H Q=>∃p d,j=[.ref p]/\(jx X.K H p d\/jA X.K H p d)/\Q (.int d.length) H):=by
 intro k s n H j o Q I r h;obtain⟨p,d,rfl,e,q⟩:=h;obtain⟨u,rfl,l⟩:=vals1 r;cases l;have t:=pP;rcases e with e|e
 ·obtain⟨i,f,g,m⟩:=I.list e;have c:=f.length;exact Calls.call_len_list g.isList (by simp only[aK]<;>omega) ⟨.int d.length,H,I.tok _,⟨s.toks+1,by rw[aK,c]⟩,q⟩
 ·obtain⟨i,f,g,m⟩:=I.tuple e;have c:=f.length;exact len_tuple g (by simp only[aK]<;>omega) ⟨.int d.length,H,I.tok _,⟨s.toks+1,by rw[aK,c]⟩,q⟩
def EO:kd X (.builtin "len") (λc H Q=>∃z,c=[.str z]/\z.length<=sizeLine/\Q (.int z.length) H):=by intro d s e H c f Q I r h;obtain⟨z,rfl,g,q⟩:=h;obtain⟨u,rfl,t,rfl⟩:=vals1 r;have i:=pP;exact len_str (by omega) ⟨.int z.length,H,I.tok _,⟨_,rfl⟩,q⟩
def kd.or{f:Value}{r i:List V->Hp->VK->Prop}(h:kd X f r)(j:kd X f i):kd X f (λd H Q=>r d H Q\/i d H Q):=by
 intro c s e H d g Q I rs q;rcases q with q|q;·exact h c s e H d g Q I rs q
 ·exact j c s e H d g Q I rs q
def ES:kd X (.type "list") (λA H Q=>∃p f,A=[.ref p]/\(jx X.K H p f\/jA X.K H p f)/\∀l,H l=none->Q (.ref l) (upd H l<|.lst f)):=by
 intro j s C H A E Q I r h;obtain⟨p,f,rfl,m,q⟩:=h;obtain⟨u,rfl,D⟩:=vals1 r;cases D
 have v:∀(c:List Value),Vals f c->f.length<=sizeLine->∀(d:Heap) (i:Nat),(∀b B,s.heap.get? b=some B->d.get? b=some B)->
  d.get? s.heap.objs.size=some {cls:=.type "list",dict:=none,data:=.seq c.toArray i,slots:=#[]}->EP X j C Q (.ref s.heap.objs.size) {s with heap:=d}:=λc g k d i kp e=>
  ⟨.ref s.heap.objs.size,_,I.laid (t':=s.toks) kp (ah _)<|show iY X.prog X.w _ d _ (.lst f)from⟨k,c,i,g,e⟩,rfl,q _<|I.hok.fresh<|ah _⟩
 rcases m with m|m
 ·obtain⟨c,g,w,k⟩:=I.list m;have t:=g.length;obtain⟨o,x,z,n,y⟩:=w.isList;exact call_list_seq p (.inl rfl) x z y (λd i kp e=>v c g k d i kp e) (by simp only[aK]<;>omega)
 ·obtain⟨c,g,w,k⟩:=I.tuple m;have t:=g.length;obtain⟨o,x,z,n,y⟩:=w;exact call_list_seq p (.inr rfl) x z y (λd i kp e=>v c g k d i kp e) (by simp only[aK]<;>omega)
def CQ(K:W.Frag)(T:String)(x:V)(H:Hp):Prop:=match x with
 |.str _=>T="str"
 |.int _=>T="int"
 |.ref p=>(T="list"/\∃d,jx K H p d)\/(T="tuple"/\∃o,K.lookup p=some o/\o.cls=.type "tuple"/\o.dict=none)\/
   (T="dict"/\((∃c,H p=some (.dK c))\/∃c,H p=some (.dT c)))\/(T="set"/\∃S n,H p=some (.set S n))
 |_=>False
def Qg{v}(I:Inv X pins σ H s)(r:RelV x v)(ty:CQ X.K T x H):
    s.TypeIs v T/\∀a,v=.ref a->∃ob,s.heap.get? a=some ob/\ob.dict=none:=by
 cases x with
 |str z=>obtain⟨t,rfl⟩:=r;cases(show T="str" from ty);exact⟨typeIs_str s z t,λ_ e=>nomatch e⟩
 |int i=>obtain⟨t,rfl⟩:=r;cases(show T="int" from ty);exact⟨typeIs_int s i t,λ_ e=>nomatch e⟩
 |ref p=>
  cases r;rcases ty with⟨rfl,q,l⟩|⟨rfl,o,d,m,g⟩|⟨rfl,d⟩|⟨rfl,S,n,d⟩
  ·obtain⟨k,_,j,_⟩:=I.list l;refine⟨j.isList.typeIs,λa e=>?_⟩;cases e;obtain⟨o,n,e,c,g,_⟩:=j;exact⟨o,e,g⟩
  ·refine⟨⟨o,I.j6 p o d,m⟩,λa e=>?_⟩;cases e;exact⟨o,I.j6 _ o d,g⟩
  ·have z:∃o,s.heap.get? p=some o/\o.ExactDict:=by
    rcases d with⟨f,d⟩|⟨f,d⟩
    ·obtain⟨_,_,_,_,o,_,_,e,ex,_⟩:=I.hok p _ d;exact⟨o,e,ex⟩
    ·obtain⟨_,_,_,_,o,_,_,e,ex,_⟩:=I.hok p _ d;exact⟨o,e,ex⟩
   obtain⟨o,e,ex⟩:=z;refine⟨⟨o,e,ex.1⟩,λa h=>?_⟩;cases h;exact⟨o,e,ex.2.1⟩
  ·obtain⟨o,_,_,_,e,ex,_⟩:=I.hok p _ d;refine⟨⟨o,e,ex.1⟩,λa h=>?_⟩;cases h;exact⟨o,e,ex.2.1⟩
 |_=>exact False.elim ty
def Pg(K:W.Frag)(T:String)(r:V->List V->Hp->VK->Prop)(f:TE)(t:TA):TE:=λc H Q=>f c H λx d=>CQ K T x d/\t c d λe g=>r x e g Q
variable{o e:Expr}{M:List Expr}{N:TE}{t:TA}{E:Str}{L C:Pos}{T J:String}{r:V->List V->Hp->VK->Prop}
def By(F:PlainAttrs T)(i:Slot T E J)(l:typeOf (.builtin J)=pure (.type "method_descriptor"))(R:D6 X J r)(K:PE X o N)(S:PA X (e::M) t)
 (g:attributeBase o E X.env (eval o X.env)=eval o X.env:=by rfl)
 (j:((backTo C (starEach (e::M) X.env)).all (λx=>!x.1)&&(backToKw C (keywordEach [] X.env)).all (λx=>x.1.isSome)
 &&decide ((e::M).length+([]:List Keyword).length+(if([]:List Keyword).isEmpty then 0 else 1)<30))=true:=by rfl)
 (f:(L.endLine==C.line)=true:=by rfl)(G:X.se e M:=by rfl)(d:(backTo C<|starEach M X.env).any (·.1)=false:=by rfl):
   PE X (.Call (.Attribute o E L) (e::M) [] C) (Pg X.K T r N t):=by
  intro c s k H Q I h;refine wpAny_Call_method_late g j f rfl (g8 (K c s k H _ I h) λv z m=>?_);obtain⟨x,H1,q,n,ty,D⟩:=m;obtain⟨W,U⟩:=Qg q n ty;refine⟨T,J,F,i,l,W,U,?_⟩;have p:=S C c z k H1 _ q D;rw[G]at p⊢;refine Calls.callWith_builtin (by show(false||(backTo C (starEach M X.env)).any (·.1))=false;rw[d]<;>rfl) (Calls.evalArgs_plain ?_);exact g8 p λw y ⟨u,Z,Y,A,B⟩=>R c y k Z x u v w Q Y n A B
def D5(X:Cx)(J:String)(r:V->List V->Hp->VK->Prop):Prop:=
 ∀c s d H x f v g Q,Inv X c d H s->RelV x v->Vals f g->r x f H Q->
  wpAny (model X.prog X.w) X.A (call (.builtin J)<|v::g) (EP X c d Q) X.xe s
def Vals.one:∀{x} {c},Vals [x] c->∃u,c=[u]/\RelV x u
 |_,_,.cons r .nil=>⟨_,rfl,r⟩
variable{k:List<|Addr×Obj}{A:St}{H:Hp}{s:Shared}{l b:Addr}{m B U:List V}
def Inv.IH{c its':List Value}{n}{f:Array Value->Array Value}{d:Nat}(I:Inv X k A H s)(p:H l=some (.lst m))
 (e:s.heap.get? l=some {cls:=.type "list",data:=.seq c.toArray n})(hf:f c.toArray=its'.toArray)(h:Vals B its')(g:B.length<=sizeLine):
   Inv X k A (upd H l<|.lst B) {s with heap:=s.heap.update l<|Obj.mapSeq f,toks:=d}:=by
  have q:=PySem.IsL.update e f;rw[hf]at q;refine I.write (x:=l) (e:=l) (by rw[p];exact trivial) (.inl rfl) (λv u j i=>(bB s.heap (Obj.mapSeq f)<|cA j).trans i) ⟨_,q⟩ ?_;exact⟨g,its',_,h,q⟩
def Inv.IC{t':Nat}(I:Inv X k A H s)(d:Vals B wh)(c:B.length<=sizeLine):
    Inv X k A (upd H s.heap.objs.size<|.lst B) {s with heap:=s.heap.push {cls:=.type "list",data:=.seq wh.toArray},toks:=t'}:=
 I.laid (λ_ _ q=>ae _ q) (ah _) ⟨c,wh,0,d,aw _ rfl⟩
def Inv.fresh(I:Inv X k A H s):H s.heap.objs.size=none:=I.hok.fresh (ah _)
def Inv.II(I:Inv X k A H s)(d:H l=some (.lst m)):m.length<=sizeLine/\∃(c:List Value) (n:Nat),Vals m c/\m.length=c.length/\s.heap.get? l=some {cls:=.type "list",data:=.seq c.toArray n}:=by obtain⟨z,c,n,r,e⟩:=I.hok l _ d;exact⟨z,c,n,r,r.length,e⟩
def NR:V->List V->Hp->VK->Prop:=λx c H Q=>∃l m y,x=.ref l/\c=[y]/\H l=some (.lst m)/\m.length<sizeLine/\Q .non (upd H l<|.lst<|m++[y])
def tP:D5 X "list.append" NR:=by intro k s A H x j v p Q I f g h;obtain⟨l,m,y,rfl,rfl,d,w,q⟩:=h;cases f;obtain⟨u,rfl,i⟩:=g.one;obtain⟨z,c,n,r,D,e⟩:=I.II d;refine call_meets dN ⟨_,e,rfl⟩ F.entry_list_append (F.args_list_append_2 _ _) (PySem.list_append l c.toArray n u (by rw[aK];omega)) ⟨e,?_⟩;refine⟨.non,_,I.IH (its':=c++[u]) d e (by simp) (r.append<|.cons i .nil) ?_,rfl,q⟩;rw[aq,bq];omega
end L2
namespace yz
open PySem PySem.W PySem.Calls PyProof.Rows
def Hr:∀(c:List Int) vs,WellAll P h vs (c.map WData.int)->IntsAre vs c:=by
 intro c;induction c with
 |nil=>intro vs w;rw[cg]at w;cases w;exact .nil
 |cons n c d=>
  intro vs w;rw[aE]at w;cases w with
  |cons a b=>cases a;exact .cons _ _ (d _ b)
def OI{l:OpenLaw}{n}(v:l.most=some n){vals}
 (c:l.row.toRowW.claim.pre args=true)(j:WellAll P h vals args):
   ∃a m b,vals=[Value.ref a]/\args=[WData.list<|b.map WData.int]/\h.get? a=some {cls:=.type "list",data:=.seq m.toArray}/\IntsAre m b/\b.length<=n:=by
  have k:WShape.hasAll [] args [.list .int]=true:=(pre_splitW c).1;have o:l.pre.holds [] {args:=args}=true:=(pre_splitW c).2;obtain⟨d,r,rfl,y,x⟩:=hasAllW_cons k;obtain rfl:=hasAllW_nil x;obtain⟨z,rfl,w⟩:=hasW_list y;obtain⟨b,rfl⟩:=items_int w;have e:b.length<=n:=by
   unfold OpenLaw.pre at o;have i:(WTm.not<|.lt (.lit<|.int (n:Int))<|.len<|.arg 0).holds [] {args:=[.list<|b.map .int]}=true:=by have i:=(holds_andW o).1;rw[v]at i;exact i
   have g:=condW_of i (w_not<|w_lt w_lit<|w_len_list<|w_arg rfl);rw[aD]at g;refine Nat.le_of_not_lt λq=>?_;have t:(n:Int)<((b.length:Nat):Int):=by omega
   first
    |(rw[aV t]at g;exact absurd g (by decide))
    |(simp at g;omega)
  cases j with
  |cons s p=>
   cases p;cases s with
   |list u f=>exact⟨_,_,b,rfl,rfl,u,Hr b _ f,e⟩
def Le(l:OpenLaw)(args):l.row.toRowW.claim.post args (.bool true) args=true:=
 postW_of (r:=l.row.toRowW) (X:=(true==true))
  (show WShape.has [] (.bool true) .bool=true by first|rfl|decide|simp[WShape.has,WShape.arms,WShape.armsAll])
  (show(WTm.eq .res<|.lit<|.bool true).value [] {args:=args,res:=some<|.bool true,after:=args}=some (.bool<|true==true)from w_eq_bool (w_res rfl) w_lit) rfl
def Ew{l:OpenLaw}{n XP}{y:World->Heap->Prop}{d:DefRec}
 (C:l.most=some n)(s:d.params.defaults=[])
 (call:∀w (c b:Shared) mg mb fa o pm cd doc a (g:List Value) ns,
 Ground q loose [] XP w c mg mb b.heap->y w b.heap->
 b.heap.get? fa=some o->o.data=.func (docDef d.name d.params d.body d.scope pm cd doc)->b.heap.CodeRec cd d.name->mg d.name=some (.ref fa)->
 b.heap.get? a=some {cls:=.type "list",data:=.seq g.toArray}->IntsAre g ns->ns.length<=n->b.gens=#[]->
 codeAny (model l.prog w) callerA (.call (.ref fa) ⟨[.ref a],[]⟩) (λr k=>r=.ok (.ret (.bool true))/\OldK b.heap k.heap/\k.os=b.os/\AllBare k.gens) b):
  WalkO q loose XP y l.row.toRowW d [] (λf g=>PySem.call f g):=by
  intro w c b mg mb G Y fa o pm cd doc dV kV B H t v p F x vals L h u z m E;obtain rfl:dV=.none:=Dflts.none v s;obtain rfl:kV=.none:=Dflts.noKw v;obtain⟨a,g,ns,rfl,rfl,i,e,j⟩:=OI C h m;refine enter_call (dM (call w c b mg mb fa o pm cd doc a g ns G Y B (fd_plain H) t p i e j F) λr k A=>?_);obtain⟨rfl,K,J,I⟩:=A;exact⟨.inl ⟨.bool true,.bool true,[],rfl,λ_=>rfl,.bool true,Le l _,λ_=>⟨List.Pairwise.nil,λ_ D=>(nomatch D)⟩⟩,K,J,I⟩
end yz
namespace L2
open PySem PySem.Spec PyProof.Rows
theorem CW:∀{a} {b},IntsAre a b->Vals (b.map V.int) a
 |_,_,.nil=>.nil
 |_,_,.cons n t h=>.cons ⟨t,rfl⟩ (CW h)
def kC(s:Stmt):Arguments:=match s with
 |.FunctionDef _ a _ _ _ _ _ _ _ _=>a
 |_=>{posonlyargs:=[],args:=[],vararg:=none,kwonlyargs:=[],kw_defaults:=[],kwarg:=none,defaults:=[]}
def jK(s:Stmt):List Stmt:=match s with
 |.FunctionDef _ _ b _ _ _ _ _ _ _=>b
 |_=>[]
def hY(s:Stmt):Scope:=match s with
 |.FunctionDef _ _ _ _ _ _ sc _ _ _=>sc
 |_=>{kind:=.function,names:=[],isGenerator:=false,isCoroutine:=false}
abbrev E0:XK:=λ_ _ _=>False
structure iK(K:W.Frag)(x qual:Str)(st:Stmt)(f:Addr)(fd:FuncData):Prop where
 ex:∃oc od kV doc pm an cdv ct Bw,
  fd=W.fnOf x qual (kC st) (jK st) (hY st) .none kV doc pm an cdv ct/\K.lookup f=some ⟨oc,od,.func fd,Bw⟩/\W.codeIn K cdv qual=true
 kp:W.keepIn K (.ref f)=true
variable{P:Program}{w:World}{K:W.Frag}{i:iw}{e:Heap}
def iK.binds{x a:Str}{d:Stmt}{f:Addr}{l:FuncData}{ps:List Str}(F:iK K x a d f l)
    (h:∀(kV b j:Value) (k:Option Addr) (c ct:Value) (g:List Value),g.length=ps.length->bindArgs (W.fnOf x a (kC d) (jK d) (hY d) .none kV b j k c ct) ⟨g,[]⟩=pure (ps.zip g)):Binds K l ps []:=by
 obtain⟨p,o,kV,b,j,k,c,ct,m,rfl,q,n⟩:=F.ex;exact .all (h kV b j k c ct)
def th{x a:Str}{st:Stmt}{f:Addr}{n:Value}{m j:Option Addr}{g:Array<|Option Value}{kV d h b ct:Value}(l:K.lookup f=some ⟨n,m,.func<|W.fnOf x a (kC st) (jK st) (hY st) .none kV d h j b ct,g⟩)
    (c:W.codeIn K b a=true)(k:W.keepIn K (.ref f)=true):iK K x a st f (W.fnOf x a (kC st) (jK st) (hY st) .none kV d h j b ct):=⟨⟨n,m,kV,d,h,j,b,ct,g,rfl,l,c⟩,k⟩
def oE{A B:Prop}(h:B):if false=true then A else B:=by rw[ak aA];exact h
def oF{A B:Prop}(h:A):if true=true then A else B:=by rw[ai rfl];exact h
def iH(H a:Hp):Prop:=∀b o,H b=some o->a b=some o
end L2
namespace Fx
open PySem
def zK(o:Obj)(f):(o.mapFields f).dict=o.dict:=by rcases o with⟨c,d,dt,a⟩;cases dt<;>rfl
def Dk(h:Heap)(e:Addr)(d:Option Addr):Prop:=∀b,d=some b->∃a,h.get? e=some a/\a.dict=some b
def kU(B:Heap)(l:List Env)(e:Addr)(a:Value)(d:Option Addr)(h:Heap):Prop:=
 (∃b,Heap.FlyingW B l e a b h)/\Dk h e d
def rZ(B:Heap)(l:List Env)(e:Addr)(a:Value)(d:Option Addr)(L:Addr)(h:Heap):Prop:=
 (∃b,Heap.HeldW B l e a b L h)/\Dk h e d
def zM{h:Heap}{d}(c:h.get? b=some o)(l:o.data=.fields vs)(k:Dk h e d):
    Dk (h.update b<|Obj.mapFields f) e d:=by
 intro m j;obtain⟨i,a,g⟩:=k m j;by_cases q:b=e
 ·subst q;rw[c]at a;cases a;exact⟨_,ba _ c<|bE<|bb l f,by rw[zK];exact g⟩
 ·exact⟨i,by rw[bB _ _ q];exact a,g⟩
variable{M:Model}{A:Around}{E:ia}{s:Shared}{B:Heap}{a:Env}{outer l:List Env}{L e:Addr}{cls:Value}{d:Option Addr}{Q:Unit->Shared->Prop}
def zY(x:A.frames=some (a::outer))(w:s.heap.FunFrames B<|a::outer)(hf:a.frame=some L)
 (u:s.heap.get? e=some oe)(O:B.StaysIn s.heap)(J:B.get? e=none)(v:oe.data=.fields vs)(H:1<vs.size)(T:vs[0]?=some a0)(dk:Dk s.heap e d)
 (S:∀C,rZ B (a::outer) e oe.cls d L C->s.heap.UpToSlots C->Q () {s with heap:=C}):
   wpAny M A (do
    let fr<-frameOf a
    let at_<-entryPlaceOf L more
    let N<-EntryCells.newEntry head fr .none (rawInt L) .none at_
    setField (.ref e) 1 N) Q E s:=by
  have ne:e∉(a::outer).filterMap (·.frame):=λz=>by obtain⟨_,V,r,D⟩:=w.mem z;rw[u]at r;cases r;exact D vs v
  refine aa (wpAny_frameOf_fun x w hf λf t=>?_);refine aa (wpAny_entryPlaceOf λc ok=>?_);unfold EntryCells.newEntry newFields;refine aa (aT ?_ (ok.sizeOk5 _ _ _ _ _));have n:f.get? e=some oe:=by rw[t.2.1 e ne];exact u
  have i:B.StaysIn f:=λb o q=>by rw[t.2.1 b λz=>by rw[(w.mem z).1]at q;cases q];exact O b o q
  generalize I:({cls:=.type "traceback",dict:=none,data:=.fields ([head,.ref L,.none,rawInt L,.none]++(if c.isEmpty then List.replicate 6 Value.none else c)).toArray}:Obj)=rK;have m:(f.push rK).get? e=some oe:=ae _ n;refine bN m v H (S _ ?_ ?_)
  all_goals
   have G:f.objs.size≠e:=cc (Heap.lt_size n);have keep:∀b o,b≠e->f.get? b=some o->((f.push rK).update e (Obj.mapFields (·.setIfInBounds 1 (Value.ref f.objs.size)))).get? b=some o:=λb o P g=>by rw[bB _ _<|cA P];exact ae _ g
   have h:∀b o,s.heap.get? b=some o->(∀K,o.data≠.fields K)->b≠e:=λb o g j z=>by subst z;rw[u]at g;cases g;exact j vs v
  ·have p:=bb v (·.setIfInBounds 1 (Value.ref f.objs.size));have k:=ba (Obj.mapFields (·.setIfInBounds 1 (Value.ref f.objs.size))) m (bE p);have y:((f.push rK).update e (Obj.mapFields (·.setIfInBounds 1 (Value.ref f.objs.size)))).get? f.objs.size=some rK:=by
    rw[bB _ _<|cA G];exact aw f (by rw[<-I];rfl)
   refine⟨⟨a0,λb o q=>keep b o (λz=>by rw[z,J]at q;cases q)<|i b o q,J,w.of_keeps λb o g j=>?_,?_⟩,λU R=>?_⟩
   ·obtain⟨F,z⟩:=t.2.2 b o g;exact⟨_,keep b _ (h b o g j) z,rfl⟩
   ·refine⟨_,_,f.objs.size,rK,_,k,⟨c7 _ _,?_⟩,p,by simp[H],i.fresh,G,y,by rw[<-I],?_⟩;·rw[dY<|by decide];exact T
    ·rcases ok with z|⟨_,_,_,_,_,_,_,z⟩<;>(rw[z];simp)
   ·obtain⟨W,r,D⟩:=dk U R;rw[u]at r;cases r;exact⟨_,k,by rw[zK];exact D⟩
  ·intro b o g j;obtain⟨F,z⟩:=t.2.2 b o g;exact⟨F,keep b _ (h b o g j) z⟩
def Gj(k:A.frames=some (a::outer))(hf:a.frame=some L)(x:kU B (a::outer) e cls d s.heap)
 (y:∀j,rZ B (a::outer) e cls d L j->s.heap.UpToSlots j->Q () {s with heap:=j}):wpAny M A (noteFrame (.ref e) a) Q E s:=by
  obtain⟨⟨O,u,G,F,K,J,T,N,t,m,⟨w,D⟩,n,j,H,I,hT,f,p⟩,dk⟩:=x;subst w;unfold noteFrame;simp only[hf];refine aa (dH m n j ?_);rw[ai<|by simp];refine aa (dH hT f p ?_);rw[ak<|by simp[rawInt]];refine aa (bN hT f (bg.mp p).1 ?_);have c:∀b,b≠T->(s.heap.update T (Obj.mapFields (·.setIfInBounds 3 Value.none))).get? b=s.heap.get? b:=λb z=>bB _ _ (cA z);have g:∀b o,s.heap.get? b=some o->(∀r,o.data≠.fields r)->b≠T:=λb o h i z=>by subst z;rw[hT]at h;cases h;exact i t f
  refine zY (s:={s with heap:=s.heap.update T (Obj.mapFields (·.setIfInBounds 3 Value.none))}) k (F.of_keeps λb o h i=>⟨o,by rw[c b<|g b o h i];exact h,rfl⟩) hf
   (by rw[c e<|cA I];exact m) (λb o q=>by rw[c b λz=>by rw[z,H]at q;cases q];exact u b o q) G n (bg.mp j).1 D (zM hT f dk) λC v up=>?_
  exact y C v λb o h i=>up b o (by rw[c b<|g b o h i];exact h) i
def Od{f:Obj}{c:Array Value}{p:Value}(g:A.frames=some (a::outer))(n:s.heap.FunFrames B<|a::outer)(hf:a.frame=some L)(h:s.heap.get? e=some f)(j:B.StaysIn s.heap)
    (o:B.get? e=none)(i:f.data=.fields c)(b:c[1]?=some .none)(m:c[0]?=some p)(dk:Dk s.heap e d)
    (k:∀b,rZ B (a::outer) e f.cls d L b->s.heap.UpToSlots b->Q () {s with heap:=b}):wpAny M A (noteFrame (.ref e) a) Q E s:=by
 unfold noteFrame;simp only[hf];refine aa (dH h i b ?_);rw[ak<|by decide];exact zY g n hf h j o i (bg.mp b).1 m dk k
def Io(y:B.StaysIn s.heap)(I:B.get? e=none)(H:s.heap.FunFrames B l)(x:s.heap.TracedAtW B e cls a0 fl)(dk:Dk s.heap e d)
 (F:∀j,kU B l e cls d j->s.heap.UpToSlots j->Q () {s with heap:=j}):wpAny M A (setFlight (.ref e) none) Q E s:=by
  obtain⟨C,w,T,J,n,p,D,r,j,t,u,hT,c,G⟩:=x;have m:3<n.size:=(bg.mp G).1;unfold setFlight;refine aa (dH p r j ?_);rw[ai<|by simp];refine bN hT c m (F _ ⟨⟨a0,?_⟩,zM hT c dk⟩ ?_)
  all_goals
   have g:∀b,b≠T->(s.heap.update T (Obj.mapFields (·.setIfInBounds 3 ((none:Option Addr).elim Value.none λf=>rawInt f)))).get? b=s.heap.get? b:=λb z=>bB _ _ (cA z);have h:∀b o,s.heap.get? b=some o->(∀v,o.data≠.fields v)->b≠T:=λb o i k z=>by subst z;rw[hT]at i;cases i;exact k n c
  ·refine⟨λb o q=>by rw[g b λz=>by rw[z,t]at q;cases q];exact y b o q,I,H.of_keeps λb o i k=>⟨o,by rw[g b<|h b o i k];exact i,rfl⟩,?_⟩;exact⟨C,w,T,_,_,by rw[g e<|cA u];exact p,D,r,j,t,u,ba _ hT<|bE<|bb c _,bb c _,by simp[m]⟩
  ·exact λb o i k=>⟨o.slots,by rw[g b<|h b o i k];exact i⟩
def AA(x:rZ B l e cls d L s.heap)(g:∀b,kU B l e cls d b->s.heap.UpToSlots b->Q () {s with heap:=b}):wpAny M A (setFlight (.ref e) none) Q E s:=by obtain⟨⟨j,f,i,h,c⟩,dk⟩:=x;exact Io f i h c dk g
def kU.less(x:kU B (a::outer) e cls d s.heap):kU B outer e cls d s.heap:=by obtain⟨⟨h,c,g,⟨_,_,f⟩,b⟩,dk⟩:=x;exact⟨⟨h,c,g,f,b⟩,dk⟩
def Gi(c:A.frames=some (a::outer))(hf:a.frame=some L)(x:kU B (a::outer) e cls d s.heap)
 (k:∀b,kU B outer e cls d b->s.heap.UpToSlots b->Q () {s with heap:=b}):wpAny M A (leaving a<|.ref e) Q E s:=by unfold leaving;exact aa (Gj c hf x λb h j=>AA (s:={s with heap:=b}) h λf g i=>k f (kU.less (s:={s with heap:=f}) g)<|j.trans i)
def Oc{f:Obj}{c:Array Value}{w:Value}(g:A.frames=some (a::outer))(u:s.heap.FunFrames B<|a::outer)(hf:a.frame=some L)(o:s.heap.get? e=some f)(n:B.StaysIn s.heap)
    (v:B.get? e=none)(p:f.data=.fields c)(b:c[1]?=some .none)(t:c[0]?=some w)(dk:Dk s.heap e d)
    (q:∀b,kU B outer e f.cls d b->s.heap.UpToSlots b->Q () {s with heap:=b}):wpAny M A (leaving a<|.ref e) Q E s:=by
 unfold leaving;exact aa (Od g u hf o n v p b t dk λr j m=>AA (s:={s with heap:=r}) j λh i k=>q h (kU.less (s:={s with heap:=h}) i)<|m.trans k)
end Fx
set_option maxHeartbeats 4000000
namespace L2
open PySem PySem.Spec PyProof.Rows Fx
def hZ(P:Program)(w:World):lh:=λa H s E e c=>
 ∃g b d h B,e=.ref g/\c.os=s.os/\AllBare c.gens/\kU B a g b d c.heap/\
  (∀f:Heap,B.StaysIn f->c.heap.UpToSlots f->Un (frs a) [] H h s.heap f/\iL P w h f)/\h g=none/\s.heap.get? g=none/\E b d h
structure yL(X:Cx)(pins:List<|Addr×Obj)(e:Addr):Prop where
 old:X.s₀.heap.get? e=none
 pin:∀p∈X.pn++pins,p.1≠e
 loc:e≠X.env.locals
 Rq:∀x c,X.env.cells.lookup x=some c->c≠e
 frm:e∉X.fs
def XP(X:Cx)(a:List<|Addr×Obj)(i:St)(R:XK)(e:Value)(f:Shared):Prop:=
 ∃c b d h B,e=.ref c/\kU B X.stack c b d f.heap/\
  (∀g:Heap,B.StaysIn g->f.heap.UpToSlots g->Inv X a i h {f with heap:=g})/\h c=none/\yL X a c/\R b d h
section
variable{X:Cx}{a:List<|Addr×Obj}{f:St}{H:Hp}{s s':Shared}{e:Value}{E:XK}
def Inv.Jj(I:Inv X a f H s)(n:s.heap.get? ea=none)(g:X.ex=[]):yL X a ea:=by
 have z:∀b o,s.heap.get? b=some o->b≠ea:=λb o q w=>by rw[w,n]at q;cases q
 refine⟨?_,λp i=>z _ _ (I.pin p i).1,λw=>?_,λx c j=>?_,λk=>?_⟩
 ·cases q:X.s₀.heap.get? ea with
  |none=>rfl
  |some o=>obtain⟨l,h⟩:=I.base.there ea o q (by rw[g];simp);rw[n]at h;cases h
 ·obtain⟨m,⟨o,_,_,d,_⟩,_⟩:=I.loc;exact z _ _ d w.symm
 ·obtain⟨v,o,d,_⟩:=I.cell x c j;exact z _ _ d
 ·obtain⟨_,o,d,_⟩:=I.lP.mem k;exact z _ _ d rfl
def Qz(I:Inv X a f H s)(h:hZ X.prog X.w X.stack H s E e s')(i:X.ex=[]):XP X a f E e s':=by obtain⟨q,j,d,u,B,rfl,m,c,o,r,p,fr,n⟩:=h;refine⟨q,j,d,u,B,rfl,o,λk t l=>?_,p,I.Jj fr i,n⟩;obtain⟨un,g⟩:=r k t l;exact I.vB (s':={s' with heap:=k}) (ch:=[]) m un g c λb z=>absurd z (by simp)
end
def iY.there{w}(x:iY P w H h a o):∃ob,h.get? a=some ob:=by
 cases o with
 |lst c=>obtain⟨_,_,_,_,q⟩:=x;exact⟨_,q⟩
 |tup c=>obtain⟨_,_,_,ob,q,_⟩:=x;exact⟨_,q⟩
 |dK b=>obtain⟨_,_,_,_,ob,_,_,q,_⟩:=x;exact⟨_,q⟩
 |dT b=>obtain⟨_,_,_,_,ob,_,_,q,_⟩:=x;exact⟨_,q⟩
 |set S n=>obtain⟨ob,_,_,_,q,_⟩:=x;exact⟨_,q⟩
 |ins C g fs=>obtain⟨_,_,_,q,_⟩:=x;exact⟨_,q⟩
 |own y=>exact x
 |xd fs=>obtain⟨_,⟨_,_,_,q,_⟩,_⟩:=x;exact⟨_,q⟩
 |uv lo hi=>obtain⟨_,_,_,q⟩:=x;exact⟨_,q⟩
 |jD ob u=>obtain⟨q,_⟩:=x;exact⟨_,q⟩
 |iO e=>exact⟨_,(show h.get? a=some _ from x)⟩
 |met f y=>exact⟨_,(show h.get? a=some _ from x)⟩
 |ext d=>obtain⟨_,q,_⟩:=x;exact q
def iL.no{w}(x:iL P w H h)(n:h.get? a=none):H a=none:=by
 cases q:H a with
 |none=>rfl
 |some o=>obtain⟨ob,z⟩:=(x a o q).there;rw[n]at z;cases z
section
variable{P:Program}{w:World}{K:W.Frag}{r:iw}{p:Heap}{N:List Str}{c:Str}{m:Scope}{f:Addr}{M:Value}{A:Around}{outer:List Env}{s:Shared}{H:Hp}{E:XK}
def iT:Passes (hZ P w) (iz (hZ P w) P w K r p N c m f M A outer s H E) E:=λn D Q F e l I h=>by obtain⟨q,j,d,C,B,rfl,o,z,y,v,x⟩:=Qz I h rfl;have J:=λb g a=>z b g a;obtain⟨O,u,_⟩:=o.1;have t:=J l.heap u (Heap.UpToSlots.refl _);show wpAny _ _ (leaving _<|.ref q) _ _ l;refine Gi (outer:=outer) (L:=s.heap.objs.size) I.ok.frames rfl o λG i k=>?_;exact⟨q,j,d,C,B,rfl,t.os,t.bare,i,λb g a=>⟨(J b g<|k.trans a).base,(J b g<|k.trans a).hok⟩,y,v.old,x⟩
def Oh{d}
 (I:Inv (iz (hZ P w) P w K r p N c m f M A outer s H E) pins σ H2 s2)(Y:s2.heap.get? e=some oe)(fr:s.heap.get? e=none)(Z:oe.data=.fields vs)(h1:vs[1]?=some .none)(h0:vs[0]?=some a0)
 (dk:Dk s2.heap e d)(Q:H2 e=none)(hE:E oe.cls d H2):(iz (hZ P w) P w K r p N c m f M A outer s H E).xe (.ref e) s2:=by
  let X:=iz (hZ P w) P w K r p N c m f M A outer s H E
  let B:=W.hideAll s2.heap (e::frs X.stack)
  have T:B.StaysIn s2.heap:=λb o q=>W.of_hideAll _ q;have fe:B.get? e=none:=W.hideAll_none _ (List.Mem.head _);have ff:s2.heap.FunFrames B X.stack:=W.funFrames_hide I.stack λF V b g=>List.Mem.tail _ (cV.mpr ⟨F,V,g⟩);show wpAny _ _ (leaving _ (.ref e)) _ _ s2;refine Oc (B:=B) (outer:=outer) (L:=s.heap.objs.size) I.ok.frames ff rfl Y T fe Z h1 h0 dk λh3 D S=>?_;refine⟨e,oe.cls,d,H2,B,rfl,I.os,I.bare,D,λC b5 R=>?_,Q,fr,hE⟩;have up:s2.heap.UpToSlots C:=S.trans R;have keep:∀b o,s2.heap.get? b=some o->b≠e->b∉frs X.stack->C.get? b=some o:=λb o q v t=>b5 b o (W.hideAll_get _ q λz=>by
   rcases aF.mp z with z|z;· exact v z
   · exact t z)
  have h:∀b o,H2 b=some o->b≠e/\b∉frs X.stack:=λb o q=>⟨λz=>(by subst z;rw[Q]at q;cases q),λz=>(by rw[I.uG b z]at q;cases q)⟩;have l:∀b o,s.heap.get? b=some o->b∉frs outer->b≠e/\b∉frs X.stack:=λb o q n=>⟨λz=>(by subst z;rw[fr]at q;cases q),λz=>(aF.mp (I.rJ b z)).elim (λz=>absurd (Heap.lt_size q) (by rw[z];exact bj _)) (λz=>n z)⟩;have i:∀b o,s2.heap.get? b=some o->b∈frs outer->∃J,C.get? b=some {o with slots:=J}:=λb o q g=>by obtain⟨_,o2,j,U⟩:=I.lP.mem g;rw[q]at j;cases j;exact up b o q U
  refine⟨⟨λb o q n g _=>?_,λb o q n g _=>?_,λb o q n y=>I.base.free b o q n y,λb o q y=>?_,I.base.tups,I.base.lO,I.base.m8⟩,λa o G=>?_⟩
  ·obtain⟨v,t⟩:=l b o q g;exact keep b o (I.base.keep b o q n g (by intro z;exact absurd (show b∈([]:List Addr)from z) (by simp))) v t
  ·obtain⟨J,x⟩:=I.base.slot b o q n g (by intro z;exact absurd (show b∈([]:List Addr)from z) (by simp));obtain⟨k,j⟩:=i b _ x g;exact⟨k,j⟩
  ·obtain⟨O,x⟩:=I.base.there b o q y;by_cases g:b∈frs outer
   ·obtain⟨k,j⟩:=i b _ x g;exact⟨_,j⟩
   ·obtain⟨v,t⟩:=l b o q g;exact⟨O,keep b O x v t⟩
  ·refine(I.hok a o G).oT (λb u g q=>?_) (λ_ q=>q) λ_ _ q=>q;rcases g with rfl|g;·exact keep b u q (h b _ G).1 (h b _ G).2
   ·exact keep b u q (h b _ g).1 (h b _ g).2
def Ge{K:W.Frag}(X:K.In h)(q:W.excIn K C qI newId=true):
    ∃u N y x bs g v sub B d dd t o k j i D,h.get? C=some (excClassObj y x C N bs u g v sub B d dd t o k j i newId)/\h.Ns N D/\D "__init__"=none/\OwnTail h qI u:=by
 unfold W.excIn at q;split at q
 next dd M sl ho=>
  split at q
  next C' u t o k j n i hm hs=>
   simp only[aN,dg,Bool.not_eq_true']at q;obtain⟨⟨⟨⟨⟨rfl,rfl⟩,a⟩,tl⟩,b⟩,e⟩:=q;rcases M with⟨y,bs,G,F,x,z,v,sub,B,d,J⟩;dsimp only at hm a b e;subst hm a;have I:sl=#[t,o,k,j,some (.builtin n),i]:=by rcases sl with⟨l⟩;simp only at hs;rw[hs]
   subst I;exact⟨u,F,y,x,bs,z,v,sub,B,d,dd,t,o,k,j,i,_,X _ _ ho,.of_isNs<|W.isNs_of_in X b,W.nsMap_none_of_in X b e,W.tail_of_in X tl⟩
  next=>cases q
 next=>cases q
def Px(E:XK)(C:Addr):TS:=λ_ _ H=>E (.ref C) none H
def Lj{pos}(l:ExcBaseFacts B newId Hq qI)(q:W.excIn K C qI newId=true)
 (v:Gl (iz (hZ P w) P w K r p N c m f M A outer s H E) x)(u:r x=some (.ref C))(d:jc x):
   PS (iz (hZ P w) P w K r p N c m f M A outer s H E) (.Raise (some<|.Call (.Name x np) [] [] cpos) none pos) (Px E C):=by
  intro a g n O D I h;obtain⟨bm,NS,T,R,bs,j,Q,sub,ab,J,dd,Z,Y,X,V,U,mN,hC,hN,b,k⟩:=Ge I.j6 q;refine wpAny_Raise_call_subT (bm:=bm) l (mN:=mN) (k.hasType l.hasBase) (I.ok.hd rfl) rfl b (wy I v u ⟨rfl,evalArgs_empty ⟨rfl,bD _,hC,hN,k,λG e mk=>?_⟩⟩ d);obtain⟨t,F,_,_⟩:=mk.there;have L:Inv (iz (hZ P w) P w K r p N c m f M A outer s H E) a n O {g with heap:=G}:=I.kept (t':=g.toks) mk.keeps;refine Oh L F ?_ rfl rfl rfl (by intro dx z;cases z) (I.hok.no mk.new) h;cases z:s.heap.get? e with
  |none=>rfl
  |some o=>obtain⟨S,i⟩:=I.base.there e o z (by intro y;exact absurd (show e∈([]:List Addr)from y) (by simp));rw[mk.new]at i;cases i
def iK.wQ{x c:Str}{e:Stmt}{f:Addr}{l:FuncData}{N h:List Str}{k:Nat}{g:Sp}(F:iK K x c e f l)(S:i3 N h<|hY e)(len:∀b H Q E,g b H Q E->b.length=h.length)
    (d:∀(a:Value) (A:Around) (outer:List Env) (s:Shared) (H:Hp) (b:List V) (Q:VK) (E:XK),iR k (A.deeper (envOfC c (hY e) s.heap.objs.size f a))->g b H Q E->
      ∃t,lu (iz (hZ P w) P w K r p N c (hY e) f a A outer s H E) (jK e) t/\t {nx:=λ_ v=>Q .non v,rt:=Q} (start N b) H):ku P w K r p (hZ P w) (k+1) f l h g:=by
 obtain⟨B,z,kV,u,y,C,a,ct,n,rfl,o,j⟩:=F.ex;exact Ah o j S len λA outer s H b Q E q i=>d a A outer s H b Q E q i
variable{X:Cx}
def DB(i j:Int):Prop:=Builtin.Int.intBits i<=1048576/\Builtin.Int.intBits j<=1048576
def Kk:iV X (binaryOp .Mult) (rI DB λi j=>.int<|i*j):=ue λ_ _ _ _ _ _ _ a q=>mul_int q (IntMulOk.of_le a.1 a.2<|by decide)
def yA(_ j:Int):Prop:=j≠0/\Builtin.Int.intBits j<=9000
def IF{j:Int}(h:Builtin.Int.intBits j<=9000):j.natAbs.log2<9000:=by
 by_cases z:j.natAbs=0;·rw[z];decide+kernel
 ·exact(Nat.log2_lt z).mpr (intBits_le_iff.mp h)
def Kc:iV X (binaryOp .FloorDiv) (rI yA λi j=>.int<|i.fdiv j):=ue λ_ _ _ _ _ _ _ a q=>floordiv_int a.1 q (.inl<|PyProof.noPylong_of_log2<|IF a.2)
def Kf:iV X (compareOp .Is) (λx y H Q=>∃a b,x=.bl a/\y=.bl b/\Q (.bl<|a==b) H):=by intro d s i H x y v u Q I g e h;obtain⟨a,b,rfl,rfl,q⟩:=h;cases g;cases e;exact is_bool (iG I q rfl)
def Kg:iV X (compareOp .IsNot) (λx y H Q=>∃a b,x=.bl a/\y=.bl b/\Q (.bl<|a !=b) H):=by intro d s i H x y v u Q I g e h;obtain⟨a,b,rfl,rfl,q⟩:=h;cases g;cases e;exact isnot_bool (iG I q rfl)
end
def kW(P:Program)(w:World)(K:W.Frag)(c:iw)(a:Heap)(g:lh)(k:Nat)(x:Str)(b:List Str)(e:Sp):Prop:=
 ∃f d,ku P w K c a g k f d b e/\Binds K d b []/\W.keepIn K (.ref f)=true/\c x=some (.ref f)
abbrev iP(P:Program)(w:World)(K:W.Frag)(mg:iw)(base:Heap):=kW P w K mg base (hZ P w)
abbrev je(P:Program)(w:World)(K:W.Frag)(mg:iw)(base:Heap):=ku P w K mg base (hZ P w)
def pX{w}:Passes (hZ P w) X E0:=λ_ _ _ _ _ _ _ h=>by obtain⟨_,_,_,_,_,_,_,_,_,_,_,_,z⟩:=h;exact z.elim
variable{X:Cx}{Y:lh}{k:Nat}{O:List Str}{T:Sp}{E:XK}{x:Str}{p pos:Pos}{e:Expr}{U:List Expr}{t:TA}
def rz(h:kW X.prog X.w X.K X.mg X.base Y k x O T)(g:iR k X.A)(i:Gl X x)(d:Passes Y X E)(l:PA X (e::U) t)(c:jc x)
 (j:X.se e U)(a:X.bk pos U):PE X (.Call (.Name x p) (e::U) [] pos) (CK T [] E t):=by obtain⟨f,n,F,b,kp,m⟩:=h;exact Ky F g i m kp b .nil d l c j a
end L2
namespace Fx
open PySem
variable{e:Program}{w:World}{A:Around}{E:ia}{h:Heap}{g:Array GenState}{d:Drawn}{t:Nat}{b:OsState}
variable{l q:Str}{C N:Addr}{bs x j:List Value}{f:Bool}{k:List Str}{sub:List Value}{z:Bool}{i:Option Bool}{dd:Option Addr}{s r p o m:Option Value}{B c a:String}
abbrev nt(h:Heap)(C:Addr)(n:Str)(y:Option Value):Prop:=∀M A E g d t b (Q:Option Value->Shared->Prop),
 Q y ⟨h,g,d,t,b⟩->wpAny M A (typeLookup (.ref C) n) Q E ⟨h,g,d,t,b⟩
end Fx
namespace L2
open PySem PySem.Spec PyProof.Rows Fx
def sT(e C:Addr)(d:Option Addr):HO:=.ext λh=>∃a c,h.get? e=some a/\a.cls=.ref C/\(∀b,d=some b->a.dict=some b)/\a.data=.fields c
def yg{K:W.Frag}{h:Heap}{C:Addr}{n:Str}{y:Option Value}(X:K.In h)(e:W.findIn K (.ref C) n=some y):nt h C n y:=λM A E g d t a Q b=>(W.looks_findIn (M:=M) X e).here (s:=⟨h,g,d,t,a⟩) b
end L2
namespace P2
open PySem L2
inductive D where
 |non|bl(b:Bool)|int(i:Int)|str(x:Str)|ty(n:String)|ref(a:Addr)
 |tup(ds:List D)|lst(ds:List D)|exc(c:Addr)(ns:List Str)(ds:List D)
inductive R(α:Type) where
 |ok(a:α)|ex(c:Addr)(ns:List Str)(ds:List D)|bad
abbrev gP:=List D->R D
noncomputable def R.bind{d b:Type}:R d->(d->R b)->R b
 |.ok a,f=>f a
 |.ex c ns ds,_=>.ex c ns ds
 |.bad,_=>.bad
def zd{b a:Type}{r:R b}{g:b->R a}{y:a}(h:r.bind g=.ok y):∃x,r=.ok x/\g x=.ok y:=by
 cases r with
 |ok x=>exact⟨x,rfl,h⟩
 |ex c d e=>cases h
 |bad=>cases h
def KL(K:W.Frag)(a:Addr)(c:List V):Prop:=∃(b:List Value) (n:Nat),K.lookup a=some {cls:=.type "list",data:=.seq b.toArray n}/\b.length<=sizeLine/\Vals c b
def KL.sq(h:KL K a vs):jx K H a vs:=let⟨b,n,e,d,c⟩:=h;.inr ⟨_,b.toArray,n,e,rfl,rfl,rfl,by simpa using d,by simpa using c⟩
def KT(K:W.Frag)(a:Addr)(c:List V):Prop:=∃o b n,K.lookup a=some o/\o.cls=.type "tuple"/\o.data=.seq b n/\b.size<=sizeLine/\Vals c b.toList
def namesOf(K:W.Frag):List Str:=match K.lookup mainGlobals with
 |some ⟨_,_,.dict a _,_⟩=>a.toList.filterMap λe=>match e.key with
  |.str x _=>some x
  |_=>none
 |_=>[]
def K9(K:W.Frag)(x:Str):Bool:=match W.nsIn K mainGlobals x with
 |some (some (.ref f))=>(match K.lookup f with
  |some ⟨_,_,.func a,_⟩=>(match a.defaults,a.kwdefaults with
   |.none,.none=>true
   |_,_=>false)
  |_=>false)
 |_=>false
def jr(K:W.Frag):List (Str×Addr×Addr):=(namesOf K).filterMap λx=>if K9 K x then(W.tabIn K x).map λq=>(x,q.1,q.2)else none
def jj(c:Addr)(q:Str):HO:=.ext λh=>h.CodeRec (.ref c) q
def jt(K:W.Frag)(H:Hp):Prop:=∀t∈jr K,∃a,H t.2.2=some (.iO a)/\TriplesOk a.toList/\∀pos c,codeAmong pos a.toList=some c->∃b,c=.ref b/\H b=some (jj b<|t.1++".<locals>.<lambda>")
def NT(o:HO):Prop:=∀a,o≠.iO a
def kP:NT (.lst l):=λ_ h=>nomatch h
def Jq:NT (.tup l):=λ_ h=>nomatch h
def Bm{u}:NT (.jD o u):=λ_ h=>nomatch h
def tY:NT (.xd l):=λ_ h=>nomatch h
def tX:NT (.ext φ):=λ_ h=>nomatch h
structure iH(K:W.Frag)(H H':Hp):Prop where
 at':∀b o,NT o->H b=some o->H' b=some o
 fr:∀b,H' b=none->H b=none
 tt:jt K H->jt K H'
def iH.refl{K:W.Frag}(H:Hp):iH K H H:=⟨λ_ _ _ h=>h,λ_ h=>h,λh=>h⟩
def iH.trans(a:iH K H H1)(b:iH K H1 H2):iH K H H2:=⟨λc o n h=>b.at' c o n<|a.at' c o n h,λc h=>a.fr c<|b.fr c h,λh=>b.tt<|a.tt h⟩
def iH.free(e:iH K H H')(h:H' l=Option.none):H l=Option.none:=e.fr l h
def jt.off{f:Hp}(t:jt K H)(h:∀a,H p≠some (.iO a))(i:∀q,H p≠some (jj p q))(e:∀b,b≠p->f b=H b):jt K f:=λx g=>by obtain⟨a,c,k,j⟩:=t x g;refine⟨a,by rw[e _ λw=>h a (by rw[<-w];exact c)];exact c,k,λpos n m=>?_⟩;obtain⟨o,l,d⟩:=j pos n m;exact⟨o,l,by rw[e _ λw=>i _ (by rw[<-w];exact d)];exact d⟩
def nI{H:Hp}(h:H p=some (.lst l)):(∀a,H p≠some (.iO a))/\∀q,H p≠some (jj p q):=
 ⟨λa w=>(by rw[h]at w;exact nomatch w),λq w=>(by rw[h]at w;unfold jj at w;exact nomatch w)⟩
def jt.upd(t:jt K H)(f:∀a,H p≠some (.iO a))(g:∀q,H p≠some (jj p q)):jt K (upd H p o):=λx d=>by obtain⟨a,b,i,h⟩:=t x d;refine⟨a,by rw[gY λw=>f a (by rw[<-w];exact b)];exact b,i,λpos k e=>?_⟩;obtain⟨l,j,c⟩:=h pos k e;exact⟨l,j,by rw[gY λw=>g _ (by rw[<-w];exact c)];exact c⟩
mutual
inductive Rep(K:W.Frag)(al:Addr->Prop)(H:Hp):V->D->Prop
 |non:Rep K al H .non .non
 |bl (b:Bool):Rep K al H (.bl b) (.bl b)
 |int (i:Int):Rep K al H (.int i) (.int i)
 |str (x:Str):Rep K al H (.str x) (.str x)
 |ty (n:String):Rep K al H (.ty n) (.ty n)
 |ref (a:Addr):Rep K al H (.ref a) (.ref a)
 |tup {a:Addr} {vs:List V} {ds:List D}:(al a/\H a=some (.tup vs))\/KT K a vs->gQ K al H vs ds->Rep K al H (.ref a) (.tup ds)
 |lst {a:Addr} {vs:List V} {ds:List D}:(al a/\Rd H a (.lst vs))\/KL K a vs->gQ K al H vs ds->Rep K al H (.ref a) (.lst ds)
 |exc {a c dx:Addr} {ns:List Str} {vs:List V} {ds:List D}:al a->H a=some (sT a c<|some dx)->al dx->H dx=some (.xd<|ns.zip vs)->gQ K al H vs ds->Rep K al H (.ref a) (.exc c ns ds)
 |z9 {a c:Addr}:al a->H a=some (sT a c none)->Rep K al H (.ref a) (.exc c [] [])
inductive gQ(K:W.Frag)(al:Addr->Prop)(H:Hp):List V->List D->Prop
 |nil:gQ K al H [] []
 |cons {v:V} {d:D} {vs:List V} {ds:List D}:Rep K al H v d->gQ K al H vs ds->gQ K al H (v::vs) (d::ds)
end
def Xt(c:Addr->Prop)(H:Hp)(b:Addr->Prop)(d:Hp):Prop:=∀a o,NT o->c a->H a=some o->b a/\d a=some o
def Xt.refl{a:Addr->Prop}{H:Hp}:Xt a H a H:=λ_ _ _ h e=>⟨h,e⟩
def Xt.trans(x:Xt al H kA H1)(y:Xt kA H1 qD H2):Xt al H qD H2:=λa o n h e=>y a o n (x a o n h e).1 (x a o n h e).2
def Xt.of(s:iH K H H'):Xt al H al H':=λa o n h e=>⟨h,s.at' a o n e⟩
def Xt.sub{c b:Addr->Prop}(s:∀a,c a->b a):Xt c H b H:=λa o _ h e=>⟨s a h,e⟩
def Oi{u}(h:Xt al H kz H')(n:NT u)(z:al a/\Rd H a u):kz a/\Rd H' a u:=by
 obtain⟨b,z2|⟨o,z2⟩⟩:=z;·exact⟨(h a _ n b z2).1,.inl (h a _ n b z2).2⟩
 ·exact⟨(h a _ Bm b z2).1,.inr ⟨o,(h a _ Bm b z2).2⟩⟩
def Rep.mv(h:Xt al H kz H'){v d}(r:Rep K al H v d):Rep K kz H' v d:=
 Rep.rec (motive_1:=λv d _=>Rep K kz H' v d) (motive_2:=λv d _=>gQ K kz H' v d) .non .bl .int .str .ty .ref (λp _ q=>.tup (p.elim (λz=>.inl<|h _ _ Jq z.1 z.2) .inr) q) (λp _ q=>.lst (p.elim (λz=>.inl<|Oi h kP z) .inr) q)
  (λb a e c _ q=>.exc (h _ _ tX b a).1 (h _ _ tX b a).2 (h _ _ tY e c).1 (h _ _ tY e c).2 q) (λb a=>.z9 (h _ _ tX b a).1 (h _ _ tX b a).2) .nil (λ_ _ p q=>.cons p q) r
def gQ.mv(h:Xt al H kz H'){v d}(r:gQ K al H v d):gQ K kz H' v d:=by
 induction d generalizing v with
 |nil=>cases r;exact .nil
 |cons d _ a=>
  cases r with
  |cons p q=>exact .cons (p.mv h) (a q)
section
variable{K:W.Frag}{j A:Addr->Prop}{H k:Hp}{v:V}{d:D}{c l:List V}{f m:List D}
def Rep.up(r:Rep K j H v d)(s:iH K H k):Rep K j k v d:=r.mv (.of s)
def gQ.up(r:gQ K j H c f)(s:iH K H k):gQ K j k c f:=r.mv (.of s)
def gQ.length(r:gQ K j H c f):c.length=f.length:=by
 induction f generalizing c with
 |nil=>cases r;rfl
 |cons d f e=>cases r with|cons a b=>rw[ao,ao,e b]
def gQ.append(r:gQ K j H c f)(q:gQ K j H l m):gQ K j H (c++l) (f++m):=by
 induction f generalizing c with
 |nil=>cases r;exact q
 |cons d f e=>cases r with|cons a b=>exact .cons a (e b)
def gQ.get(r:gQ K j H c f){i:Nat}{x:V}(e:c[i]?=some x):∃y,f[i]?=some y/\Rep K j H x y:=by
 induction f generalizing c i with
 |nil=>cases r;simp at e
 |cons d f g=>
  cases r with
  |cons a b=>
   cases i with
   |zero=>simp at e;subst e;exact⟨_,rfl,a⟩
   |succ i=>simpa using g b (by simpa using e)
def gQ.getD(r:gQ K j H c f){i:Nat}{y:D}(e:f[i]?=some y):∃x,c[i]?=some x/\Rep K j H x y:=by
 have b:=r.length;have hi:i<c.length:=by rw[b];exact(ar.mp e).1
 obtain⟨z,a,q⟩:=r.get (au hi);rw[e]at a;cases a;exact⟨_,au hi,q⟩
def gQ.drop(r:gQ K j H c f)(n):gQ K j H (c.drop n) (f.drop n):=by
 induction n generalizing c f with
 |zero=>exact r
 |succ n e=>
  cases r with
  |nil=>exact .nil
  |cons a b=>exact e b
def gQ.take(r:gQ K j H c f)(n):gQ K j H (c.take n) (f.take n):=by
 induction n generalizing c f with
 |zero=>exact .nil
 |succ n e=>
  cases r with
  |nil=>exact .nil
  |cons a b=>exact .cons a (e b)
def Rep.lg(r:Rep K j H v<|.tup f):∃a c,v=.ref a/\jA K H a c/\gQ K j H c f:=by
 cases r with
 |tup p q=>exact⟨_,_,rfl,p.elim (λz=>.inl<|.inl z.2) .inr,q⟩
def Rep.mX(r:Rep K j H v<|.lst f):∃a c,v=.ref a/\jx K H a c/\gQ K j H c f:=by
 cases r with
 |lst p q=>exact⟨_,_,rfl,p.elim (λz=>.inl z.2) KL.sq,q⟩
def Rep.Be(r:Rep K j H v<|.lst f):∃a c,v=.ref a/\(Rd H a (.lst c)\/KL K a c)/\gQ K j H c f:=by
 cases r with
 |lst p q=>exact⟨_,_,rfl,p.imp (λz=>z.2) id,q⟩
def jG(h:H p=none):iH K H (upd H p o):=⟨λb u _ q=>by rw[gY (jl q h)];exact q,λb q=>by
    by_cases z:b=p;· rw[z];exact h
    · rw[gY z]at q;exact q,λt=>t.upd (λa w=>by rw[h]at w;cases w) λq w=>by rw[h]at w;cases w⟩
def gQ.yi(r:gQ K j H c f)(h:H p=none)(a:j p):Rep K j (upd H p<|.tup c) (.ref p) (.tup f):=.tup (.inl ⟨a,ix⟩) (r.up<|jG h)
def gQ.nH(r:gQ K j H c f)(h:H p=none)(a:j p):Rep K j (upd H p<|.lst c) (.ref p) (.lst f):=.lst (.inl ⟨a,.inl ix⟩) (r.up<|jG h)
end
inductive Sl where
 |no|sh(d:D)|ow(ds:List D)
abbrev Ev:=List Sl
abbrev g7:=Ev->R D
structure RS(K:W.Frag)(P:Addr->Prop)(H0:Hp)(al:Addr->Prop)(H:Hp)(σ:St)(ρ:Ev):Prop where
 same:iH K H0 H
 tt:jt K H
 fresh:∀a,H a=none->al a
 sub:∀a,al a->P a
 pf:∀a,H0 a=none->P a
 len:ρ.length=σ.length
 sh:∀(i:Nat) (d:D),ρ[i]?=some (.sh d)->∃v,σ[i]?=some (some v)/\Rep K al H v d
 ow:∀(i:Nat) (ds:List D),ρ[i]?=some (.ow ds)->∃a vs,σ[i]?=some (some<|.ref a)/\H a=some (.lst vs)/\gQ K al H vs ds/\¬al a/\H0 a=none
 apart:∀(i j:Nat) (ds FU:List D) (a:Addr),ρ[i]?=some (.ow ds)->ρ[j]?=some (.ow FU)->σ[i]?=some (some<|.ref a)->σ[j]?=some (some<|.ref a)->i=j
section
variable{K:W.Frag}{P f:Addr->Prop}{m H o:Hp}{l:St}{c:Ev}
def RS.grow(r:RS K P m f H l c)(s:iH K H o):RS K P m f o l c where
 same:=r.same.trans s
 tt:=s.tt r.tt
 fresh:=λa h=>r.fresh a (s.free h)
 sub:=r.sub
 pf:=r.pf
 len:=r.len
 sh:=λi d e=>let⟨v,a,b⟩:=r.sh i d e;⟨v,a,b.up s⟩
 ow:=λi q e=>let⟨a,g,p,n,k,j⟩:=r.ow i q e;⟨a,g,p,s.at' _ _ kP n,k.up s,j⟩
 apart:=r.apart
def RS.set(r:RS K P m f H l c){i:Nat}{v:V}{d:D}(hi:i<c.length)(q:Rep K f H v d):RS K P m f H (l.set i<|some v) (c.set i<|.sh d) where
 same:=r.same
 tt:=r.tt
 fresh:=r.fresh
 sub:=r.sub
 pf:=r.pf
 len:=by rw[bp,bp];exact r.len
 sh:=λj e h=>by
  by_cases z:i=j
  ·subst z;rw[aR hi]at h;cases h;exact⟨v,aR<|by rw[<-r.len];exact hi,q⟩
  ·rw[ax z]at h;obtain⟨w,a,b⟩:=r.sh j e h;exact⟨w,by rw[ax z];exact a,b⟩
 ow:=λj s h=>by
  by_cases z:i=j
  ·subst z;rw[aR hi]at h;cases h
  ·rw[ax z]at h;obtain⟨a,x,n,g⟩:=r.ow j s h;exact⟨a,x,by rw[ax z];exact n,g⟩
 apart:=λj k s p a n g u t=>by
  by_cases z:i=j;·subst z;rw[aR hi]at n;cases n
  ·by_cases y:i=k;·subst y;rw[aR hi]at g;cases g
   ·rw[ax z]at n u;rw[ax y]at g t;exact r.apart j k s p a n g u t
end
def XR(K:W.Frag)(e:Addr->Prop)(H:Hp)(f:Option Addr)(b:List Str)(c:List D):Prop:=
 match f with
 |none=>b=[]/\c=[]
 |some d=>e d/\∃a,H d=some (.xd<|b.zip a)/\gQ K e H a c
def XR.mv(h:Xt al H kz H')(r:XR K al H dx ns ds):XR K kz H' dx ns ds:=by
 cases dx with
 |none=>exact r
 |some d=>obtain⟨a,b,e,q⟩:=r;exact⟨(h _ _ tY a e).1,b,(h _ _ tY a e).2,q.mv h⟩
def Aft{d:Type}(K:W.Frag)(f:Addr->Prop)(E:XK)(H:Hp)(r:R d)(k:d->Hp->Prop):Prop:=
 match r with
 |.ok a=>∀b,iH K H b->k a b
 |.ex c ns ds=>∀e b,iH K H b->XR K f b e ns ds->E (.ref c) e b
 |.bad=>False
section
variable{e f:Type}{K:W.Frag}{b:Addr->Prop}{E:XK}{H i:Hp}{r:R e}{k h:e->Hp->Prop}
def Aft.up(a:Aft K b E H r k)(s:iH K H i):Aft K b E i r k:=by
 cases r with
 |ok x=>exact λg d=>a g (s.trans d)
 |ex c l m=>exact λj g d=>a j g (s.trans d)
 |bad=>exact a
def Aft.mono(a:Aft K b E H r k)(m:∀x d,iH K H d->k x d->h x d):Aft K b E H r h:=by
 cases r with
 |ok x=>exact λd g=>m x d g (a d g)
 |ex c j l=>exact a
 |bad=>exact a
def Aft.split{g:e->R f}{k:f->Hp->Prop}(a:Aft K b E H (r.bind g) k):Aft K b E H r (λx d=>Aft K b E d (g x) k):=by
 cases r with
 |ok x=>exact λd j=>Aft.up a j
 |ex c l m=>exact a
 |bad=>exact a
end
def DE(X:Cx)(E:XK)(e:Expr)(f:g7):Prop:=∃t:TE,PE X e t/\
 ∀P h a H b c (Q:VK),RS X.K P h a H b c->Aft X.K a E H (f c) (λd g=>∀v,Rep X.K a g v d->Q v g)->t b H Q
def DT(X:Cx)(E:XK)(e:Expr)(f:Ev->R Bool):Prop:=∃t:TT,PT X e t/\
 ∀P d c H a b (Q:Bool->Hp->Prop),RS X.K P d c H a b->Aft X.K c E H (f b) Q->t a H Q
def DW(X:Cx)(E:XK)(e:Expr)(f:Ev->R Bool):Prop:=∃t:TT,PW X e t/\
 ∀P d c H a b (Q:Bool->Hp->Prop),RS X.K P d c H a b->Aft X.K c E H (f b) Q->t a H Q
def DA(X:Cx)(E:XK)(g:List Expr)(f:Ev->R (List D)):Prop:=∃t:TA,PA X g t/\
 (∀P i c H d a (Q:List V->Hp->Prop),RS X.K P i c H d a->Aft X.K c E H (f a) (λb h=>∀e,gQ X.K c h e b->Q e h)->t d H Q)/\∀a b,f a=.ok b->b.length=g.length
def DN(X:Cx)(E:XK)(e:Expr)(f:Ev->R (List D)):Prop:=∃t:TE,PE X e t/\
 ∀P i a H c d (Q:VK),RS X.K P i a H c d->Aft X.K a E H (f d) (λh b=>∀p g,b p=none->gQ X.K a b g h->Q (.ref p) (upd b p<|.lst g))->t c H Q
def jz(X:Cx)(E:XK)(h:Value->Value->Sem Value)(g:D->D->R D):Prop:=∃r:R2,iV X h r/\
 ∀b H x y e c (Q:VK),(∀a,H a=none->b a)->Rep X.K b H x e->Rep X.K b H y c->Aft X.K b E H (g e c) (λd f=>∀v,Rep X.K b f v d->Q v f)->r x y H Q
def yG(X:Cx)(E:XK)(g:D->D->R D):Prop:=∃r:R2,mj X r/\
 ∀b H x y e c (Q:VK),(∀a,H a=none->b a)->Rep X.K b H x e->Rep X.K b H y c->Aft X.K b E H (g e c) (λd f=>∀v,Rep X.K b f v d->Q v f)->r x y H Q
def yQ(X:Cx)(E:XK)(f:Value->Sem Value)(g:D->R D):Prop:=∃r:V->Hp->VK->Prop,so X f r/\
 ∀b H x c (Q:VK),(∀a,H a=none->b a)->Rep X.K b H x c->Aft X.K b E H (g c) (λd e=>∀v,Rep X.K b e v d->Q v e)->r x H Q
def ni(X:Cx)(E:XK)(f:Value)(g:gP):Prop:=∃r:List V->Hp->VK->Prop,kd X f r/\
 ∀b H c e (Q:VK),(∀a,H a=none->b a)->gQ X.K b H c e->Aft X.K b E H (g e) (λd h=>∀v,Rep X.K b h v d->Q v h)->r c H Q
noncomputable def dV(i:Nat):g7:=λa=>match a[i]? with
 |some (.sh d)=>.ok d
 |_=>.bad
noncomputable def dC(d:D):g7:=λ_=>.ok d
def d1(g:D->R D)(a:g7):g7:=λb=>(a b).bind g
def d2(g:D->D->R D)(a b:g7):g7:=λc=>(a c).bind λx=>(b c).bind λy=>g x y
abbrev gJ(i:Int):g7:=dC (.int i)
abbrev qL(x:Str):g7:=dC (.str x)
def tB(d:D):R Bool:=match d with
 |.bl b=>.ok b
 |_=>.bad
def tT(d:D):R Bool:=match d with
 |.non=>.ok false
 |.bl b=>.ok b
 |.int i=>.ok (i !=0)
 |.str y=>if y.length<=sizeLine then .ok ((y.length:Int)!=0)else .bad
 |.lst ds=>.ok (!ds.isEmpty)
 |.tup ds=>.ok (!ds.isEmpty)
 |_=>.bad
def b1(t:D->R Bool)(a:g7):Ev->R Bool:=λb=>(a b).bind t
def lL(a b:Ev->R Bool):Ev->R Bool:=λd=>(a d).bind λc=>if c=true then b d else .ok false
def ly(a b:Ev->R Bool):Ev->R Bool:=λd=>(a d).bind λc=>if c=true then .ok true else b d
def oo(a:Ev->R Bool):Ev->R Bool:=λb=>(a b).bind λc=>.ok (!c)
def vF(a b:g7):g7:=λd=>((a d).bind tB).bind λc=>if c=true then b d else .ok (.bl false)
def Fj(a b:g7):g7:=λd=>((a d).bind tB).bind λc=>if c=true then .ok (.bl true)else b d
def vG(a:g7):g7:=λb=>((a b).bind tB).bind λc=>.ok (.bl<|!c)
def Fh(c:Ev->R Bool)(a b:g7):g7:=λd=>(c d).bind λk=>if k=true then a d else b d
noncomputable def gL:Ev->R (List D):=λ_=>.ok []
def gI(a:g7)(r:Ev->R (List D)):Ev->R (List D):=λb=>(a b).bind λx=>(r b).bind λc=>.ok (x::c)
def dA(g:gP)(a:Ev->R (List D)):g7:=λb=>(a b).bind g
def iZ(a:List D):R D:=if a.length<=sizeLine then .ok (.tup a)else .bad
def km(a:List D):R (List D):=if a.length<=sizeLine then .ok a else .bad
def ig(g:Ev->R (List D)):g7:=λa=>(g a).bind λb=>.ok (.lst b)
section
variable{X:Cx}{E:XK}{e a b c:Expr}{f l A:g7}{pos:Pos}
def gK(i:Nat){x:Str}(hN:X.N[i]?=some x:=by rfl)(k:oa X.env.scope x:=by first|exact Or.inl rfl|exact Or.inr (Or.inl rfl)|exact Or.inr (Or.inr rfl))(m:jc x:=by decide)
    (g:(x==("__classdict__":Str))=false:=by decide):DE X E (.Name x pos) (dV i):=by
 refine⟨_,ui hN k m g,λP u t H p j Q r h=>?_⟩;unfold dV at h;cases q:j[i]? with
 |none=>rw[q]at h;exact h.elim
 |some s=>
  cases s with
  |sh d=>rw[q]at h;obtain⟨v,o,n⟩:=r.sh i d q;exact⟨v,o,h H (.refl H) v n⟩
  |no=>rw[q]at h;exact h.elim
  |ow _=>rw[q]at h;exact h.elim
def gS{i j}:DE X E (.Constant (.int i) j pos) (gJ i):=⟨_,KN,λ_ _ _ H _ _ _ _ h=>h H (.refl H) _<|.int i⟩
def FA{i j}:DE X E (.Constant (.bool i) j pos) (dC<|.bl i):=⟨_,Kw,λ_ _ _ H _ _ _ _ h=>h H (.refl H) _<|.bl i⟩
def mn{j}:DE X E (.Constant .none j pos) (dC .non):=⟨_,KQ,λ_ _ _ H _ _ _ _ h=>h H (.refl H) _ .non⟩
def sM{i j}:DE X E (.Constant (.str i) j pos) (qL i):=⟨_,K0,λ_ _ _ H _ _ _ _ h=>h H (.refl H) _<|.str i⟩
def vI{v d u}(k:Gl X x)(j:X.mg x=some u)(r:RelV v u)(m:∀i H,Rep X.K i H v d)(g:jc x):DE X E (.Name x pos) (dC d):=
 ⟨_,KJ k j r g,λ_ _ i H _ _ _ _ h=>h H (.refl H) _<|m i H⟩
def vJ{n}(j:Gl X x)(i:X.mg x=none)(d:bootBuiltins x=some (.type n))(g:x≠"__name__")(k:jc x):DE X E (.Name x pos) (dC<|.ty n):=
 ⟨_,Kx (v:=.ty n) j i d rfl g k,λ_ _ m H _ _ _ _ h=>h H (.refl H) _<|.ty n⟩
def gW{g}(w:jz X E (binaryOp op) g)(B:DE X E a l)(z:DE X E b A):DE X E (.BinOp a op b pos) (d2 g l A):=by obtain⟨r,n,m⟩:=w;obtain⟨J,t,p⟩:=B;obtain⟨I,q,o⟩:=z;refine⟨_,BA n t q,λP N K H F G Q s h=>p _ _ _ _ _ _ _ s<|Aft.mono (Aft.split h) λx M i D v j=>o _ _ _ _ _ _ _ (s.grow i)<|Aft.mono (Aft.split D) λy L d C u k=>?_⟩;exact m _ _ _ _ _ _ _ ((s.grow i).grow d).fresh (j.up d) k C
def FI{g}(o:yQ X E (unaryOp op) g)(p:DE X E a l):DE X E (.UnaryOp op a pos) (d1 g l):=by obtain⟨r,k,j⟩:=o;obtain⟨w,n,m⟩:=p;exact⟨_,K1 k n,λP B y H t u Q s h=>m _ _ _ _ _ _ _ s<|Aft.mono (Aft.split h) λx z d q v i=>j _ _ _ _ _ (s.grow d).fresh i q⟩
def zy{g}(w:jz X E (compareOp op) g)(C:DE X E a l)(B:DE X E b A)(z:behindInMarks op b=false):DE X E (.Compare a [op] [b] pos) (d2 g l A):=by obtain⟨r,n,m⟩:=w;obtain⟨K,t,p⟩:=C;obtain⟨J,q,o⟩:=B;refine⟨_,KC n t q z,λP O L H G I Q s h=>p _ _ _ _ _ _ _ s<|Aft.mono (Aft.split h) λx N i F v j=>o _ _ _ _ _ _ _ (s.grow i)<|Aft.mono (Aft.split F) λy M d D u k=>?_⟩;exact m _ _ _ _ _ _ _ ((s.grow i).grow d).fresh (j.up d) k D
def uu{v d}(r:Rep K al H v d)(h:Aft K al E H (tB d) k):∃c,v=.bl c/\k c H:=by
 cases r with
 |bl b=>exact⟨b,rfl,h H<|.refl H⟩
 |_=>exact(h:False).elim
def jR{j:CmpOp}{g:D->D->R D}(I:jz X E (compareOp j) g)(L:DE X E a l)(K:DE X E b A)(J:behindInMarks j b=false:=by first|exact tW _ (by decide) (by decide)|with_unfolding_all rfl):DT X E (.Compare a [j] [b] pos) (b1 tB<|d2 g l A):=by
 obtain⟨r,z,t⟩:=I;obtain⟨W,G,C⟩:=L;obtain⟨V,F,B⟩:=K;refine⟨_,B0 z G F J,λP H0 S H T U Q s h=>C _ _ _ _ _ _ _ s<|Aft.mono (Aft.split<|Aft.split h) λx H1 n O v p=>?_⟩;refine B _ _ _ _ _ _ _ (s.grow n) (Aft.mono (Aft.split (g:=λy=>g x y) (k:=λd o=>Aft X.K S E o (tB d) Q) ?_) λy o m N u q=>?_);·exact O
 ·exact t _ _ _ _ _ _ _ ((s.grow n).grow m).fresh (p.up m) q (Aft.mono N λd Z Y M w i=>uu i M)
def Om{v d}(r:Rep K al H v d)(h:Aft K al E H (tT d) k):∃c,vg K v H c/\k c H:=by
 cases r with
 |non=>exact⟨_,rfl,h H<|.refl H⟩
 |bl b=>exact⟨_,rfl,h H<|.refl H⟩
 |int b=>exact⟨_,rfl,h H<|.refl H⟩
 |str b=>
  unfold tT at h;by_cases z:b.length<=sizeLine
  ·simp only[z,cB]at h;exact⟨_,⟨z,rfl⟩,h H<|.refl H⟩
  ·simp only[z,bC]at h;exact h.elim
 |tup p q=>refine⟨_,.inr<|.inl ⟨_,p.elim (λz=>.inl<|.inl z.2) .inr,?_⟩,h H<|.refl H⟩;cases q<;>rfl
 |lst p q=>refine⟨_,.inl ⟨_,p.elim (λz=>.inl z.2) KL.sq,?_⟩,h H<|.refl H⟩;cases q<;>rfl
 |_=>exact(h:False).elim
def sP(m:DE X E e l)(k:∀d,isTrue e X.env d=(do let v<-d;standAt e.pos;holding [v] (truthy v))):DT X E e (b1 tT l):=by obtain⟨q,j,i⟩:=m;exact⟨_,Lm j k,λP w t H o p Q s h=>i _ _ _ _ _ _ _ s<|Aft.mono (Aft.split h) λx u r n v g=>Om g n⟩
variable{o B:Ev->R Bool}{rest:List Expr}
def DW.dt(h:DW X E e o):DT X E e o:=let⟨t,p,r⟩:=h;⟨t,p.pt,r⟩
def vR(h:DT X E a o):DW X E (.BoolOp .And [a] pos) o:=let⟨t,p,r⟩:=h;⟨t,Lu p,r⟩
def sR(h:DT X E a o):DW X E (.BoolOp .Or [a] pos) o:=let⟨t,p,r⟩:=h;⟨t,B3 p,r⟩
def vQ(q:DT X E a o)(p:DW X E (.BoolOp .And (b::rest) pos) B):DW X E (.BoolOp .And (a::b::rest) pos) (lL o B):=by
 obtain⟨v,n,k⟩:=q;obtain⟨u,m,j⟩:=p;refine⟨_,Ls n m,λP x w H r t Q s h=>k _ _ _ _ _ _ _ s<|Aft.mono (Aft.split h) λc g i d=>?_⟩;cases c with
 |true=>exact oF (j _ _ _ _ _ _ _ (s.grow i) d)
 |false=>exact oE (d g<|.refl g)
def qN(q:DT X E a o)(p:DW X E (.BoolOp .Or (b::rest) pos) B):DW X E (.BoolOp .Or (a::b::rest) pos) (ly o B):=by
 obtain⟨v,n,k⟩:=q;obtain⟨u,m,j⟩:=p;refine⟨_,B2 n m,λP x w H r t Q s h=>k _ _ _ _ _ _ _ s<|Aft.mono (Aft.split h) λc g i d=>?_⟩;cases c with
 |true=>exact oF (d g<|.refl g)
 |false=>exact oE (j _ _ _ _ _ _ _ (s.grow i) d)
def vN(j:DT X E a o):DT X E (.UnaryOp .Not a pos) (oo o):=by obtain⟨p,i,g⟩:=j;exact⟨_,Ll i,λP t r H m n Q s h=>g _ _ _ _ _ _ _ s<|Aft.mono (Aft.split h) λc d q k=>k d<|.refl d⟩
def FH(h:DE X E a l):DE X E (.BoolOp op [a] pos) l:=let⟨t,p,r⟩:=h;⟨t,KS p,r⟩
def Fu(r:DE X E a l)(q:DE X E (.BoolOp .And (b::rest) pos) A):DE X E (.BoolOp .And (a::b::rest) pos) (vF l A):=by
 obtain⟨z,p,m⟩:=r;obtain⟨y,n,k⟩:=q;refine⟨_,Kv p n,λP D C H u w Q s h=>m _ _ _ _ _ _ _ s<|Aft.mono (Aft.split<|Aft.split h) λx g i t v j=>?_⟩;obtain⟨c,e,d⟩:=uu j t;refine⟨c,e,?_⟩;cases c with
 |true=>exact oF (k _ _ _ _ _ _ _ (s.grow i) d)
 |false=>exact oE (d g (.refl g) _<|.bl false)
def FG(k:DE X E a l):DE X E (.UnaryOp .Not a pos) (vG l):=by obtain⟨r,j,i⟩:=k;refine⟨_,KR j,λP w u H p q Q s h=>i _ _ _ _ _ _ _ s<|Aft.mono (Aft.split<|Aft.split h) λx d t n v g=>?_⟩;obtain⟨c,e,m⟩:=uu g n;exact⟨c,e,m d (.refl d) _<|.bl _⟩
variable{m:List Expr}{fs:Ev->R (List D)}
def g9:DA X E [] gL:=⟨_,nQ,λ_ _ _ H _ _ _ _ h=>h H (.refl H) _ .nil,λ_ _ h=>by cases h;rfl⟩
def gM(I:DE X E e l)(G:DA X E m fs)(F:X.se e m:=by rfl):DA X E (e::m) (gI l fs):=by
 obtain⟨M,z,t⟩:=I;obtain⟨L,w,r,C⟩:=G;refine⟨_,mz z w F,λP T O H K i Q s h=>t _ _ _ _ _ _ _ s<|Aft.mono (Aft.split h) λx S n g v p=>r _ _ _ _ _ _ _ (s.grow n)<|Aft.mono (Aft.split g) λy j k d u q=>?_,λi N h=>?_⟩;·exact d j (.refl j) _ (.cons (p.up k) q)
 ·obtain⟨x,_,g⟩:=zd h;obtain⟨y,d,J⟩:=zd g;cases J;rw[ao,ao,C i y d]
def kZ{j}(r:DA X E m fs):DE X E (.Tuple m j pos) (dA iZ fs):=by
 obtain⟨w,q,n,_⟩:=r;refine⟨_,BB q,λP F y H t u Q s h=>n _ _ _ _ _ _ _ s<|Aft.mono (Aft.split h) λx C k d v i=>?_⟩;unfold iZ at d;by_cases z:x.length<=sizeLine
 ·rw[ai z]at d;exact⟨by rw[i.length];exact z,λp g=>d _ (jG g) _<|i.yi g<|(s.grow k).fresh p g⟩
 ·rw[ak z]at d;exact d.elim
def qM(r:DA X E m fs):DN X E (.List m pos) (λg=>(fs g).bind km):=by
 obtain⟨u,n,k,_⟩:=r;refine⟨_,KP n,λP C y H t g Q s h=>k _ _ _ _ _ _ _ s<|Aft.mono (Aft.split h) λx j w d v i=>?_⟩;unfold km at d;by_cases z:x.length<=sizeLine
 ·rw[ai z]at d;exact⟨by rw[i.length];exact z,λp q=>d j (.refl j) p v q i⟩
 ·rw[ak z]at d;exact d.elim
def DN.de{g:Ev->R (List D)}(h:DN X E e g):DE X E e (ig g):=by obtain⟨t,p,r⟩:=h;exact⟨t,p,λP y v H n q Q s h=>r _ _ _ _ _ _ _ s<|Aft.mono (Aft.split h) λx w i k p u d j=>k _ (jG d) _<|j.nH d<|(s.grow i).fresh p d⟩
def kB{g}(F:yG X E g)(I:DE X E a l)(G:DE X E b A)(C:yM b:=by exact λ_ _=>rfl):DE X E (.Subscript a b pos) (d2 g l A):=by obtain⟨r,p,n⟩:=F;obtain⟨O,z,t⟩:=I;obtain⟨N,w,q⟩:=G;refine⟨_,KO p z w C,λP V S H L M Q s h=>t _ _ _ _ _ _ _ s<|Aft.mono (Aft.split h) λx U i K v j=>q _ _ _ _ _ _ _ (s.grow i)<|Aft.mono (Aft.split K) λy T d J u k=>?_⟩;exact n _ _ _ _ _ _ _ ((s.grow i).grow d).fresh (j.up d) k J
variable{x:Str}{p:Pos}
def lM{j:String}{g:gP}(I:ni X E (.builtin j) g)(F:Gl X x)(C:X.mg x=none)(y:bootBuiltins x=some (.builtin j))(J:DA X E (e::m) fs)(z:x≠"__name__":=by decide)(i:jc x:=by decide)
    (G:X.se e m:=by rfl)(d:X.bk pos m:=by rfl):DE X E (.Call (.Name x p) (e::m) [] pos) (dA g fs):=by
 obtain⟨r,t,q⟩:=I;obtain⟨N,w,u,_⟩:=J;exact⟨_,Kz t F C y w z i G d,λP T O H L M Q s h=>u _ _ _ _ _ _ _ s<|Aft.mono (Aft.split h) λx S k K v n=>q _ _ _ _ _ (s.grow k).fresh n K⟩
def FD{T:String}{g:gP}(G:ni X E (.type T) g)(C:Gl X x)(z:X.mg x=none)(w:bootBuiltins x=some (.type T))(I:DA X E (e::m) fs)(y:x≠"__name__")(i:jc x)
    (F:X.se e m)(d:X.bk pos m):DE X E (.Call (.Name x p) (e::m) [] pos) (dA g fs):=by
 obtain⟨r,q,n⟩:=G;obtain⟨M,u,t,_⟩:=I;exact⟨_,KA q C z w u y i F d,λP S N H K L Q s h=>t _ _ _ _ _ _ _ s<|Aft.mono (Aft.split h) λx O j J v k=>n _ _ _ _ _ (s.grow j).fresh k J⟩
def ip(n:Nat)(K:W.Frag)(F:gP):Sp:=λh H Q E=>h.length=n/\jt K H/\∃g i,(∀a,H a=none->g a)/\gQ K g H h i/\Aft K g E H (F i) (λd j=>∀v,Rep K g j v d->Q v j)
variable{k n:Nat}{C:List Str}{F:gP}
def i7(G:kW X.prog X.w X.K X.mg X.base (hZ X.prog X.w) k x C<|ip n X.K F)(z:iR k X.A)(J:Gl X x)(y:Passes (hZ X.prog X.w) X E)(I:(e::m).length=n)(L:DA X E (e::m) fs)(i:jc x:=by decide)
 (K:X.se e m:=by rfl)(g:X.bk pos m:=by rfl):DE X E (.Call (.Name x p) (e::m) [] pos) (dA F fs):=by
  obtain⟨S,v,u,w⟩:=L;refine⟨_,rz G z J y v i K g,λP V M H N r Q s h=>u _ _ _ _ _ _ _ s ?_⟩;unfold dA at h;cases q:fs r with
  |ok j=>rw[q]at h;intro U d O t;rw[aZ];exact⟨by rw[t.length,w r j q];exact I,(s.grow d).tt,M,j,(s.grow d).fresh,t,Aft.up h d⟩
  |ex c T j=>rw[q]at h;exact h
  |bad=>rw[q]at h;exact h.elim
end
inductive RT where
 |nx(ρ:Ev)|rt(d:D)|bk(ρ:Ev)|ct(ρ:Ev)|ex(c:Addr)(ns:List Str)(ds:List D)|bad
abbrev hX:=Ev->RT
noncomputable def toS{b:Type}(r:R b)(k:b->RT):RT:=match r with
 |.ok a=>k a
 |.ex c ns ds=>.ex c ns ds
 |.bad=>.bad
def lF(r:RT)(k:hX):RT:=match r with
 |.nx a=>k a
 |r=>r
def i8(K:W.Frag)(P:Addr->Prop)(g:Hp)(E:XK)(D:Ends)(h:Addr->Prop)(H:Hp):RT->Prop
 |.nx f=>∀e a b,Xt h H e a->RS K P g e a b f->D.nx b a
 |.bk f=>∀e a b,Xt h H e a->RS K P g e a b f->D.bk b a
 |.ct f=>∀e a b,Xt h H e a->RS K P g e a b f->D.ct b a
 |.rt d=>∀v a,iH K g a->Rep K P a v d->D.rt v a
 |.ex c ns ds=>∀i a,iH K g a->XR K P a i ns ds->E (.ref c) i a
 |.bad=>False
section
variable{K:W.Frag}{P A l:Addr->Prop}{o H B:Hp}{E:XK}{D:Ends}{s:RT}{C:St}{j:Ev}
def i8.ext(h:i8 K P o E D A H s)(x:Xt A H l B):i8 K P o E D l B s:=by
 cases s with
 |nx j=>exact λa e b y r=>h a e b (x.trans y) r
 |bk j=>exact λa e b y r=>h a e b (x.trans y) r
 |ct j=>exact λa e b y r=>h a e b (x.trans y) r
 |rt d=>exact h
 |ex c f g=>exact h
 |bad=>exact h
def i8.nM{d:Type}{r:R d}{k:d->RT}(h:i8 K P o E D A H<|toS r k)(s:RS K P o A H C j):Aft K A E H r (λx a=>i8 K P o E D A a<|k x):=by
 cases r with
 |ok x=>exact λa b=>i8.ext h (.of b)
 |ex c f g=>exact λe a b q=>h e a (s.same.trans b) (q.mv<|.sub s.sub)
 |bad=>exact h
def DS(X:Cx)(E:XK)(a:Stmt)(g:hX):Prop:=∃t:TS,PS X a t/\
 ∀P o A H C j (D:Ends),RS X.K P o A H C j->i8 X.K P o E D A H (g j)->t D C H
def lI(X:Cx)(E:XK)(a:List Stmt)(g:hX):Prop:=∃t:TS,lu X a t/\
 ∀P o A H C j (D:Ends),RS X.K P o A H C j->i8 X.K P o E D A H (g j)->t D C H
def mG:hX:=.nx
def iu(a b:hX):hX:=λj=>lF (a j) b
def Oy(f:g7):hX:=λj=>toS (f j) λ_=>.nx j
def jy(f:g7):hX:=λj=>toS (f j) .rt
def iA(i:Nat)(f:g7):hX:=λj=>toS (f j) λd=>if i<j.length then .nx (j.set i<|.sh d)else .bad
def mF(c:Ev->R Bool)(a b:hX):hX:=λj=>toS (c j) λk=>if k=true then a j else b j
variable{X:Cx}{F:Stmt}{rest M L:List Stmt}{g u O I:hX}{e c:Expr}{f:g7}{J:Ev->R Bool}{pos:Pos}
def oz:lI X E [] mG:=⟨_,BY,λ_ _ A H C j _ s h=>h A H C .refl s⟩
def i9(h:DS X E F g):lI X E [F] g:=let⟨t,p,r⟩:=h;⟨t,BZ p,r⟩
def iF(t:DS X E F g)(r:lI X E rest u):lI X E (F::rest) (iu g u):=by
 obtain⟨w,p,m⟩:=t;obtain⟨v,n,k⟩:=r;refine⟨_,BX p n,λP o A H C j D s h=>m P o A H C j _ s ?_⟩;unfold iu at h;cases q:g j with
 |nx a=>rw[q]at h;exact λl B b x i=>k P o l B b a D i (i8.ext h x)
 |bk a=>rw[q]at h;exact h
 |ct a=>rw[q]at h;exact h
 |rt d=>rw[q]at h;exact h
 |ex c y z=>rw[q]at h;exact h
 |bad=>rw[q]at h;exact h
def kj(i:DE X E e f):DS X E (.Return (some e) pos) (jy f):=by obtain⟨t,p,r⟩:=i;exact⟨_,BU p,λP o A H C j D s h=>r _ _ _ _ _ _ _ s<|Aft.mono (i8.nM h s) λd m a k v b=>k v m (s.same.trans a)<|b.mv<|.sub s.sub⟩
def jf(i)(hN:X.N.Nodup)(hi:X.N[i]?=some x)(m:Loc X.env.scope x)(q:DE X E e f)(n:swapsWith e (some<|.Name x pos') pos.line X.env=pure false:=by rfl)(hf:X.hf x:=by first|exact .inl rfl|exact .inr rfl|assumption):
    DS X E (.Assign [.Name x pos'] e pos) (iA i f):=by
 obtain⟨t,p,r⟩:=q;refine⟨_,BV hN hi m p n hf,λP o A H C j D s h=>r _ _ _ _ _ _ _ s<|Aft.mono (i8.nM h s) λd w b a v k=>?_⟩;by_cases z:i<j.length
 ·simp only[z,cB]at a;exact a A w _ .refl ((s.grow b).set z k)
 ·simp only[z,bC]at a;exact a.elim
def oy(r:DT X E c J)(v:lI X E M O)(t:lI X E L I):DS X E (.If c M L pos) (mF J O I):=by
 obtain⟨w,n,d⟩:=r;obtain⟨y,q,m⟩:=v;obtain⟨x,p,i⟩:=t;refine⟨_,BS n q p,λP o A H C j D s h=>d _ _ _ _ _ _ _ s<|Aft.mono (i8.nM h s) λk z a b=>?_⟩;cases k with
 |true=>exact oF (m _ _ _ _ _ _ _ (s.grow a) b)
 |false=>exact oE (i _ _ _ _ _ _ _ (s.grow a) b)
def turnT(r:RT)(k:hX):RT:=match r with
 |.nx j=>k j
 |.ct j=>k j
 |.bk j=>.nx j
 |r=>r
def l8(c:Ev->R Bool)(b:hX):Nat->hX
 |0,_=>.bad
 |n+1,j=>toS (c j) λk=>if k=true then turnT (b j) (l8 c b n)else .nx j
def CP{K:W.Frag}{P A:Addr->Prop}{o H:Hp}{D:Ends}{r:RT}{k:hX}{N:St->Hp->Prop}(h:i8 K P o E D A H<|turnT r k)
    (hN:∀l B a b,Xt A H l B->RS K P o l B a b->i8 K P o E D l B (k b)->N a B):i8 K P o E {D with nx:=N,ct:=N,bk:=D.nx} A H r:=by
 cases r with
 |nx j=>exact λl B a x s=>hN l B a j x s (i8.ext h x)
 |ct j=>exact λl B a x s=>hN l B a j x s (i8.ext h x)
 |bk j=>exact h
 |rt d=>exact h
 |ex c i m=>exact h
 |bad=>exact h
def zT(n)(S:PassesOwn (model X.prog X.w) X.A X.env X.xe)(T:DT X E c J)(U:lI X E L I):DS X E (.While c L [] pos) (l8 J I n):=by
 obtain⟨Z,N,y⟩:=T;obtain⟨tb,Q,G⟩:=U;refine⟨_,Lk S N Q,λP o A H C j D s h=>⟨λm d r=>∃a b,RS X.K P o a r d b/\i8 X.K P o E D a r (l8 J I m b),⟨n,A,j,s,h⟩,?_⟩⟩
 rintro m d r ⟨a,b,p,w⟩
 cases m with
 |zero=>exact w.elim
 |succ m=>
  refine y _ _ _ _ _ _ _ p (Aft.mono (i8.nM w p) λk Y t v=>?_);cases k with
  |true=>refine oF ⟨λi B=>∃a b,RS X.K P o a B i b/\i8 X.K P o E D a B (l8 J I m b),λi B z=>⟨m,cb m,z⟩,G _ _ _ _ _ _ _ (p.grow t)<|CP (k:=l8 J I m) v λl B i q _ x V=>⟨l,q,x,V⟩⟩
  |false=>exact oE (v a Y d .refl<|p.grow t)
end
def Wk(K:W.Frag)(g:Addr->Prop)(H:Hp)(J:It)(f:List D):Prop:=∀b c,Xt g H b c->(∀a,c a=none->b a)->
 (∀i d,f[i]?=some d->J.go i c/\∀x e,J.uN i c x e->e=c/\Rep K b c x d)/\∀i,f.length<=i->J.stop i c
def DI(X:Cx)(E:XK)(h a:Expr)(f:Ev->R (List D)):Prop:=∃e:TI,PI X h a e/\
 ∀P j b H c d (R:It->Hp->Prop),RS X.K P j b H c d->Aft X.K b E H (f d) (λi g=>∀J,Wk X.K b g J i->R J g)->e c H R
def Kp(l:List Nat)(b a:St):Prop:=a.length=b.length/\∀j,j∉l->a[j]?=b[j]?
def DG(X:Cx)(j:Expr)(l:List Nat)(a:D->Ev->Option Ev):Prop:=∃g:TG,PG X j g/\
 ∀P i f H e h v d (Q:St->Hp->Prop),RS X.K P i f H e h->Rep X.K f H v d->(∃c,a d h=some c/\∀b,Kp l e b->RS X.K P i f H b c->Q b H)->g v e H Q
def rW(X:Cx)(j:List Expr)(l:List Nat)(a:List D->Ev->Option Ev):Prop:=∃g:n9,pe X j g/\
 ∀P i f H e h v d (Q:St->Hp->Prop),RS X.K P i f H e h->gQ X.K f H v d->(∃c,a d h=some c/\∀b,Kp l e b->RS X.K P i f H b c->Q b H)->g v e H Q
def gV(i:Nat):D->Ev->Option Ev:=λd a=>if i<a.length then some (a.set i<|.sh d)else none
def gN:List D->Ev->Option Ev:=λb a=>match b with
 |[]=>some a
 |_=>none
def gC(a:D->Ev->Option Ev)(b:List D->Ev->Option Ev):List D->Ev->Option Ev:=λe c=>match e with
 |d::r=>(a d c).bind (b r)
 |[]=>none
def gT(n:Nat)(a:List D->Ev->Option Ev):D->Ev->Option Ev:=λd b=>match d with
 |.tup ds=>if ds.length=n then a ds b else none
 |_=>none
def toO{b:Type}(r:Option b)(k:b->RT):RT:=match r with
 |some a=>k a
 |none=>.bad
def jX(a:D->Ev->Option Ev)(b:hX):List D->hX
 |[],e=>.nx e
 |d::r,e=>toO (a d e) λc=>turnT (b c) (jX a b r)
section
variable{X:Cx}{E:XK}{Y I:Expr}{C:List Stmt}{U:Ev->R (List D)}{a:D->Ev->Option Ev}{M:hX}{pos:Pos}
def nT(U:Ev->R (List D))(a:D->Ev->Option Ev)(M:hX):hX:=λb=>toS (U b) λc=>jX a M c b
def jB(i:Nat){x:Str}(hN:X.N.Nodup)(hi:X.N[i]?=some x)(g:Loc X.env.scope x)(hf:X.hf x:=by first|exact .inl rfl|exact .inr rfl|assumption):DG X (.Name x pos) [i] (gV i):=by
 refine⟨_,uj hN hi g hf,λP n m H l c v d Q s f h=>?_⟩;obtain⟨b,e,q⟩:=h;unfold gV at e;by_cases z:i<c.length
 ·rw[ai z]at e;cases e;exact q _ ⟨bp ..,λj k=>ax<|λw=>k<|by simp[w]⟩ (s.set z f)
 ·rw[ak z]at e;cases e
def zI:rW X [] [] gN:=by
 refine⟨_,BH,λP j i H f g v d Q s c h=>?_⟩;obtain⟨b,e,q⟩:=h;cases c with
 |nil=>cases e;exact⟨rfl,q _ ⟨rfl,λ_ _=>rfl⟩ s⟩
 |cons _ _=>cases e
def sN{u}(F:DG X e l1 a)(B:rW X es l2 u)(A:(assignEach (e::es) X.env).map (·.2)=assign e X.env::(assignEach es X.env).map (·.2)):rW X (e::es) (l1++l2) (gC a u):=by
 obtain⟨O,z,x⟩:=F;obtain⟨N,y,t⟩:=B;refine⟨_,BG z y A,λP T S H K L v d Q s o h=>?_⟩;obtain⟨f,e,q⟩:=h;cases o with
 |nil=>cases e
 |cons r p=>obtain⟨c,J,G⟩:=az.mp e;exact⟨_,_,rfl,x _ _ _ _ _ _ _ _ _ s r ⟨c,J,λl i n=>t _ _ _ _ _ _ _ _ _ n p ⟨f,G,λb g m=>q b ⟨g.1.trans i.1,λj k=>(g.2 j λw=>k<|aQ _ w).trans (i.2 j λw=>k<|bR _ w)⟩ m⟩⟩⟩
def zH{n u}(p:X.calm=true)(h:rW X es l u)(o:(assignEach es X.env).length=n)(c:(assignEach es X.env).findIdx? (·.1)=none):DG X (.Tuple es k pos) l (gT n u):=by
 obtain⟨A,m,j⟩:=h;refine⟨_,BF p m o c,λP F B H x y v d Q s i h=>?_⟩;obtain⟨b,e,q⟩:=h;unfold gT at e;cases d with
 |tup w=>
  by_cases z:w.length=n
  ·simp only[z,cB]at e;obtain⟨a,g,t,r,f⟩:=i.lg;exact⟨a,g,t,r,by rw[f.length];exact z,j _ _ _ _ _ _ _ _ _ s f ⟨b,e,q⟩⟩
  ·simp only[z,bC]at e;cases e
 |_=>cases e
def qb(f:g7)(a:D->Ev->Option Ev):hX:=λb=>toS (f b) λd=>toO (a d b) .nx
def sO(hp:PassesOwn (model X.prog X.w) X.A X.env X.xe)(hc:X.calm=true)(hi:DI X E Y I U)(hg:DG X Y l a)(hb:lI X E C M)(hs:∀x,foldedSetIterable I X.env x=pure x):
    DS X E (.For Y I C [] pos) (nT U a M):=by
 obtain⟨wi,pi,ri⟩:=hi;obtain⟨g,pg,rg⟩:=hg;obtain⟨tb,pb,rb⟩:=hb;refine⟨_,BR hp hc pi pg pb hs,λP u al H σ G D s h=>ri _ _ _ _ _ _ _ s<|Aft.mono (i8.nM h s) λd H1 W h1 J wk=>?_⟩;refine⟨λi m j p=>∃b c,RS X.K P u b p j c/\Wk X.K b p J d/\i8 X.K P u E D b p (jX a M (d.drop i) c)/\m=d.length - i,⟨_,al,G,s.grow W,wk,h1,rfl⟩,?_⟩
 rintro i m j p ⟨b,c,w,r,f,rfl⟩
 obtain⟨T,S⟩:=r b p .refl w.fresh;by_cases hi:i<d.length
 ·right;have ed:d[i]?=some d[i]:=au hi;obtain⟨go,N⟩:=T i _ ed;rw[bZ hi]at f;refine⟨go,λn t=>∃b c,RS X.K P u b t n c/\Wk X.K b t J d/\i8 X.K P u E D b t (jX a M (d.drop<|i+1) c),λn t ⟨A,o,L,z2,K⟩=>⟨d.length - (i+1),by omega,A,o,L,z2,K,rfl⟩,λx H3 y=>?_⟩;obtain⟨rfl,rx⟩:=N x H3 y;unfold jX at f;cases q:a d[i] c with
  |some o=>rw[q]at f;refine rg _ _ _ _ _ _ _ _ _ w rx ⟨o,q,λF _ V=>rb _ _ _ _ _ _ _ V<|CP (k:=jX a M<|d.drop<|i+1) f λB t n v Q Z h'=>⟨B,v,Z,λz H4 O=>r z H4<|Q.trans O,h'⟩⟩
  |none=>rw[q]at f;exact f.elim
 ·left;have e:d.drop i=[]:=cu (by omega);rw[e]at f;exact⟨S i<|by omega,f b p j .refl w⟩
def hA(n:Nat)(b:List D):Ev:=b.map .sh++List.replicate (n - b.length) .no
noncomputable def hU:RT->R D
 |.rt d=>.ok d
 |.nx _=>.ok .non
 |.ex c ns ds=>.ex c ns ds
 |_=>.bad
def uw{b:Addr->Prop}(tt:jt K H)(fr:∀a,H a=none->b a)(r:gQ K b H vs ds):RS K b H b H (L2.start N vs) (hA N.length ds) where
 same:=.refl H
 tt:=tt
 fresh:=fr
 sub:=λ_ h=>h
 pf:=fr
 len:=by unfold L2.start hA;simp[r.length]
 sh:=λi d h=>by
  unfold hA at h;by_cases hi:i<ds.length
  ·rw[ag<|by simpa using hi,aB]at h;cases q:ds[i]? with
   |none=>rw[q]at h;cases h
   |some y=>rw[q]at h;cases h;obtain⟨v,e,c⟩:=r.getD q;refine⟨v,?_,c⟩;unfold L2.start;rw[ag<|by simpa [r.length]using hi,aB,e];rfl
  ·rw[aC<|by simpa using hi,br]at h;split at h<;>cases h
 ow:=λi d h=>by
  unfold hA at h;by_cases hi:i<ds.length
  ·rw[ag<|by simpa using hi,aB]at h;cases q:ds[i]? with
   |none=>rw[q]at h;cases h
   |some y=>rw[q]at h;cases h
  ·rw[aC<|by simpa using hi,br]at h;split at h<;>cases h
 apart:=λi j d f a h _ _ _=>by
  unfold hA at h;by_cases hi:i<ds.length
  ·rw[ag<|by simpa using hi,aB]at h;cases q:ds[i]? with
   |none=>rw[q]at h;cases h
   |some y=>rw[q]at h;cases h
  ·rw[aC<|by simpa using hi,br]at h;split at h<;>cases h
variable{P:Program}{w:World}{K:W.Frag}{O:iw}{B:Heap}
def lA{g}(F:iK K x x st f fd)(S:i3 N ps<|hY st)
 (C:∀e A b s H E,iR k (iz (hZ P w) P w K O B N x (hY st) f e A b s H E).A->lI (iz (hZ P w) P w K O B N x (hY st) f e A b s H E) E (jK st) g):
   je P w K O B (k+1) f fd ps (ip ps.length K λi=>hU<|g<|hA N.length i):=by
  refine F.wQ S (λo H Q E h=>h.1) (λe A b s H o Q E G h=>?_);obtain⟨T,z,u,i,fr,l,h⟩:=h;obtain⟨t,p,r⟩:=C e A b s H E G;dsimp only at h;refine⟨t,p,r u H u H (L2.start N o) (hA N.length i) _ (uw z fr l) ?_⟩;cases q:g (hA N.length i)with
  |nx n=>rw[q]at h;exact λJ m y _ j=>h m j.same .non .non
  |rt d=>rw[q]at h;exact λv m j l=>h m j v l
  |ex c L V=>rw[q]at h;exact h
  |bk n=>rw[q]at h;exact h.elim
  |ct n=>rw[q]at h;exact h.elim
  |bad=>rw[q]at h;exact h.elim
def kW.up(G:iP P w K O B j x ps sp)(h:j<=k):iP P w K O B k x ps sp:=let⟨f,b,fo,r⟩:=G;⟨f,b,fo.mono h,r⟩
variable{N:List Str}{qual:Str}{scope:Scope}{f:Addr}{cd:Value}{A:Around}{b:List Env}{s:Shared}{H:Hp}
def v3(T:String):D->Bool
 |.str _=>T=="str"
 |.int _=>T=="int"
 |.lst _=>T=="list"
 |_=>false
def Fi(T:String)(g:D->gP)(o:g7)(a:Ev->R (List D)):g7:=λc=>(o c).bind λx=>if v3 T x=true then(a c).bind λd=>g x d else .bad
variable{o e:Expr}{L:List Expr}{fo:g7}{fs:Ev->R (List D)}{name:Str}{apos cpos:Pos}{T id:String}{g:D->gP}
def DO(X:Cx)(E:XK)(e:Option Expr)(f:Ev->R (Option Int)):Prop:=∃t:TO,PO X e t/\
 ∀P i h H c d (Q:Option Int->Hp->Prop),RS X.K P i h H c d->Aft X.K h E H (f d) Q->t c H Q
def ve(X:Cx)(E:XK)(g:D->Option Int->Option Int->R D):Prop:=∃r,mP X r/\
 ∀c H x h lo hi (Q:VK),(∀a,H a=none->c a)->Rep X.K c H x h->Aft X.K c E H (g h lo hi) (λd i=>∀v,Rep X.K c i v d->Q v i)->r x lo hi H Q
def pI(d:D):R (Option Int):=match d with
 |.int i=>.ok (some i)
 |_=>.bad
def FR:DO X E none (λ_=>.ok none):=⟨_,Lc,λ_ _ _ H _ _ _ _ h=>h H<|.refl H⟩
def vM(h:DE X E e fo):DO X E (some e) (λc=>(fo c).bind pI):=by
 obtain⟨t,p,r⟩:=h;refine⟨_,Ld p,λP q n H l c Q s h=>r _ _ _ _ _ _ _ s<|Aft.mono (Aft.split h) λx j m d v k=>?_⟩;cases k with
 |int i=>exact⟨i,rfl,d j<|.refl j⟩
 |_=>exact(d:False).elim
def nC(g:D->Option Int->Option Int->R D)(a:g7)(l u:Ev->R (Option Int)):g7:=λc=>(a c).bind λx=>(l c).bind λi=>(u c).bind λj=>g x i j
def zz{g lo hi pos}(G:ve X E g)(S:DE X E e fo)(J:DO X E lo fl)(F:DO X E hi fu):DE X E (.Subscript e (.Slice lo hi none p2) pos) (nC g fo fl fu):=by obtain⟨r,q,n⟩:=G;obtain⟨to,y,p⟩:=S;obtain⟨tl,z,t⟩:=J;obtain⟨tu,u,m⟩:=F;refine⟨_,KU q y z u,λP H0 al H σ ρ Q s h=>p _ _ _ _ _ _ _ s<|Aft.mono (Aft.split h) λx H1 d h1 v l=>?_⟩;refine t _ _ _ _ _ _ _ (s.grow d) (Aft.mono (Aft.split h1) λi H2 c Z=>m _ _ _ _ _ _ _ ((s.grow d).grow c)<|Aft.mono (Aft.split Z) λj H3 k V=>?_);exact n _ _ _ _ _ _ _ (((s.grow d).grow c).grow k).fresh ((l.up c).up k) V
end
def BJ(d:PI X tg iter w1)(c:PI X tg iter w2):PI X tg iter (λb H R=>w1 b H R\/w2 b H R):=λa s b H R I h=>h.elim (d a s b H R I) (c a s b H R I)
variable{X:Cx}{E:XK}{tg e:Expr}{f:g7}
def C5(r:Rep K al H (.ref a)<|.lst ds):Wk K al H (uY K a) ds:=by intro j m x fr;obtain⟨l,b,e,q,rs⟩:=(r.mv x).mX;cases e;refine⟨λi d h=>?_,λi h=>⟨b,q,by rw[rs.length];exact h⟩⟩;obtain⟨v,c,g⟩:=rs.getD h;refine⟨⟨b,v,q,c⟩,λy k z=>⟨z.1,?_⟩⟩;have:=z.2 b q;rw[c]at this;cases this;exact g
def Qv(r:Rep K al H (.ref a)<|.tup ds):Wk K al H (uZ K a) ds:=by intro j m x fr;obtain⟨l,b,e,q,rs⟩:=(r.mv x).lg;cases e;refine⟨λi d h=>?_,λi h=>⟨b,q,by rw[rs.length];exact h⟩⟩;obtain⟨v,c,g⟩:=rs.getD h;refine⟨⟨b,v,q,c⟩,λy k z=>⟨z.1,?_⟩⟩;have:=z.2 b q;rw[c]at this;cases this;exact g
def m4(lo:Int)(n:Nat):List D:=(List.range n).map λ(k:Nat)=>D.int (lo+(k:Int))
def Qt{lo:Int}{n}:Wk K al H (r4 lo n) (m4 lo n):=by
 intro a c x fr;refine⟨λi d h=>?_,λi h=>?_⟩
 ·unfold m4 at h;rw[aB]at h;by_cases hi:i<n
  ·rw[List.getElem?_range hi]at h;cases h;exact⟨hi,λy b z=>⟨z.1,by rw[z.2];exact .int _⟩⟩
  ·rw[dZ<|by simpa using hi]at h;cases h
 ·unfold m4 at h;show n<=i;simpa using h
def nS(a:List D):R (List D):=match a with
 |[.int j]=>if -(2^62)<=j/\j<2^62 then .ok (m4 0 j.toNat)else .bad
 |_=>.bad
def zJ{fs pos}(n:Gl X "range")(m:X.mg "range"=none)(o:DA X E [a] fs)(l:starEach [a] X.env=[(false,eval a X.env)]):DI X E tg (.Call (.Name "range" p) [a] [] pos) (λc=>(fs c).bind nS):=by
 obtain⟨t,q,r,_⟩:=o;refine⟨_,K4 n m q l,λP A y H u c R s h=>r _ _ _ _ _ _ _ s<|Aft.mono (Aft.split h) λx d w b v g=>?_⟩;unfold nS at b;split at b
 ·rename_i j;cases g with
  |cons k i=>
   cases i;cases k;split at b
   ·rename_i z;exact⟨j,rfl,z.1,z.2,b d (.refl d) _ Qt⟩
   ·exact b.elim
 ·exact b.elim
variable{K:W.Frag}{P al:Addr->Prop}{H0 H:Hp}{σ:St}{ρ:Ev}
def Al(i:Nat)(ρ:Ev):Ev:=match ρ[i]? with
 |some (.ow a)=>ρ.set i (.sh<|.lst a)
 |_=>ρ
variable{R1:List Stmt}{st:Stmt}{g:hX}{fn:Ev->R (List D)}{pos:Pos}
def pV{b:Type}(r:R b):R b:=match r with
 |.ok a=>.ok a
 |_=>.bad
def OA(i:Nat)(f:Ev->R (List D)):hX:=λρ=>toS (f ρ) λa=>if i<ρ.length then .nx (ρ.set i<|.ow a)else .bad
def Cq(i:Nat)(f:g7):hX:=λρ=>match ρ[i]? with
 |some (.ow a)=>toS (f ρ) λd=>if a.length<sizeLine then .nx (ρ.set i<|.ow<|a++[d])else .bad
 |_=>.bad
variable{P:Program}{w:World}{mg:iw}{base:Heap}{N:List Str}{qual:Str}{scope:Scope}{f:Addr}{cd:Value}{A:Around}{outer:List Env}{s:Shared}
def FV{pos}(j:ExcBaseFacts B newId Hq qI)(q:W.excIn K C qI newId=true)
 (d:Gl (iz (hZ P w) P w K mg base N qual scope f cd A outer s H E) x)(c:mg x=some (.ref C))(a:jc x):
   DS (iz (hZ P w) P w K mg base N qual scope f cd A outer s H E) E (.Raise (some<|.Call (.Name x np) [] [] cpos) none pos) (λ_=>.ex C [] []):=
  ⟨_,Lj j q d c a,λk H0 al i σ ρ D b h=>h none i b.same ⟨rfl,rfl⟩⟩
end P2
namespace L2
open PySem PySem.Spec PyProof.Rows
variable{f:Program}{w:World}{A:Around}{R:Result->Shared->Prop}{s:Shared}
def zq{pos}(I:Nat->Shared->Prop)
 (q:∀n s,I n s->wpAny (model f w) A (pyNext it) (λr b=>match r with
 |none=>R (.ok .next) b
 |some v=>wpAny (model f w) A (letOwnedTupleGo target it v) (λ_ l=>wpAny (model f w) A (assign target env v) (λ_ k=>
 wpAny (model f w) A (forIn ifs true λc r=>if r=true then do let ok<-isTrue c env (eval c env);pure (ForInStep.yield ok)else pure (ForInStep.yield r)) (λok a=>
 if ok=true then wpAny (model f w) A (eval elt env) (λx j=>
 wpAny (model f w) A (call (.builtin "list.append") [acc,x]) (λ_ i=>∃m,m<n/\I m i) (notedBy (model f w) A env λe d=>R (.error e) d) j) (notedBy (model f w) A env λe d=>R (.error e) d) a
 else∃m,m<n/\I m a) (notedBy (model f w) A env λe d=>R (.error e) d) k) (notedBy (model f w) A env λe d=>R (.error e) d) l) (notedBy (model f w) A env λe d=>R (.error e) d) b) (notedBy (model f w) A env λe d=>R (.error e) d) s)
 (n)(h:I n s):codeAny (model f w) A (.compLoop (.ListComp elt [⟨target,iter,ifs,0⟩] scope pos) 0 it acc env) R s:=by
  refine codeAny_loop rfl I (λn s B=>?_) n h;show wpAny _ A ((compTurn (.ListComp elt [⟨target,iter,ifs,0⟩] scope pos) 0 it acc env).onRaise (λx=>do noteFrame x env;theTreesLotGoes x)) _ _ s;refine wpAny_noted ?_;rw[compTurn_list];refine aa (d6<|aa<|aS (q n s B) (λr b p=>?_) λ_ _ g=>g);cases r with
  |none=>exact af p
  |some v=>
   refine aa (aS p (λ_ l z=>?_) λ_ _ g=>g);refine aa (aS z (λ_ k y=>aa<|aS y (λok a o=>?_) λ_ _ g=>g) λ_ _ g=>g);cases ok with
   |false=>exact af ⟨rfl,o⟩
   |true=>exact aa (aa<|aS o (λx j u=>aa<|aS u (λ_ i t=>af<|af ⟨rfl,t⟩) λ_ _ g=>g) λ_ _ g=>g)
abbrev Cx.comp(X:Cx)(scope:Scope)(N':List Str)(cl:List<|Str×Addr)(fp:List Addr)(s3:Shared)(H3:Hp)(C:Addr):Cx:=
 {X with N:=N',s₀:=s3,H₀:=H3,env:=compEnvC scope cl C X.env,outer:=X.stack,ex:=fp,fn:=λ_=>false,pn:=[],xe:=λ_ _=>False}
inductive ke(X:Cx)(cl:List<|Str×Addr):List Str->List Nat->Prop
 |nil:ke X cl [] []
 |cons {x:Str} {i:Nat} {N:List Str} {ci:List Nat}:X.N[i]?=some x->(X.env.kindOf x=some .cell\/X.env.kindOf x=some .free)->cl.lookup x=X.env.cells.lookup x->ke X cl N ci->ke X cl (x::N) (i::ci)
def ke.length(h:ke X cl N ci):N.length=ci.length:=by
 induction h with
 |nil=>rfl
 |cons _ _ _ _ a=>rw[ao,ao,a]
def ke.get{X:Cx}{a:List<|Str×Addr}{N:List Str}{b:List Nat}(h:ke X a N b){k:Nat}{x:Str}(e:N[k]?=some x):∃i,b[k]?=some i/\X.N[i]?=some x/\(X.env.kindOf x=some .cell\/X.env.kindOf x=some .free)/\a.lookup x=X.env.cells.lookup x:=by
 induction h generalizing k with
 |nil=>simp at e
 |cons j g d _ c=>
  cases k with
  |zero=>simp at e;subst e;exact⟨_,rfl,j,g,d⟩
  |succ k=>simpa using c (by simpa using e)
def ju(b:Nat)(c:List Nat)(a:St):St:=List.replicate b none++c.map λi=>(a[i]?).getD none
def sI{v}(h:(ju tn ci σ)[j]?=some (some v)):∃k i,j=tn+k/\ci[k]?=some i/\σ[i]?=some (some v):=by
 unfold ju at h;by_cases b:j<tn;·rw[ag<|by simpa using b,br,ai b]at h;cases h
 ·rw[aC<|by simpa using b,b7,aB]at h;cases q:ci[j - tn]? with
  |none=>rw[q]at h;cases h
  |some i=>
   rw[q]at h;refine⟨j - tn,i,by omega,q,?_⟩;have a:(σ[i]?).getD none=some v:=Option.some.inj h;cases z:σ[i]? with
   |none=>rw[z]at a;cases a
   |some y=>rw[z]at a;exact cn some a
def ou:(ju tn ci σ).length=tn+ci.length:=by unfold ju;simp
def qh(y:TI)(h:Nat)(n:List Nat)(g:TG)(B:TT)(z:TE):TE:=λk H Q=>y k H λJ p=>∀l,p l=none->∃W:Nat->Nat->Hp->Prop,(∃m,W 0 m<|upd p l<|.lst [])/\∀i m d,W i m d->(∀b o u,upd p l (.lst []) b=some (.jD o u)->d b=some (.jD o u))->
 (J.stop i d/\Q (.ref l) d)\/(J.go i d/\∀x t,J.uN i d x t->g x (ju h n k) t λa C=>(a.length=h+n.length/\∀j,h<=j->a[j]?=(ju h n k)[j]?)/\B a C λb r=>if b=true then z a r λv q=>∃c,q l=some (.lst c)/\c.length<sizeLine/\∃e,e<m/\W (i+1) e (upd q l<|.lst<|c++[v])else∃e,e<m/\W (i+1) e r)
def PF(X:Cx)(d:List Expr)(t:TT):Prop:=
 ∀a s b H Q,Inv X a b H s->t b H Q->
  wpAny (model X.prog X.w) X.A (forIn d true λc r=>if r=true then do let ok<-isTrue c X.env (eval c X.env);pure (ForInStep.yield ok)else pure (ForInStep.yield r)) (TP X a b Q) X.xe s
def BE:PF X [] (λ_ H Q=>Q true H):=λ_ _ _ H _ I h=>wpAny_tests_nil ⟨H,I,h⟩
def K3{t}(h:PT X c t):PF X [c] t:=λa s b H Q I d=>wpAny_tests_one (h a s b H Q I d)
variable{X:Cx}{M B L:Expr}{K:List Expr}{scope:Scope}{pos:Pos}{O:TI}{g:TG}{tc:TT}{te:TE}{E:List<|Str×Addr}{tn:Nat}{Nt Nc:List Str}{F:List Nat}
def zr{N:List<|Addr×Obj}{s:Shared}{σ:St}{H:Hp}{Q:VK}{RR:Value->Addr->Result->Shared->Prop}(I:Inv X N σ H s)(hc:X.calm=true)(hi:PI X M B O)
    (hg:∀D s3 H3 C,PG (X.comp scope (Nt++Nc) E D s3 H3 C) M g)(hf:∀D s3 H3 C,PF (X.comp scope (Nt++Nc) E D s3 H3 C) K tc)(he:∀D s3 H3 C,PE (X.comp scope (Nt++Nc) E D s3 H3 C) L te)
    (hkind:scope.kind=.function)(hcell:lX scope)(k4:ke X E Nc F)(lS:Nt.length=tn)
    (V:∀x c,E.lookup x=some c->X.env.cells.lookup x=some c)(hhas:∀x,((relabel scope X.env).names.lookup x=some .cell\/(relabel scope X.env).names.lookup x=some .free)->∃c,E.lookup x=some c)
    (lU:∀x∈Nc,(relabel scope X.env).names.lookup x=some .cell\/(relabel scope X.env).names.lookup x=some .free)
    (h:qh O tn F g tc te σ H Q)
    (fin:∀l C H' s' m,s'.heap.Ns C m->Inv X N σ H' s'->H' C=none->C≠X.env.locals->X.s₀.heap.objs.size<=C->(∀x c,X.env.cells.lookup x=some c->c≠C)->(∀p∈X.pn++N,p.1≠C)->Q (.ref l) H'->RR (.ref l) C (.ok .next) s'):
    wpAny (model X.prog X.w) X.A (eval B X.env) (λx x9=>wpAny (model X.prog X.w) X.A (pyIter x) (λit ya=>wpAny (model X.prog X.w) X.A (newList []) (λacc yb=>wpAny (model X.prog X.w) X.A (newFunctionEnv scope X.env.globals E [] X.env.qual none .none<|some X.env) (λqK yc=>codeAny (model X.prog X.w) X.A (.compStart (.ListComp L [⟨M,B,K,0⟩] scope pos) 0 it acc {qK with scope:=relabel scope X.env}) (RR acc qK.locals) yc) X.xe yb) X.xe ya) X.xe x9) X.xe s:=by
 refine g8 (hi N s σ H _ I h) λv s1 h1=>g8 h1 λAO s2 h2=>?_;obtain⟨it,D,tk,J,H2,rfl,I2,T,rG,f2,hW⟩:=h2;refine aT (wpAny_newFunctionEnv hcell (by intro y hy;simp at hy) (λoC S P=>?_) hkind);dsimp only at S P⊢;generalize hG:s2.heap.push {cls:=.type "list",dict:=none,data:=.seq ([]:List Value).toArray}=G at S P⊢;have tE:G.objs.size=s2.heap.objs.size+1:=by rw[<-hG,bI]
 have hl:H2 s2.heap.objs.size=none:=I2.hok.fresh (ah _);obtain⟨W,⟨m0,w0⟩,turn⟩:=hW _ hl;have t:Inv X N σ (upd H2 s2.heap.objs.size<|.lst []) {s2 with heap:=G}:=by rw[<-hG];exact I2.laid (t':=s2.toks) (λb u e=>ae _ e) (ah _) ⟨bD _,[],0,.nil,aw _ rfl⟩
 generalize q3:upd H2 s2.heap.objs.size (.lst [])=H3 at w0 t;have keep:∀b o,G.get? b=some o->oC.get? b=some o:=λb o e=>P.extBut b o (aO<|Heap.lt_size e) (ae _ e);have kO:∀b∈D,b<s2.heap.objs.size:=λb a=>by obtain⟨o,e,_⟩:=T.obj 0 _ rG b a;exact Heap.lt_size e
 have qP:∀b∈D,b≠G.objs.size:=λb a=>aO (ay (kO b a)<|by rw[tE];exact dI _);have qQ:∀b∈D,H3 b=none:=λb a=>by rw[<-q3,gY<|aO<|kO b a];exact(f2 b a).1
 let X':=X.comp scope (Nt++Nc) E D {s2 with heap:=G} H3 G.objs.size
 have ok':X'.Ok:=by
  refine⟨t.ok.mod,(by show(relabel scope X.env).kind=_;exact hkind),t.ok.glob,t.ok.blt,ah _,λx y c e1 e2=>t.ok.inj x y c (V x c e1)<|V y c e2,λx hx=>hhas x hx,(λx c z=>nomatch z),t.ok.hd,t.ok.frames,.inl rfl,λb a=>⟨qP b a,λx c e=>(f2 b a).2.2.2.2.1 x c (V x c e)⟩,λb o e=>t.bs b o e,aI t.ok.ny t.sz,λb o e a=>?_,λb a z=>?_,t.stack,t.uG⟩
  ·rcases(f2 b a).2.2.2.1 with z|z;·exact t.ok.tV b o e z
   ·exact absurd (ay (Heap.lt_size e)<|aI t.ok.ny z) (bj _)
  ·rcases aF.mp (t.rJ b z)with e|e;·exact(f2 b a).2.1 e
   ·exact(f2 b a).2.2.1 e
 have J0:Inv X' [] (ju tn F σ) H3 {s2 with heap:=oC,toks:=s2.toks+0}:=by
  refine⟨ok',rfl,t.bare,Un.kept keep,⟨_,S,λi x v e1 e2 e3=>?_⟩,λx c e=>?_,t.hok.fresh<|ah _,λx c e=>t.mw x c<|V x c e,λp hp=>absurd (show p∈([]:List<|Addr×Obj)from hp)<|by simp,t.hok.kept keep,?_⟩
  ·obtain⟨k,j,rfl,q1,q2⟩:=sI e2;have pE:Nc[k]?=some x:=by
    rw[aC<|by omega]at e1;rw[show tn+k - Nt.length=k by omega]at e1;exact e1
   obtain⟨j',z1,z2,z3,z4⟩:=k4.get pE;rw[q1]at z1;cases z1;obtain⟨m,hn,v8⟩:=t.loc;obtain⟨u,r,lk⟩:=v8 j x v z2 q2 (z3.elim (λz=>.inr<|.inl z) λz=>.inr<|.inr z);refine⟨u,r,.inr ⟨lU x<|aM pE,?_⟩⟩;rcases lk with⟨k1,_⟩|⟨_,c,k2,k3⟩;·rcases z3 with z|z<;>(rw[k1]at z;cases z)
   ·refine⟨c,z4.trans k2,?_⟩;obtain⟨o,ho,hd⟩:=k3;exact⟨o,keep _ _ ho,hd⟩
  ·obtain⟨v,o,ho,hd⟩:=t.cell x c (V x c e);exact⟨v,o,keep _ _ ho,hd⟩
  ·rw[ou];show _=(Nt++Nc).length;rw[aq,k4.length,lS]
 have stat:∀{Y:List<|Addr×Obj} {H':Hp},(∀p∈Y,p.1∉D)->(∀b∈D,H' b=none)->∀b∈D,mM X' Y H' b:=λ{Y H'} hp hn b a=>⟨hn b a,qP b a,λz=>ok'.sU b a z,.inl a,λx c e=>(ok'.Aa b a).2 x c e,λp wa z=>hp p ((bx.mp wa).elim (λw=>absurd (show p∈([]:List<|Addr×Obj)from w)<|by simp) λw=>w)<|by rw[z];exact a⟩
 have mk:∀(s5:Shared),(∀i H5,Inv X' [] (ju tn F σ) H5 s5->tk i s5.heap->(∀b∈D,H5 b=none)->∀n,W i n H5->
  codeAny (model X.prog X.w) X.A (.compLoop (.ListComp L [⟨M,B,K,0⟩] scope pos) 0 (.ref it) (.ref s2.heap.objs.size) (compEnvC scope E G.objs.size X.env)) (RR (.ref s2.heap.objs.size) G.objs.size) s5):=by
  intro s5 i5 H5 J5 xZ vW n5 w5;refine zq (λn s'=>∃i H',Inv X' [] (ju tn F σ) H' s'/\tk i s'.heap/\(∀b∈D,H' b=none)/\W i n H') ?_ n5 ⟨i5,H5,J5,xZ,vW,w5⟩
  rintro n s6 ⟨i,H6,J6,rH,qR,w6⟩
  rcases turn i n H6 w6 (λb o u e=>J6.base.lO b o u (show H3 b=_ by rw[<-q3];exact e))with⟨stop,q⟩|⟨go,step⟩
  ·refine aS (T.done X' rfl rfl rfl hc i [] s6 _ H6 (λ_ _=>False) J6 (stat (by simp) qR) rH stop) (λr s7 ⟨hr,J7⟩=>?_) λ_ _ z=>z.elim;subst hr;obtain⟨m,hn,_⟩:=J7.loc;have IX:Inv X N σ H6 s7:=t.vB (ch:=D) J7.os J7.base J7.hok J7.bare λb a=>⟨(f2 b a).2.2.2.1,(f2 b a).2.1,(f2 b a).2.2.2.2.1,(f2 b a).2.2.2.2.2⟩;refine fin _ _ H6 s7 m hn IX J7.free (cc t.lt) (aI t.sz<|ah _) (λx c e z=>?_) (λp hp z=>?_) q
   ·obtain⟨v,o,ho,_⟩:=t.cell x c e;exact absurd (Heap.lt_size ho) (by rw[z];exact bj _)
   ·exact absurd (Heap.lt_size (t.pin p hp).1) (by rw[z];exact bj _)
  ·refine aS (T.item X' rfl rfl rfl hc i [] s6 _ H6 (λ_ _=>False) J6 (stat (by simp) qR) rH go) (λr s7 ⟨u,hr,h7⟩=>?_) λ_ _ z=>z.elim;subst hr;refine aS h7 (λ_ s8 Z=>?_) λ_ _ z=>z.elim;obtain⟨x,H8,J8,r8,y8,oS,vX⟩:=Z;have u2:=J8.pinned (stat (by simp) vX) (T.obj _ _ oS)
   have back:∀{U:St} {H9:Hp} {s9:Shared},Inv X' ([]++pZ D s8.heap) U H9 s9->U.length=tn+F.length->(∀j,tn<=j->U[j]?=(ju tn F σ)[j]?)->∀m',m'<n->W (i+1) m' H9->
    ∃m,m<n/\∃i H',Inv X' [] (ju tn F σ) H' s9/\tk i s9.heap/\(∀b∈D,H' b=none)/\W i m H':=λ{U H9 s9} J9 v7 v5 m' hm w9=>by
    refine⟨m',hm,i+1,H9,J9.rN.weak (by rw[ou,v7]) λj v e=>?_,T.keep _ _ _ oS λb a o e=>(J9.pin (b,o)<|aQ _<|aQ _<|pT a e).1,λb a=>?_,w9⟩
    ·obtain⟨k,_,rfl,_⟩:=sI e;rw[v5 _<|by omega];exact e
    ·obtain⟨o,e,d⟩:=T.obj _ _ oS b a;exact(J9.pin (b,o)<|aQ _<|aQ _<|pT a e).2.1
   refine aS (hg D _ _ _ _ s8 _ H8 x u _ u2 r8<|step x H8 y8) (λ_ s9 Z=>?_) λ_ _ z=>z.elim;obtain⟨U,H9,J9,⟨l9,k9⟩,q9⟩:=Z;refine aS (hf D _ _ _ _ s9 U H9 _ J9 q9) (λb qa ⟨qx,qz,mZ⟩=>?_) λ_ _ z=>z.elim;cases b with
   |false=>rw[ak aA]at mZ⊢;obtain⟨m',hm,yk⟩:=mZ;exact back qz l9 k9 m' hm yk
   |true=>rw[ai rfl]at mZ⊢;refine aS (he D _ _ _ _ qa U qx _ qz mZ) (λy lE Z=>?_) λ_ _ z=>z.elim;obtain⟨v,qy,u0,xo,acc,vS,yq,m',hm,ym⟩:=Z;refine aS (tP (X:=X') _ lE U qy (.ref _) [v] (.ref _) [y] (λ_ nj=>W (i+1) m' nj) u0 rfl (.cons xo .nil) ⟨_,acc,v,rfl,rfl,vS,yq,ym⟩) (λ_ mE Z=>?_) λ_ _ z=>z.elim;obtain⟨_,nj,u1,_,yn⟩:=Z;exact back u1 l9 k9 m' hm yn
 have oR:tk 0 oC:=T.keep _ _ _ rG λb _ o e=>keep b o (by rw[<-hG];exact ae _ e);exact codeAny_compStart_list (mk _ 0 H3 J0 oR qQ m0 w0) (T.self _ 0 _ _ _ oR<|mk _ 0 H3 J0 oR qQ m0 w0)
def Bz(T:X.calm=true)(hi:PI X M B O)(P:∀v k y C,PG (X.comp scope (Nt++Nc) E v k y C) M g)(hf:∀v k y C,PF (X.comp scope (Nt++Nc) E v k y C) K tc)(S:∀v k y C,PE (X.comp scope (Nt++Nc) E v k y C) L te)
 (i:closureFor scope X.env=pure E)(a:scope.kind=.function)(j:lX scope)(d:kN scope)(u:ke X E Nc F)(z:Nt.length=tn)
 (p:∀x c,E.lookup x=some c->X.env.cells.lookup x=some c)(t:∀x,((relabel scope X.env).names.lookup x=some .cell\/(relabel scope X.env).names.lookup x=some .free)->∃c,E.lookup x=some c)
 (n:∀x∈Nc,(relabel scope X.env).names.lookup x=some .cell\/(relabel scope X.env).names.lookup x=some .free)
 (J:∀x,foldedSetIterable B X.env x=pure x):PE X (.ListComp L [⟨M,B,K,0⟩] scope pos) (qh O tn F g tc te):=by intro D s σ H Q I h;rw[eval_ListComp];refine cF (use:=none) rfl J i a d (zr (Nt:=Nt) (Nc:=Nc) I T hi P hf S a j u z p t n h ?_);intro l C H' G m N I' h1 Z Y W V q;exact⟨m,N,λvZ r=>⟨.ref l,H',I'.turned (t':=G.toks) (λb o U e=>r.extBut b o U e) h1 Z (.inr Y) W V,rfl,q⟩⟩
def sd(X:Cx)(e:Expr)(t:TE):Prop:=
 ∀(i:Nat) (x:Str) (pos':Pos) (_:X.N.Nodup) (_:X.N[i]?=some x) (_:Loc X.env.scope x) (_:X.hf x) (pins:List<|Addr×Obj) (s:Shared) (σ:St) (H:Hp) (Q:VK),Inv X pins σ H s->t σ H Q->
  wpAny (model X.prog X.w) X.A (evalThenUse e X.env<|assign (.Name x pos') X.env) (λ_ b=>∃v a,Inv X pins (σ.set i<|some v) a b/\Q v a) X.xe s
def Ln(hc:X.calm=true)(hi:PI X M B O)(hg:∀P t S C,PG (X.comp scope (Nt++Nc) E P t S C) M g)(hf:∀P t S C,PF (X.comp scope (Nt++Nc) E P t S C) K tc)(he:∀P t S C,PE (X.comp scope (Nt++Nc) E P t S C) L te)
    (n:closureFor scope X.env=pure E)(d:scope.kind=.function)(p:lX scope)(j:kN scope)(J:ke X E Nc F)(V:Nt.length=tn)
    (y:∀x c,E.lookup x=some c->X.env.cells.lookup x=some c)(G:∀x,((relabel scope X.env).names.lookup x=some .cell\/(relabel scope X.env).names.lookup x=some .free)->∃c,E.lookup x=some c)
    (u:∀x∈Nc,(relabel scope X.env).names.lookup x=some .cell\/(relabel scope X.env).names.lookup x=some .free)
    (hs:∀x,foldedSetIterable B X.env x=pure x):sd X (.ListComp L [⟨M,B,K,0⟩] scope pos) (qh O tn F g tc te):=by
 intro i x k hN T hx U W s σ H Q I h;unfold evalThenUse;refine aa (cF (use:=some<|assign (.Name x k) X.env) rfl hs n d j<|zr (Nt:=Nt) (Nc:=Nc) I hc hi hg hf he d p J V y G u h ?_);intro l C H' s' m hn I' h1 Z h3 Y h5 q;show wpAny _ _ (assign (.Name x k) X.env<|.ref l) _ _ _;refine aa (d6<|eI<|x8 I' hN T hx (v:=.ref l) rfl (λs2 I2 N=>?_) U);obtain⟨a,sb,N⟩:=N;have ne:C≠a:=by
  rcases N with rfl|N;·exact Z
  ·exact λz=>Y _ _ N z.symm
 obtain⟨o,es,ep,e,r⟩:=hn;refine⟨m,⟨o,es,ep,(sb.2 C ne).trans e,r⟩,λvZ D=>af ⟨.ref l,H',I2.turned (t':=s2.toks) (λb o hb e=>D.extBut b o hb e) h1 Z (.inr h3) Y h5,q⟩⟩
def BW{i:Nat}{x:Str}{e:Expr}{te:TE}{a b:Pos}(hN:X.N.Nodup)(hi:X.N[i]?=some x)(j:Loc X.env.scope x)(l:sd X e te)(k:swapsWith e (some<|.Name x a) b.line X.env=pure true)(hf:X.hf x):
    PS X (.Assign [.Name x a] e b) (yd te<|pJ i):=by
 intro c s d H D I h;rw[exec_Assign_Name_used _ _ _ _ k];refine aa (d6<|aa<|g8 (l i x a hN hi j hf c s d H _ I h) λ_ o ⟨v,n,m,q⟩=>af ⟨_,n,m,q⟩)
end L2
namespace P2
open PySem L2 PyProof.Rows
abbrev bits(x:Int):Nat:=Builtin.Int.intBits x
def pW(h:iV X f r)(e:iV X f r'):iV X f (λx y H Q=>r x y H Q\/r' x y H Q):=
 λa s b H x y v u Q I d c q=>q.elim (h a s b H x y v u Q I d c) (e a s b H x y v u Q I d c)
def iB(C:Int->Int->Bool)(g:Int->Int->D)(x y:D):R D:=match x,y with
 |.int i,.int j=>if C i j=true then .ok (g i j)else .bad
 |_,_=>.bad
section
variable{X:Cx}{E:XK}
def Bv{a:Value->Value->Sem Value}{C:Int->Int->Prop}{d:Int->Int->Bool}{g:Int->Int->V}{b:Int->Int->D}(k:iV X a<|rI C g)(hC:∀i j,d i j=true->C i j)(l:∀i j K c H,Rep K c H (g i j)<|b i j):jz X E a (iB d b):=by
 refine⟨_,k,λc H x y n m Q fr f e h=>?_⟩;unfold iB at h;split at h
 ·rename_i i j;cases f;cases e;split at h
  ·rename_i z;exact⟨i,j,rfl,rfl,hC i j z,h H (.refl H) _<|l i j _ _ _⟩
  ·exact h.elim
 ·exact h.elim
def wY{a:Value->Value->Sem Value}{g:Int->Int->V}{b:Int->Int->D}(f:iV X a<|oK g)(k:∀i j K c H,Rep K c H (g i j)<|b i j):jz X E a (iB (λ_ _=>true) b):=by
 refine⟨_,f,λc H x y m l Q fr e d h=>?_⟩;unfold iB at h;split at h
 ·rename_i i j;cases e;cases d;exact⟨i,j,rfl,rfl,h H (.refl H) _<|k i j _ _ _⟩
 ·exact h.elim
def nX:D->D->R D:=iB (λ_ _=>true) λi j=>.int (i - j)
def Bu:jz X E (binaryOp .Sub) nX:=wY Kq λ_ _ _ _ _=>.int _
def wN(i j:Int):Bool:=decide (bits i<=1048576)&&decide (bits j<=1048576)
def rq(_ j:Int):Bool:=decide (j≠0)&&decide (bits j<=9000)
def ib:D->D->R D:=iB rq λi j=>.int (i.fdiv j)
def jF:jz X E (binaryOp .FloorDiv) ib:=Bv Kc (λi j h=>by unfold rq at h;simpa [yA]using h) λ_ _ _ _ _=>.int _
def ir:D->D->R D:=iB (λ_ j=>decide<|j≠0) λi j=>.int (i.fmod j)
def jM:jz X E (binaryOp .Mod) ir:=Bv Ki (λi j h=>by simpa using h) λ_ _ _ _ _=>.int _
def nL:D->D->R D:=iB (λ_ _=>true) λi j=>.bl (decide<|i<j)
def Ir:D->D->R D:=iB (λ_ _=>true) λi j=>.bl (decide<|i<=j)
def lR:D->D->R D:=iB (λ_ _=>true) λi j=>.bl (decide<|j<i)
def Gz:D->D->R D:=iB (λ_ _=>true) λi j=>.bl (decide<|j<=i)
def ug:jz X E (compareOp .Lt) nL:=wY Kh λ_ _ _ _ _=>.bl _
def uf:jz X E (compareOp .Gt) lR:=wY Kd λ_ _ _ _ _=>.bl _
def tR:D->R D
 |.int i=>.ok (.int<|-i)
 |_=>.bad
def Qj:yQ X E (unaryOp .USub) tR:=by
 refine⟨_,Qi,λc H x b Q fr a h=>?_⟩;unfold tR at h;split at h;·cases a;exact⟨_,rfl,h H (.refl H) _<|.int _⟩
 ·exact h.elim
def si(K:W.Frag)(H:Hp)(a:Addr)(b:List V):Prop:=Rd H a (.lst b)\/KL K a b
def si.is(I:Inv X pins σ H s)(h:si X.K H a xs):∃b n,Vals xs b/\s.heap.get? a=some {cls:=.type "list",data:=.seq b.toArray n}:=by
 rcases h with h|⟨b,n,h1,h2,h3⟩
 ·obtain⟨z,b,n,r,e⟩:=h.ok I.hok;exact⟨b,n,r,e⟩
 ·exact⟨b,n,h3,I.j6 a _ h1⟩
def NU(K:W.Frag):R2:=λx y H Q=>∃l b c a,x=.ref l/\y=.ref b/\si K H l c/\si K H b a/\c.length+a.length<=sizeLine/\∀p,H p=none->Q (.ref p) (upd H p<|.lst<|c++a)
def J3:iV X (binaryOp .Add) (NU X.K):=by
 intro f s t H x y v u Q I i g h;obtain⟨l,b,z,w,rfl,rfl,k,m,B,q⟩:=h;cases i;cases g;obtain⟨c,n,r,e⟩:=k.is I;obtain⟨a,A,d,p⟩:=m.is I;have C:=r.length;have j:=d.length;refine PySem.P.add_list e p ?_ (by rw[aK,aK];omega);have o:c.toArray++a.toArray=(c++a).toArray:=by simp
 rw[o];exact⟨.ref _,_,I.IC (t':=s.toks) (r.append d)<|by rw[aq];omega,rfl,q _ I.fresh⟩
def ik:D->D->R D
 |.int i,.int j=>.ok (.int<|i+j)
 |.str i,.str j=>if i.length+j.length<=sizeLine then .ok (.str<|i++j)else .bad
 |.lst xs,.lst a=>if xs.length+a.length<=sizeLine then .ok (.lst<|xs++a)else .bad
 |_,_=>.bad
def jY:jz X E (binaryOp .Add) ik:=by
 refine⟨_,pW J1<|pW J2 J3,λo H x y n m Q fr d c h=>?_⟩;unfold ik at h;split at h;·cases d;cases c;exact .inl ⟨_,_,rfl,rfl,h H (.refl H) _<|.int _⟩
 ·cases d;cases c;split at h;·rename_i z;exact .inr (.inl ⟨_,_,rfl,rfl,z,h H (.refl H) _<|.str _⟩)
  ·exact h.elim
 ·split at h
  ·rename_i z;obtain⟨a,j,rfl,l,g⟩:=d.Be;obtain⟨b,i,rfl,k,f⟩:=c.Be;exact .inr (.inr ⟨a,b,j,i,rfl,rfl,l,k,by rw[g.length,f.length];exact z,λp e=>h _ (jG e) _ ((g.append f).nH e (fr p e))⟩)
  ·exact h.elim
 ·exact h.elim
def wO(x:Str)(n:Int):Bool:=!(decide (n< -(2^63:Int))||decide (n≥2^63))&&decide (x.length*n.toNat<=1000000)&&decide (x.length<=1000000)&&decide (n<=1000000)
def Kl:iV X (binaryOp .Mult) (λx y H Q=>∃i n,x=.str i/\y=.int n/\MulOk i n/\Q (.str<|Txt.mul i n) H):=by intro a s f H x y v u Q I d c h;obtain⟨i,j,rfl,rfl,e,q⟩:=h;obtain⟨t,rfl⟩:=d;obtain⟨g,rfl⟩:=c;exact SB.mul e λb k=>⟨.str _,H,I.tok _,⟨_,rfl⟩,q⟩
def mulOk_of{n:Int}(h:wO x n=true):MulOk x n:=by
 unfold wO at h;simp only[aN,bF,Bool.not_eq_true']at h;obtain⟨⟨⟨b,g⟩,f⟩,a⟩:=h;refine⟨b,λe _=>?_,λ_ _=>?_⟩
 ·have d:(1:Int)<=n:=by omega
  have c:(1000000:Int)<=(2^63 - 1)/n:=by apply(Int.le_ediv_iff_mul_le<|by omega).mpr;have:(1000000:Int)*n<=1000000*1000000:=Int.mul_le_mul_of_nonneg_left a (by decide);omega
  omega
 ·have:sizeLine=16777216:=cU;unfold Builtin.Str.tooLong;simp only[cM];omega
def pF:D->D->Option Bool
 |.non,.non=>some true
 |.int i,.int j=>some (decide<|i=j)
 |.str i,.str j=>some (decide<|i=j)
 |.bl i,.bl j=>some (decide<|i=j)
 |.non,.int _=>some false
 |.int _,.non=>some false
 |.non,.str _=>some false
 |.str _,.non=>some false
 |.non,.bl _=>some false
 |.bl _,.non=>some false
 |.int _,.str _=>some false
 |.str _,.int _=>some false
 |_,_=>none
def j5(x y:D):R D:=match pF x y with
 |some b=>.ok (.bl b)
 |none=>.bad
def pU(x y:D):R D:=match pF x y with
 |some b=>.ok (.bl<|!b)
 |none=>.bad
def Ag{K:W.Frag}{a:Addr->Prop}{H:Hp}{x y:V}{f e:D}{b:Bool}(d:Rep K a H x f)(c:Rep K a H y e)(h:pF f e=some b):xM x y=true/\decide (x=y)=b:=by
 have k:∀{x i},Rep K a H x (.int i)->x=.int i:=λr=>by cases r;rfl
 have g:∀{x i},Rep K a H x (.str i)->x=.str i:=λr=>by cases r;rfl
 have l:∀{x i},Rep K a H x (.bl i)->x=.bl i:=λr=>by cases r;rfl
 have j:∀{x},Rep K a H x .non->x=.non:=λr=>by cases r;rfl
 unfold pF at h;split at h<;>first|(cases h;done)|(first|cases k d|cases g d|cases l d|cases j d)<;>(first|cases k c|cases g c|cases l c|cases j c)<;>(cases h;refine⟨rfl,?_⟩;simp)
def ry:jz X E (compareOp .Eq) j5:=by
 refine⟨_,Ka,λi H x y g f Q fr c a h=>?_⟩;unfold j5 at h;cases q:pF g f with
 |none=>rw[q]at h;exact h.elim
 |some b=>rw[q]at h;obtain⟨e,d⟩:=Ag c a q;exact⟨e,by rw[d];exact h H (.refl H) _ (.bl b)⟩
def Kn:jz X E (compareOp .NotEq) pU:=by
 refine⟨_,Km,λi H x y g f Q fr c a h=>?_⟩;unfold pU at h;cases q:pF g f with
 |none=>rw[q]at h;exact h.elim
 |some b=>rw[q]at h;obtain⟨e,d⟩:=Ag c a q;exact⟨e,by rw[d];exact h H (.refl H) _ (.bl _)⟩
def Ho:D->D->R D
 |.str i,.str j=>.ok (.bl<|Txt.contains j i)
 |_,_=>.bad
def gQ.iM{K:W.Frag}{c:Addr->Prop}{H:Hp}{b:List V}{a:List D}(r:gQ K c H b a){i:Int}{d:D}(h:L2.iM a i=some d):∃v,L2.iM b i=some v/\Rep K c H v d:=by
 unfold L2.iM at h⊢;rw[r.length];cases q:oG a.length i with
 |none=>rw[q]at h;cases h
 |some j=>rw[q]at h;exact r.getD h
def hK:D->D->R D
 |.lst ds,.int i=>match L2.iM ds i with
  |some d=>.ok d
  |none=>.bad
 |.tup ds,.int i=>match L2.iM ds i with
  |some d=>.ok d
  |none=>.bad
 |.str z,.int i=>if z.length<=sizeLine then(match L2.iM z.cps.toList i with
  |some c=>.ok (.str ⟨#[c]⟩)
  |none=>.bad)else .bad
 |_,_=>.bad
abbrev gO(i:Nat)(k:Int):g7:=d2 hK (dV i) (gJ k)
def kF:yG X E hK:=by
 refine⟨_,HH,λr H x y p o Q fr f e h=>?_⟩;unfold hK at h;split at h
 ·rename_i m i;cases e;cases q:L2.iM m i with
  |none=>rw[q]at h;exact h.elim
  |some d=>rw[q]at h;obtain⟨a,b,rfl,j,g⟩:=f.mX;obtain⟨v,l,k⟩:=gQ.iM g q;exact .inl ⟨a,b,i,v,rfl,rfl,j,l,h H (.refl H) _ k⟩
 ·rename_i m i;cases e;cases q:L2.iM m i with
  |none=>rw[q]at h;exact h.elim
  |some d=>rw[q]at h;obtain⟨a,b,rfl,j,g⟩:=f.lg;obtain⟨v,l,k⟩:=gQ.iM g q;exact .inr (.inl ⟨a,b,i,v,rfl,rfl,j,l,h H (.refl H) _ k⟩)
 ·rename_i z i;cases f;cases e;split at h
  ·rename_i n;cases q:L2.iM z.cps.toList i with
   |none=>rw[q]at h;exact h.elim
   |some c=>rw[q]at h;exact .inr (.inr ⟨z,i,c,rfl,rfl,n,q,h H (.refl H) _<|.str _⟩)
  ·exact h.elim
 ·exact h.elim
def hF(i){x:Str}{k j}{p c b}(hN:X.N[i]?=some x:=by rfl)(d:oa X.env.scope x:=by first|exact Or.inl rfl|exact Or.inr (Or.inl rfl)|exact Or.inr (Or.inr rfl))(e:(x==("__debug__":Str))=false:=by decide)(a:(x==("__classdict__":Str))=false:=by decide):DE X E (.Subscript (.Name x p) (.Constant (.int k) j c) b) (gO i k):=kB kF (gK i hN d e a) gS
def N1:V->Option Int->Option Int->Hp->VK->Prop:=λx lo hi H Q=>∃z,x=.str z/\z.length<=sizeLine/\Q (.str<|Txt.slice z lo hi) H
def OX:mP X N1:=by
 intro m s w H x v A y lo hi B Q I n r p g h;obtain⟨z,rfl,a,q⟩:=h;obtain⟨t,rfl⟩:=n;refine⟨"str",_,PySem.F.slot_str_getitem.lookup,typeIs_str s z t,?_⟩;obtain⟨o,d,c,b⟩:=r;cases p with
 |none=>
  cases g with
  |none=>exact cN (l:=none) (u:=none) (st:=none) ⟨o,d,c,b⟩ rfl (eu ⟨aI (fK z none none) a,λe k=>⟨.str _,H,I.tok _,⟨_,rfl⟩,q⟩⟩)
  |int j u=>exact cN (l:=none) (u:=some (j,u)) (st:=none) ⟨o,d,c,b⟩ rfl (eu ⟨aI (fK z none<|some j) a,λe k=>⟨.str _,H,I.tok _,⟨_,rfl⟩,q⟩⟩)
 |int i f=>
  cases g with
  |none=>exact cN (l:=some (i,f)) (u:=none) (st:=none) ⟨o,d,c,b⟩ rfl (eu ⟨aI (fK z (some i) none) a,λe k=>⟨.str _,H,I.tok _,⟨_,rfl⟩,q⟩⟩)
  |int j u=>exact cN (l:=some (i,f)) (u:=some (j,u)) (st:=none) ⟨o,d,c,b⟩ rfl (eu ⟨aI (fK z (some i)<|some j) a,λe k=>⟨.str _,H,I.tok _,⟨_,rfl⟩,q⟩⟩)
def cutD(a:List D)(lo hi:Option Int):List D:=(a.drop<|HT.hI a.length 0 lo).take (HT.hI a.length a.length hi - HT.hI a.length 0 lo)
def gQ.cut{K:W.Frag}{c:Addr->Prop}{H:Hp}{a:List V}{b:List D}(r:gQ K c H a b)(lo hi:Option Int):gQ K c H (nB a lo hi) (cutD b lo hi):=by unfold nB cutD;rw[r.length];exact(r.drop _).take _
def rD:D->Option Int->Option Int->R D
 |.lst ds,lo,hi=>.ok (.lst<|cutD ds lo hi)
 |.str z,lo,hi=>if z.length<=sizeLine then .ok (.str<|Txt.slice z lo hi)else .bad
 |_,_,_=>.bad
def OV:ve X E rD:=by
 refine⟨_,OW.or OX,λj H x i lo hi Q fr c h=>?_⟩;unfold rD at h;split at h
 ·obtain⟨a,d,rfl,g,f⟩:=c.mX;exact .inl ⟨a,d,rfl,g,λp b=>h _ (jG b) _<|(f.cut lo hi).nH b (fr p b)⟩
 ·cases c;split at h;·rename_i e;exact .inr ⟨_,rfl,e,h H (.refl H) _<|.str _⟩
  ·exact h.elim
 ·exact h.elim
def pO:gP
 |[.str z]=>if z.length<=sizeLine then .ok (.int z.length)else .bad
 |[.lst ds]=>.ok (.int ds.length)
 |[.tup ds]=>.ok (.int ds.length)
 |_=>.bad
def gQ.one{K:W.Frag}{e:Addr->Prop}{H:Hp}{c:List V}{d:D}(r:gQ K e H c [d]):∃v,c=[v]/\Rep K e H v d:=by
 cases r with
 |cons a b=>cases b;exact⟨_,rfl,a⟩
def gQ.two{K:W.Frag}{c:Addr->Prop}{H:Hp}{f:List V}{d e:D}(r:gQ K c H f [d,e]):∃v u,f=[v,u]/\Rep K c H v d/\Rep K c H u e:=by
 cases r with
 |cons a b=>obtain⟨u,rfl,q⟩:=gQ.one b;exact⟨_,_,rfl,a,q⟩
def EM:ni X E (.builtin "len") pO:=by
 refine⟨_,EO.or EN,λi H f g Q fr r h=>?_⟩;unfold pO at h;split at h
 ·obtain⟨v,rfl,q⟩:=gQ.one r;cases q;split at h;·rename_i e;exact .inl ⟨_,rfl,e,h H (.refl H) _<|.int _⟩
  ·exact h.elim
 ·obtain⟨v,rfl,q⟩:=gQ.one r;obtain⟨a,b,rfl,d,c⟩:=q.mX;exact .inr ⟨a,b,rfl,.inl d,by rw[c.length];exact h H (.refl H) _ (.int _)⟩
 ·obtain⟨v,rfl,q⟩:=gQ.one r;obtain⟨a,b,rfl,d,c⟩:=q.lg;exact .inr ⟨a,b,rfl,.inr d,by rw[c.length];exact h H (.refl H) _ (.int _)⟩
 ·exact h.elim
def pw:gP
 |[.int i]=>.ok (.int<|if i<0 then -i else i)
 |_=>.bad
def vC:ni X E (.builtin "abs") pw:=by
 refine⟨_,EI,λc H a b Q fr r h=>?_⟩;unfold pw at h;split at h
 ·obtain⟨v,rfl,q⟩:=gQ.one r;cases q;exact⟨_,rfl,h H (.refl H) _<|.int _⟩
 ·exact h.elim
def Jb:gP
 |[.int i,.int j]=>.ok (.int<|if j>i then j else i)
 |_=>.bad
def intD:gP
 |[.str z]=>match PySem.intText? z with
  |some n=>if z.length<=640 then .ok (.int n)else .bad
  |none=>.bad
 |_=>.bad
def qJ:List D->Option (List Bool)
 |[]=>some []
 |.bl b::r=>(qJ r).map (b:: ·)
 |_=>none
def Ej:gP
 |[.lst ds]=>match qJ ds with
  |some bs=>.ok (.bl<|bs.all id)
  |none=>.bad
 |_=>.bad
def En:gP
 |[.lst ds]=>match qJ ds with
  |some bs=>.ok (.bl<|bs.any id)
  |none=>.bad
 |_=>.bad
def O9:D->gP
 |.str i,[.str j]=>.ok (.bl<|Txt.startswith i j)
 |_,_=>.bad
def QW:D->gP
 |.str z,[.int i]=>if PadOk i=true then .ok (.str<|Txt.zfill z i)else .bad
 |_,_=>.bad
def Gk:D->R D
 |.str z=>if z.length<=sizeLine then .ok (.str z)else .bad
 |.int i=>if i.natAbs.log2<1920 then .ok (.str<|toString i)else .bad
 |_=>.bad
def HL(out:Str):g7:=λ_=>if out.length<=sizeLine then .ok (.str out)else .bad
def HK(a:g7)(r:Str->g7)(out:Str):g7:=λb=>(a b).bind λx=>match x with
 |.str y=>if(out++y).length<=sizeLine then r (out++y) b else .bad
 |_=>.bad
end
def wE(K:W.Frag)(E:XK)(f:g7):TE:=λe H Q=>∃P g a b,RS K P g a H e b/\Aft K a E H (f b) (λd c=>∀v,Rep K a c v d->Q v c)
def wT(K:W.Frag)(E:XK)(f:Ev->R Bool):TT:=λc H Q=>∃P d b a,RS K P d b H c a/\Aft K b E H (f a) Q
def wG(K:W.Frag)(l:List Nat)(a:D->Ev->Option Ev):TG:=λv f H Q=>∃P h e g d,RS K P h e H f g/\Rep K e H v d/\∃c,a d g=some c/\∀b,Kp l f b->RS K P h e H b c->Q b H
def DE.w{X:Cx}{E:XK}{e:Expr}{f:g7}(h:DE X E e f):PE X e (wE X.K E f):=by obtain⟨t,p,r⟩:=h;intro b s c H Q I i;obtain⟨P,k,j,d,g,a⟩:=i;exact p b s c H Q I (r P k j H c d Q g a)
def DT.w{X:Cx}{E:XK}{e:Expr}{f:Ev->R Bool}(h:DT X E e f):PT X e (wT X.K E f):=by obtain⟨t,p,r⟩:=h;intro b s c H Q I i;obtain⟨P,k,j,d,g,a⟩:=i;exact p b s c H Q I (r P k j H c d Q g a)
def DG.w{X:Cx}{e:Expr}{l:List Nat}{a:D->Ev->Option Ev}(h:DG X e l a):PG X e (wG X.K l a):=by obtain⟨t,p,r⟩:=h;intro b s c H v u Q I i k;obtain⟨P,n,m,f,d,g,j,a⟩:=k;exact p b s c H v u Q I i (r P n m H c f v d Q g j a)
def mf(X:Cx)(a:List Expr)(f:Ev->R Bool):Prop:=PF X a (wT X.K (λ_ _ _=>False) f)
def lN:mf X [] (λ_=>.ok true):=λb s c H Q I h=>by obtain⟨P,g,f,d,e,a⟩:=h;exact BE b s c H Q I (a H<|.refl H)
def zG(h:DT X (λ_ _ _=>False) c f):mf X [c] f:=K3 h.w
def kg(b:Nat)(c:List Nat)(a:Ev):Ev:=List.replicate b .no++c.map λi=>match a[i]? with
 |some (.sh d)=>.sh d
 |_=>.no
def nO{b:Type}:R b->Option b
 |.ok a=>some a
 |_=>none
def tZ{b:Type}:Option b->R b
 |some a=>.ok a
 |none=>.bad
def kK(a:D->Ev->Option Ev)(c:Ev->R Bool)(e:g7)(f:Ev):List D->Option (List D)
 |[]=>some []
 |d::r=>(a d f).bind λg=>(nO<|c g).bind λb=>if b=true then(nO<|e g).bind λv=>(kK a c e f r).bind λh=>some (v::h)else kK a c e f r
def iq(g:Ev->R (List D))(f:Nat)(h:List Nat)(a:D->Ev->Option Ev)(c:Ev->R Bool)(e:g7):Ev->R (List D):=λb=>(g b).bind λd=>if d.length<=sizeLine then tZ (kK a c e (kg f h b) d)else .bad
def ua{b:Type}{r:R b}{a:b}(h:nO r=some a):r=.ok a:=by
 cases r with
 |ok x=>cases h;rfl
 |ex _ _ _=>cases h
 |bad=>cases h
def Co{K:W.Frag}{P:Addr->Prop}{A p:Hp}{o g:Addr->Prop}{t:L2.St}{m:Ev}{r:Hp}(s:RS K P A o r t m)(x:Xt o r g p)(sm:iH K r p)(fr:∀a,p a=none->g a)(sub:∀a,g a->o a)(l:Nat)(n:List Nat):
    RS K o r g p (ju l n t) (kg l n m) where
 same:=sm
 tt:=sm.tt s.tt
 fresh:=fr
 sub:=sub
 pf:=s.fresh
 len:=by unfold ju kg;simp
 sh:=λj d h=>by
  unfold kg at h;by_cases c:j<l;·rw[ag<|by simpa using c,br,ai c]at h;cases h
  ·rw[aC<|by simpa using c,b7,aB]at h;cases q:n[j - l]? with
   |none=>rw[q]at h;cases h
   |some i=>
    rw[q]at h;have f:(match m[i]? with|some (.sh d)=>Sl.sh d|_=>.no)=.sh d:=Option.some.inj h;cases z:m[i]? with
    |none=>rw[z]at f;cases f
    |some y=>
     rw[z]at f;cases y with
     |sh e=>cases f;obtain⟨v,w,u⟩:=s.sh i d z;refine⟨v,?_,u.mv x⟩;unfold ju;rw[aC<|by simpa using c,b7,aB,q];show some ((t[i]?).getD none)=_;rw[w];rfl
     |no=>cases f
     |ow _=>cases f
 ow:=λj d h=>by
  unfold kg at h;by_cases c:j<l;·rw[ag<|by simpa using c,br,ai c]at h;cases h
  ·rw[aC<|by simpa using c,b7,aB]at h;cases q:n[j - l]? with
   |none=>rw[q]at h;cases h
   |some i=>rw[q]at h;have f:(match m[i]? with|some (.sh d)=>Sl.sh d|_=>.no)=.ow d:=Option.some.inj h;split at f<;>cases f
 apart:=λj k d B b h _ _ _=>by
  exfalso;unfold kg at h;by_cases c:j<l;·rw[ag<|by simpa using c,br,ai c]at h;cases h
  ·rw[aC<|by simpa using c,b7,aB]at h;cases q:n[j - l]? with
   |none=>rw[q]at h;cases h
   |some i=>rw[q]at h;have f:(match m[i]? with|some (.sh d)=>Sl.sh d|_=>.no)=.ow d:=Option.some.inj h;split at f<;>cases f
variable{X:Cx}{E:XK}{F B M:Expr}{L:List Expr}{A:Scope}{pos:Pos}{S:Ev->R (List D)}{a:D->Ev->Option Ev}{O:Ev->R Bool}{N:g7}{cl:List<|Str×Addr}{tn:Nat}{Nt Nc:List Str}{ci l:List Nat}
def mh(X:Cx)(E:XK)(e:Expr)(f:Ev->R (List D)):Prop:=∃t:TE,PE X e t/\sd X e t/\
 ∀P j b H d g (Q:VK),RS X.K P j b H d g->Aft X.K b E H (f g) (λi c=>∀p h,c p=none->gQ X.K b c h i->Q (.ref p) (upd c p<|.lst h))->t d H Q
def mh.dn(h:mh X E e f):DN X E e f:=let⟨t,p,_,r⟩:=h;⟨t,p,r⟩
def vL(hc:X.calm=true)(hi:DI X E F B S)(hg:∀K k r C,DG (X.comp A (Nt++Nc) cl K k r C) F l a)(hl:∀j∈l,j<tn)(hf:∀K k r C,mf (X.comp A (Nt++Nc) cl K k r C) L O)
    (he:∀K k r C,DE (X.comp A (Nt++Nc) cl K k r C) (λ_ _ _=>False) M N)
    (W:closureFor A X.env=pure cl)(V:A.kind=.function)(Y:lX A)(I:kN A)(k4:ke X cl Nc ci)(lS:Nt.length=tn)
    (hsub:∀x c,cl.lookup x=some c->X.env.cells.lookup x=some c)(hhas:∀x,((relabel A X.env).names.lookup x=some .cell\/(relabel A X.env).names.lookup x=some .free)->∃c,cl.lookup x=some c)
    (lU:∀x∈Nc,(relabel A X.env).names.lookup x=some .cell\/(relabel A X.env).names.lookup x=some .free)
    (hs:∀x,foldedSetIterable B X.env x=pure x):mh X E (.ListComp M [⟨F,B,L,0⟩] A pos) (iq S tn ci a O N):=by
 obtain⟨wi,pi,ri⟩:=hi;refine⟨_,Bz (te:=wE X.K (λ_ _ _=>False) N) (tc:=wT X.K (λ_ _ _=>False) O) (g:=wG X.K l a) hc pi (λK k r C=>(hg K k r C).w) hf (λK k r C=>(he K k r C).w) W V Y I k4 lS hsub hhas lU hs,Ln (te:=wE X.K (λ_ _ _=>False) N) (tc:=wT X.K (λ_ _ _=>False) O) (g:=wG X.K l a) hc pi (λK k r C=>(hg K k r C).w) hf (λK k r C=>(he K k r C).w) W V Y I k4 lS hsub hhas lU hs,λP H0 al H σ ρ Q s h=>ri _ _ _ _ _ _ _ s<|Aft.mono (Aft.split h) λT H1 s1 h1 J wk=>?_⟩;intro p hp;by_cases hz:T.length<=sizeLine
 ·rw[ai hz]at h1;cases q:kK a O N (kg tn ci ρ) T with
  |none=>rw[q]at h1;exact h1.elim
  |some out=>
   rw[q]at h1;have s2:=s.grow s1
   let f:Addr->Prop:=λb=>al b/\b≠p
   refine⟨λi m G=>∃e rest d,out=e++rest/\kK a O N (kg tn ci ρ) (T.drop i)=some rest/\G p=some (.lst d)/\gQ X.K f G d e/\iH X.K H1 G/\(∀b,G b=none->f b)/\m=T.length - i/\i<=T.length/\e.length<=i,⟨_,[],out,[],rfl,q,ix,.nil,jG hp,λb Z=>?_,rfl,bD _,ah _⟩,?_⟩
   ·have z:b≠p:=λw=>by rw[w,ix]at Z;cases Z
    rw[gY z]at Z;exact⟨s2.fresh b Z,z⟩
   ·rintro i m G ⟨e,rest,d,e1,e2,e3,e4,e5,e6,rfl,e7,e8⟩ _
    have rQ:Xt al H1 f G:=λb o n Z w=>⟨⟨Z,jl w hp⟩,e5.at' _ _ n w⟩;obtain⟨w1,w2⟩:=wk f G rQ e6;by_cases hi:i<T.length
    ·right;have ed:T[i]?=some T[i]:=au hi;obtain⟨go,yl⟩:=w1 i _ ed;refine⟨go,λx r y=>?_⟩;obtain⟨rfl,rx⟩:=yl x r y;rw[bZ hi]at e2;unfold kK at e2;obtain⟨o6,a1,a2⟩:=az.mp e2;obtain⟨b,a3,a4⟩:=az.mp a2;refine⟨al,H1,f,kg tn ci ρ,T[i],Co s2 rQ e5 e6 (λ_ z=>z.1) tn ci,rx,o6,a1,λQ9 kp k=>⟨⟨?_,λj hj=>kp.2 j λw=>absurd (hl j w)<|by omega⟩,al,H1,f,o6,k,?_⟩⟩;·rw[kp.1,ou]
     ·rw[ua a3];intro H5 U;cases b with
      |false=>rw[ak aA]at a4⊢;exact⟨T.length - (i+1),by omega,e,rest,d,e1,a4,U.at' _ _ kP e3,e4.up U,e5.trans U,λb Z=>e6 b<|U.free Z,rfl,hi,by omega⟩
      |true=>
       rw[ai rfl]at a4⊢;obtain⟨v,a5,a6⟩:=az.mp a4;obtain⟨vs,a7,a8⟩:=az.mp a6;cases a8;refine⟨al,H1,f,o6,k.grow U,?_⟩;rw[ua a5];intro H6 s6 u ru;have oB:=s6.at' _ _ kP (U.at' _ _ kP e3);have x6:Xt f H6 f (upd H6 p (.lst (d++[u]))):=λc o _ hc w=>⟨hc,by rw[gY hc.2];exact w⟩;refine⟨d,oB,by rw[e4.length];omega,T.length - (i+1),by omega,e++[v],vs,d++[u],by rw[e1];simp,a7,ix,((((e4.up U).up s6).append (.cons ru .nil)).mv x6),?_,λc hc=>?_,rfl,hi,by rw[aq];simp;omega⟩
       ·exact⟨λc o n w=>by
         rw[gY<|jl w hp];exact s6.at' _ _ n (U.at' _ _ n<|e5.at' _ _ n w),λc w=>by
         by_cases z:c=p;· rw[z];exact hp
         · rw[gY z]at w;exact e5.fr c (U.fr c (s6.fr c w)),λt=>(s6.tt (U.tt (e5.tt t))).upd (nI oB).1 (nI oB).2⟩
       ·have z:c≠p:=λw=>by rw[w,ix]at hc;cases hc
        rw[gY z]at hc;exact e6 c (U.free<|s6.free hc)
    ·left;have ei:i=T.length:=by omega
     rw[cu<|by omega]at e2;cases e2;rw[aZ]at e1;subst e1;refine⟨w2 i<|by omega,?_⟩
     let H':Hp:=λb=>if b=p then none else G b
     have hH:upd H' p (.lst d)=G:=by
      funext b;by_cases z:b=p;·subst z;rw[ix,e3]
      ·rw[gY z];show(if b=p then none else G b)=_;rw[ak z]
     have sm:iH X.K H1 H':=⟨λb o n w=>by
      show(if b=p then none else G b)=_;rw[ak<|jl w hp];exact e5.at' _ _ n w,λb w=>by
      by_cases z:b=p;· rw[z];exact hp
      · have w':(if b=p then none else G b)=none:=w;rw[ak z]at w';exact e5.fr b w',λt=>(e5.tt t).off (nI e3).1 (nI e3).2 λb z=>by show(if b=p then none else G b)=_;rw[ak z]⟩
     rw[<-hH];refine h1 H' sm p d (by show(if p=p then none else G p)=_;rw[ai rfl]) (e4.mv λb o _ Z w=>⟨Z.1,?_⟩);show(if b=p then none else G b)=_;rw[ak Z.2];exact w
 ·rw[ak hz]at h1;exact h1.elim
def zN(u:X.calm=true)(hi:DI X E F B S)(s:∀i h m C,DG (X.comp A Nt [] i h m C) F l a)(r:∀j∈l,j<tn)(hf:∀i h m C,mf (X.comp A Nt [] i h m C) L O)
 (t:∀i h m C,DE (X.comp A Nt [] i h m C) (λ_ _ _=>False) M N)
 (b:∀y∈A.names,y.2≠.free)(g:A.kind=.function)(d:lX A)(f:kN A)(o:Nt.length=tn)
 (q:∀x,foldedSetIterable B X.env x=pure x):mh X E (.ListComp M [⟨F,B,L,0⟩] A pos) (iq S tn [] a O N):=by
  have e:relabel A X.env=A:=by
   have:A.names.map (λ(n,k)=>if(k==NameKind.free&&X.env.scope.kind==.function&&X.env.kindOf n==some .cell)then(n,NameKind.cell)else(n,k))=A.names:=by
    refine map_eq_self λy p=>?_;obtain⟨n,k⟩:=y;have:(k==NameKind.free)=false:=by simpa using b _ p
    simp[this]
   unfold relabel;rw[this]
  refine vL (cl:=[]) (Nc:=[]) (ci:=[]) u hi (by rw[aZ];exact s) r (by rw[aZ];exact hf) (by rw[aZ];exact t) (closureFor_none b) g d f .nil o (λx c z=>nomatch z) (λx z=>?_) (λx z=>nomatch z) q;rw[e]at z;rcases z with z|z;·exact absurd rfl (d _<|aY z)
  ·exact absurd rfl (b _<|aY z)
def nD(p:X.calm=true)(hi:DI X E F B S)(n:∀g f h C,DG (X.comp A Nt [] g f h C) F l a)(m:∀j∈l,j<tn)(hf:∀g f h C,mf (X.comp A Nt [] g f h C) L O)
 (o:∀g f h C,DE (X.comp A Nt [] g f h C) (λ_ _ _=>False) M N)
 (d:∀y∈A.names,y.2≠.free)(c:A.kind=.function)(e:lX A)(b:kN A)(i:Nt.length=tn)
 (k:∀x,foldedSetIterable B X.env x=pure x:=by intro _;rfl):DN X E (.ListComp M [⟨F,B,L,0⟩] A pos) (iq S tn [] a O N):=(zN p hi n m hf o d c e b i k).dn
def r6(x:Str):It:=⟨λi _=>i<x.cps.size,λi H v b=>b=H/\∃c,x.cps[i]?=some c/\v=.str ⟨#[c]⟩,λi _=>x.cps.size<=i⟩
def Qb{P:Program}{w:World}{K:W.Frag}{F:Expr}(x:Str)(t:Tok)(n:Addr):Turn P w K F (r6 x) [n] n (λi h=>h.IsStrIter n "str_ascii_iterator" x t i) where
 mem:=by simp
 obj:=λi h g b p=>by
  have e:b=n:=by simpa using p
  subst e;obtain⟨o,e,c,d⟩:=g;exact⟨o,e,λv z=>by rw[d]at z;cases z⟩
 keep:=λi h u g k=>let⟨o,ho,r⟩:=g;⟨o,k n (by simp) o ho,r⟩
 item:=by intro X G y J f i m s Z H E I hf g C;subst G y J;obtain⟨Y,V,f2,U,T,Q⟩:=hf n (by simp);have j:i<x.cps.size:=C;refine wpAny_pyNext_ascii_item g (c:=x.cps[i]) (by simp[j]) λu q sb=>?_;have I1:Inv X m Z H {s with heap:=u,toks:=s.toks+1}:=I.turned (λb o p e=>(sb.2 b p).trans e) Y V U T Q;obtain⟨o,e,c,d⟩:=id q;exact⟨_,rfl,qZ (s:={s with heap:=u,toks:=s.toks+1}) e c d (by decide) ⟨.str ⟨#[x.cps[i]]⟩,H,I1,⟨_,rfl⟩,⟨rfl,x.cps[i],by simp[j],rfl⟩,q,λb p=>(hf b p).1⟩⟩
 done:=by intro X G y J f i m s Z H E I hf g C;subst G y J;obtain⟨Y,V,f2,U,T,Q⟩:=hf n (by simp);have j:x.cps.size<=i:=C;exact wpAny_pyNext_ascii_end (I.ok.hd f) g (by simp[j]) λu eb=>⟨rfl,I.turned (t':=s.toks) (λb o p e=>eb b o p e) Y V U T Q⟩
 self:=λ_ _ _ _ _ g h=>wpAny_pyIter_striter_ascii g h
def Qf{P:Program}{w:World}{K:W.Frag}{F:Expr}(x:Str)(t:Tok)(n:Addr):Turn P w K F (r6 x) [n] n (λi h=>h.IsStrIter n "str_iterator" x t i) where
 mem:=by simp
 obj:=λi h g b p=>by
  have e:b=n:=by simpa using p
  subst e;obtain⟨o,e,c,d⟩:=g;exact⟨o,e,λv z=>by rw[d]at z;cases z⟩
 keep:=λi h u g k=>let⟨o,ho,r⟩:=g;⟨o,k n (by simp) o ho,r⟩
 item:=by intro X G y J f i m s Z H E I hf g C;subst G y J;obtain⟨Y,V,f2,U,T,Q⟩:=hf n (by simp);have j:i<x.cps.size:=C;refine wpAny_pyNext_wide_item g (c:=x.cps[i]) (by simp[j]) λu q sb=>?_;have I1:Inv X m Z H {s with heap:=u,toks:=s.toks+1}:=I.turned (λb o p e=>(sb.2 b p).trans e) Y V U T Q;obtain⟨o,e,c,d⟩:=id q;exact⟨_,rfl,qZ (s:={s with heap:=u,toks:=s.toks+1}) e c d (by decide) ⟨.str ⟨#[x.cps[i]]⟩,H,I1,⟨_,rfl⟩,⟨rfl,x.cps[i],by simp[j],rfl⟩,q,λb p=>(hf b p).1⟩⟩
 done:=by intro X G y J f i m s Z H E I hf g C;subst G y J;obtain⟨Y,V,f2,U,T,Q⟩:=hf n (by simp);have j:x.cps.size<=i:=C;exact wpAny_pyNext_wide_end (I.ok.hd f) g (by simp[j]) λu eb=>⟨rfl,I.turned (t':=s.toks) (λb o p e=>eb b o p e) Y V U T Q⟩
 self:=λ_ _ _ _ _ g h=>wpAny_pyIter_striter_wide g h
variable{e:Expr}{f:g7}
def Hl(tl:TE):TI:=λb H R=>tl b H λx c=>∃z,x=.str z/\R (r6 z) c
def K5{l:Expr}{tl:TE}(u:PE X l tl):PI X F l (Hl tl):=by
 intro d s n H R I h;refine g8 (u d s n H _ I h) λv c i=>?_;obtain⟨x,j,g,p,r⟩:=i;obtain⟨z,e,q⟩:=r;subst e;obtain⟨t,rfl⟩:=p;have m:∀b∈[c.heap.objs.size],mM X d j b:=λb w=>by
  have e:b=c.heap.objs.size:=by simpa using w
  subst e;exact g.sZ (ah _) (g.hok.fresh<|ah _)
 cases k:z.cps.all (· <128)with
 |true=>refine wpAny_pyIter_ascii k ?_;exact⟨c.heap.objs.size,[c.heap.objs.size],_,_,j,rfl,g.kept (t':=c.toks) λb o e=>ae _ e,Qb z t _,⟨_,aw _ rfl,rfl,rfl⟩,m,q⟩
 |false=>refine wpAny_pyIter_wide k ?_;exact⟨c.heap.objs.size,[c.heap.objs.size],_,_,j,rfl,g.kept (t':=c.toks) λb o e=>ae _ e,Qf z t _,⟨_,aw _ rfl,rfl,rfl⟩,m,q⟩
def signs(z:Str):List D:=z.cps.toList.map λc=>.str ⟨#[c]⟩
def Qu{K:W.Frag}{k:Addr->Prop}{H:Hp}{z:Str}:Wk K k H (r6 z) (signs z):=by
 intro j o x fr;refine⟨λi d h=>?_,λi h=>?_⟩
 ·unfold signs at h;rw[aB,aU]at h;cases q:z.cps[i]? with
  |none=>rw[q]at h;cases h
  |some c=>rw[q]at h;cases h;refine⟨(bg.mp q).1,λy m w=>⟨w.1,?_⟩⟩;obtain⟨n,b,g⟩:=w.2;rw[q]at b;cases b;subst g;exact .str _
 ·unfold signs at h;show z.cps.size<=i;simpa using h
def hJ(d:D):R (List D):=match d with
 |.lst ds=>.ok ds
 |.tup ds=>.ok ds
 |.str z=>.ok (signs z)
 |_=>.bad
def jV(u:DE X E e f):DI X E F e (λj=>(f j).bind hJ):=by
 obtain⟨t,p,r⟩:=u;refine⟨_,BJ (BI p)<|BJ (K6 p)<|K5 p,λP G C H x j R s h=>?_⟩;dsimp only at h;cases q:f j with
 |bad=>rw[q]at h;exact h.elim
 |ex c y o=>rw[q]at h;exact .inl (r _ _ _ _ _ _ _ s<|by rw[q];exact h)
 |ok d=>
  rw[q]at h;cases d with
  |lst o=>left;refine r _ _ _ _ _ _ _ s ?_;rw[q];intro i g v b;obtain⟨a,k,n,m,w⟩:=b.mX;subst n;exact⟨a,rfl,⟨k,m⟩,h i g _<|C5 b⟩
  |tup o=>right;left;refine r _ _ _ _ _ _ _ s ?_;rw[q];intro i g v b;obtain⟨a,k,n,m,w⟩:=b.lg;subst n;exact⟨a,rfl,⟨k,m⟩,h i g _<|Qv b⟩
  |str z=>right;right;refine r _ _ _ _ _ _ _ s ?_;rw[q];intro i g v b;cases b;exact⟨z,rfl,h i g _ Qu⟩
  |_=>exact(h:False).elim
def tyName:D->Option String
 |.non=>some "NoneType"
 |.bl _=>some "bool"
 |.int _=>some "int"
 |.str _=>some "str"
 |.lst _=>some "list"
 |.tup _=>some "tuple"
 |_=>none
def pN:List String:=["NoneType","bool","int","str","list","tuple"]
def Ig(K):∀T∈pN,∀n∈pN,W.kitOne K (.type T) (.type n)=some (T==n||(T=="bool"&&n=="int")):=by intro T hT n b;simp only[pN,aF,cx,fm]at hT b;rcases hT with rfl|rfl|rfl|rfl|rfl|rfl<;>rcases b with rfl|rfl|rfl|rfl|rfl|rfl<;>first|rfl|kernel_rfl
def isD:gP
 |[d,.ty n]=>match tyName d with
  |some T=>if pN.contains n then .ok (.bl<|T==n||(T=="bool"&&n=="int"))else .bad
  |none=>.bad
 |_=>.bad
def NX(X:Cx):List V->Hp->VK->Prop:=λd H Q=>∃x n T,d=[x,.ty n]/\pN.contains T=true/\pN.contains n=true/\
 ((x=.non/\T="NoneType")\/(∃b,x=.bl b/\T="bool")\/(∃i,x=.int i/\T="int")\/(∃z,x=.str z/\T="str")\/(∃a c,x=.ref a/\jx X.K H a c/\T="list")\/(∃a c,x=.ref a/\jA X.K H a c/\T="tuple"))/\Q (.bl<|T==n||(T=="bool"&&n=="int")) H
def EJ:kd X (.builtin "isinstance") (NX X):=by
 intro j s C H V Y Q I r h;obtain⟨x,n,T,rfl,P,K,U,q⟩:=h;obtain⟨u,c,rfl,g,J⟩:=vals2 r;cases J;have e:=Ig X.K T (by simpa using P) n (by simpa using K);have d:∀tk,EP X j C Q (.bool<|T==n||(T=="bool"&&n=="int")) {s with toks:=tk}:=λtk=>⟨.bl _,H,I.tok tk,rfl,q⟩;rcases U with⟨rfl,rfl⟩|⟨b,rfl,rfl⟩|⟨i,rfl,rfl⟩|⟨z,rfl,rfl⟩|⟨a,G,rfl,v,rfl⟩|⟨a,G,rfl,v,rfl⟩;·cases g;exact eF W.kitx_none I.j6 True.intro e (λz=>nomatch z) d
 ·cases g;exact eF W.kitx_bool I.j6 True.intro e (λz=>nomatch z) d
 ·obtain⟨t,rfl⟩:=g;exact eF W.kitx_int I.j6 True.intro e (λz=>nomatch z) d
 ·obtain⟨t,rfl⟩:=g;exact eF W.kitx_str I.j6 True.intro e (λz=>nomatch z) d
 ·cases g;obtain⟨p,_,m,_⟩:=I.list v;obtain⟨o,k,y,w,_⟩:=m;exact eF W.kitx_list I.j6 ⟨o,y,w⟩ e (λz=>nomatch z) d
 ·cases g;obtain⟨p,_,m,_⟩:=I.tuple v;obtain⟨o,y,w,_⟩:=m;exact eF W.kitx_tuple I.j6 ⟨o,y,w⟩ e (λz=>nomatch z) d
def EL:ni X E (.builtin "isinstance") isD:=by
 refine⟨_,EJ,λm H j k Q fr r h=>?_⟩;unfold isD at h;split at h
 ·rename_i d n;obtain⟨v,u,rfl,q,i⟩:=gQ.two r;cases i;cases e:tyName d with
  |none=>rw[e]at h;exact h.elim
  |some T=>
   rw[e]at h;dsimp only at h;split at h
   ·rename_i g;have c:=h H (.refl H) _ (.bl _);cases q with
    |non=>cases e;exact⟨_,n,_,rfl,rfl,g,.inl ⟨rfl,rfl⟩,c⟩
    |bl b=>cases e;exact⟨_,n,_,rfl,rfl,g,.inr<|.inl ⟨b,rfl,rfl⟩,c⟩
    |int b=>cases e;exact⟨_,n,_,rfl,rfl,g,.inr<|.inr<|.inl ⟨b,rfl,rfl⟩,c⟩
    |str b=>cases e;exact⟨_,n,_,rfl,rfl,g,.inr<|.inr<|.inr<|.inl ⟨b,rfl,rfl⟩,c⟩
    |lst p _=>cases e;exact⟨_,n,_,rfl,rfl,g,.inr<|.inr<|.inr<|.inr<|.inl ⟨_,_,rfl,p.elim (λz=>.inl z.2) KL.sq,rfl⟩,c⟩
    |tup p _=>cases e;exact⟨_,n,_,rfl,rfl,g,.inr<|.inr<|.inr<|.inr<|.inr ⟨_,_,rfl,p.elim (λz=>.inl<|.inl z.2) .inr,rfl⟩,c⟩
    |_=>cases e
   ·exact h.elim
 ·exact h.elim
def vy:bootBuiltins "isinstance"=some (.builtin "isinstance"):=by decide+kernel
def EE:bootBuiltins "len"=some (.builtin "len"):=by decide+kernel
def vx:bootBuiltins "abs"=some (.builtin "abs"):=by decide+kernel
def ED:bootBuiltins "int"=some (.type "int"):=by decide+kernel
def EC:bootBuiltins "bool"=some (.type "bool"):=by decide+kernel
def ze:bootBuiltins "list"=some (.type "list"):=by decide+kernel
variable{x:Str}
inductive rY(mg:iw)(x:Str):D->Prop
 |int {i:Int} {t:Tok}:mg x=some (.int i t)->rY mg x (.int i)
 |str {z:Str} {t:Tok}:mg x=some (.str z t)->rY mg x (.str z)
def FF{d}(c:Gl X x)(h:rY X.mg x d)(b:jc x):DE X E (.Name x pos) (dC d):=by
 cases h with
 |@int i t h=>exact vI (v:=.int i) c h ⟨t,rfl⟩ (λ_ _=>.int _) b
 |@str z t h=>exact vI (v:=.str z) c h ⟨t,rfl⟩ (λ_ _=>.str _) b
end P2
namespace Fx
open PySem
variable{c:Program}{w:World}{A:Around}{E:ia}{h:Heap}{g:Array GenState}{d:Drawn}{t:Nat}{f:OsState}
variable{k q:Str}{C N:Addr}{bs e z:List Value}{b:Bool}{j:List Str}{sub:List Value}{y:Bool}{i:Option Bool}{dd:Option Addr}{s r p m l:Option Value}{a:String}
def E4{R:Result->Shared->Prop}(hC:h.get? C=some (excClassObj k q C N bs e b j sub y i dd s r p m l a))(n:e.contains (.type "object")=true)
 (B:h.get? x=some o)(D:o.cls=.ref C)(F:R (.ok<|.ret<|.ref C) ⟨h,g,d,t,f⟩):
   codeAny (model c w) A (.call (.builtin "getset_descriptor.__get__") ⟨[.builtin "object.__class__",.ref x,.ref C],[]⟩) R ⟨h,g,d,t,f⟩:=by
  have v:(⟨h,g,d,t,f⟩:Shared).TypeIs (.builtin "object.__class__") "getset_descriptor":=c8;have ow:".".intercalate ("object.__class__".cutAt '.').dropLast="object":=by decide+kernel
  have u:(Value.ref C::e).contains (.type<|".".intercalate ("object.__class__".cutAt '.').dropLast)=true:=by rw[ow,List.contains_cons,n,Bool.or_true]
  refine d9 PySem.F.slot_gs_get.plain PySem.F.entry_gs_get (PySem.F.slot_gs_get.check _ _ _ _ _ _ _ _ v (PySem.F.args_gs_get _ _ _) ?_);repeat(any_goals(first|assumption|(with_reducible refine da B ?_;rw[D])|(with_reducible refine wpAny_isSubtype_exc hC ?_;rw[u])|wp_step))
  refine⟨Code.quiet_builtin _<|by decide+kernel,bY PySem.F.entry_object_class ?_⟩;repeat(any_goals(first|assumption|(with_reducible refine da B ?_;rw[D])|wp_step))
def E3{Q:Fin->Shared->Prop}(hC:h.get? C=some (excClassObj k q C N bs e b j sub y i dd s r p m l a))(n:e.contains (.type "object")=true)
 (B:nt h C "__class__"<|some<|.builtin "object.__class__")(u:h.get? x=some o)(v:o.cls=.ref C)(F:Q (.done<|.ret<|.ref C) ⟨h,g,d,t,f⟩):
   wpAny (model c w) A (Builtin.«object.__getattribute__» ⟨[.ref x,.str "__class__" tk],[]⟩) Q E ⟨h,g,d,t,f⟩:=by
  have D:(⟨h,g,d,t,f⟩:Shared).TypeIs (.builtin "object.__class__") "getset_descriptor":=c8;have I:=c8;have H:=PySem.F.slot_gs_get.lookup;have G:=PySem.F.slot_gs_set.lookup;repeat(any_goals(first|assumption|(with_reducible refine da u ?_;rw[v])|with_reducible refine B _ _ _ _ _ _ _ _ ?_|wp_step))
  refine E4 hC n u v ?_;repeat(any_goals(first|assumption|wp_step))
def EY{Q:Unit->Shared->Prop}(hC:h.get? C=some (excClassObj k q C N bs e b j sub y i dd s r p m l a))
 (u:e.contains (.type "BaseException")=true)(B:h.get? x=some o)(G:o.cls=.ref C)(D:Q () ⟨h,g,d,t,f⟩):wpAny M A (checkBuiltinCall "BaseException.__getattribute__" ⟨[.ref x,nv],[]⟩) Q E ⟨h,g,d,t,f⟩:=by
  have F:builtinKind "BaseException.__getattribute__"=some .slot:=by decide+kernel
  have n:splitId "BaseException.__getattribute__"=some ("BaseException","__getattribute__"):=by decide+kernel
  have v:(Value.ref C::e).contains (.type "BaseException")=true:=by rw[List.contains_cons,u,Bool.or_true]
  have H:=PySem.F.args_bexc_ga (.ref x) nv;simp only[checkBuiltinCall,F,n];refine aa ?_;unfold isInstance;repeat(first|(with_reducible refine da B ?_;rw[G])|(with_reducible refine wpAny_isSubtype_exc hC ?_;rw[v])|wp_step)
  exact D
def E2{Q:ia}(hC:h.get? C=some (excClassObj k q C N bs e b j sub y i dd s r p m l a))(H:e.contains (.type "BaseException")=true)(u:e.contains (.type "object")=true)
 (G:nt h C "__getattribute__"<|some<|.builtin "BaseException.__getattribute__")(F:nt h C "__getattr__" none)(D:nt h C "__class__"<|some<|.builtin "object.__class__")(n:h.get? x=some o)(v:o.cls=.ref C)(J:Q (.ref C) ⟨h,g,d,t,f⟩):
   wpAny (model c w) A (getAttrBy (.ref x) (.str "__class__" tk) false) Q E ⟨h,g,d,t,f⟩:=by
  have B:=PySem.F.attr_ValueError;have K:=B.ga.bind (.ref x);have z2:(Value.builtin "BaseException.__getattribute__"==Value.builtin "object.__getattribute__")=false:=by decide+kernel
  have I:(onTheHeap (Value.ref C)&&Value.builtin "BaseException.__getattribute__"==Value.builtin "object.__getattribute__")=false:=by rw[z2];rfl
  repeat(any_goals(first|assumption|(with_reducible refine da n ?_;rw[v])|with_reducible refine G _ _ _ _ _ _ _ _ ?_|with_reducible refine F _ _ _ _ _ _ _ _ ?_|wp_step))
  refine d9 B.ga.plain PySem.F.entry_bexc_ga (EY hC H n v<|E3 hC u D n v ?_);repeat(any_goals(first|assumption|wp_step))
def E1{Q:Option Value->Shared->Prop}(hC:h.get? C=some (excClassObj k q C N bs e b j sub y i dd s r p m l a))(G:e.contains (.type "BaseException")=true)(n:e.contains (.type "object")=true)
 (B:nt h C "__getattribute__"<|some<|.builtin "BaseException.__getattribute__")(v:nt h C "__getattr__" none)(u:nt h C "__class__"<|some<|.builtin "object.__class__")(D:h.get? x=some o)(F:o.cls=.ref C)(H:Q (some<|.ref C) ⟨h,g,d,t+1,f⟩):
   wpAny (model c w) A (getAttr? (.ref x) "__class__") Q E ⟨h,g,d,t,f⟩:=by
  unfold getAttr? getAttrBy?;repeat(any_goals(first|assumption|with_reducible apply E2 hC G n B v u D F|wp_step))
end Fx
namespace L2
open PySem PySem.Spec PyProof.Rows
structure sr(K:W.Frag)(C:Addr):Prop where
 ob:∀h:Heap,K.In h->∃nm q N bs bm GV sn sub ab col dd k0 k1 k2 k3 k5 newId,h.get? C=some (excClassObj nm q C N bs bm GV sn sub ab col dd k0 k1 k2 k3 k5 newId)/\bm.contains (.type "BaseException")=true/\bm.contains (.type "object")=true
 ga:W.findIn K (.ref C) "__getattribute__"=some (some<|.builtin "BaseException.__getattribute__")
 gn:W.findIn K (.ref C) "__getattr__"=some none
 cl:W.findIn K (.ref C) "__class__"=some (some<|.builtin "object.__class__")
structure yR(K:W.Frag)(C:Addr):Prop where
 cls:W.excIn K C [.type "ValueError",.type "Exception",.type "BaseException",.type "object"] "ValueError.__new__"=true
 kp:W.keepIn K (.ref C)=true
 ga:W.findIn K (.ref C) "__getattribute__"=some (some<|.builtin "BaseException.__getattribute__")
 gn:W.findIn K (.ref C) "__getattr__"=some none
 cl:W.findIn K (.ref C) "__class__"=some (some<|.builtin "object.__class__")
def Ih{K:W.Frag}{x C:Addr}(c:sr K C):W.KitX K (.ref x) (.ref C) (λh=>∃o,h.get? x=some o/\o.cls=.ref C) where
 ty:=λM h k p=>by obtain⟨o,j,i⟩:=p;exact i▸(W.Looks.ld j).andThen .now
 it:=λM h k p=>by obtain⟨u,q,N,bs,H,a,m,sub,I,b,dd,G,F,D,B,y,v,hC,_⟩:=c.ob h k;intro A' Y Z V O L;unfold isType loadHead;exact aa (wpAny_loadPart (O _ _ hC)<|af L)
 ne:=λh J dd P n U k f=>by obtain⟨u,q,N,bs,H,a,m,sub,I,b,l,G,F,D,B,y,v,hC,_⟩:=c.ob h k;refine Bool.eq_false_iff.mpr λz=>?_;have e:C=J:=Value.ref.inj (dg.mp z);subst e;have z:=cn Obj.cls (Option.some.inj<|hC.symm.trans f);have z2:Value.type "type"=Value.type "tuple":=z;exact absurd (Value.type.inj z2) (by decide)
 ca:=λ{r w A E Q s} k p R=>by obtain⟨o,j,i⟩:=p;obtain⟨u,q,N,bs,H,a,m,sub,I,b,l,G,F,D,B,y,v,hC,T,S⟩:=c.ob _ k;obtain⟨h,g,d,t,X⟩:=s;exact Fx.E1 hC T S (yg k c.ga) (yg k c.gn) (yg k c.cl) j i R
variable{X:Cx}
def EK:kd X (.builtin "isinstance") (λg H Q=>∃a c d f u b,g=[.ref a,f]/\H a=some (sT a c d)/\sr X.K c/\(∀z,RelV f z->z=u)/\W.kitOne X.K (.ref c) u=some b/\Q (.bl b) H):=by intro i s v H g x Q I r h;obtain⟨a,c,d,f,u,b,rfl,o,j,un,e,q⟩:=h;obtain⟨y,k,rfl,m,l⟩:=vals2 r;cases un k l;cases m;obtain⟨⟨n,w,t,p,B,A⟩,_,_⟩:=I.hok a _ o;exact eF (Ih j) I.j6 ⟨n,t,p⟩ e (λz=>nomatch z) λtk=>⟨.bl b,H,I.tok tk,rfl,q⟩
end L2
namespace P2
open PySem L2 PySem.Spec
open PyProof.Rows hiding St
section
variable{X:Cx}{E:XK}{x:Str}{pos:Pos}
def FE(c:Gl X x)(b:X.mg x=some (.ref C))(a:jc x):DE X E (.Name x pos) (dC<|.ref C):=vI (v:=.ref C) c b rfl (λ_ _=>.ref _) a
def EV(h:kd X f r)(g:kd X f r'):kd X f (λb H Q=>r b H Q\/r' b H Q):=
 λa s c H b d Q I e q=>q.elim (h a s c H b d Q I e) (g a s c H b d Q I e)
def zo:D->Option Value
 |.ref C=>some (.ref C)
 |.ty T=>some (.type T)
 |_=>none
def lB(q:Addr->Value->Option Bool)(a:List D):R D:=match a with
 |[.exc c _ _,d]=>(match(zo d).bind (q c)with
  |some b=>.ok (.bl b)
  |none=>.bad)
 |a=>isD a
def r3(K:W.Frag)(q:Addr->Value->Option Bool):Prop:=∀c u b,q c u=some b->sr K c/\W.kitOne K (.ref c) u=some b
def vD(s:r3 X.K q):ni X E (.builtin "isinstance") (lB q):=by
 obtain⟨F,B,A⟩:=EL (X:=X) (E:=E);refine⟨_,EV EK B,λD H l t Q fr r h=>?_⟩;unfold lB at h;split at h
 ·rename_i c K L d;obtain⟨v,u,rfl,p,e⟩:=gQ.two r;left;cases z:(zo d).bind (q c)with
  |none=>rw[z]at h;exact h.elim
  |some b=>
   rw[z]at h;have o:=h H (.refl H) _ (.bl _);obtain⟨w,f,z2⟩:=az.mp z;obtain⟨k,n⟩:=s _ _ _ z2;have g:∃a i,v=.ref a/\H a=some (sT a c i):=by
    cases p with
    |exc m e J I G=>exact⟨_,_,rfl,e⟩
    |z9 m e=>exact⟨_,_,rfl,e⟩
   obtain⟨a,i,rfl,g⟩:=g;refine⟨a,c,i,u,w,b,rfl,g,k,λy j=>?_,n,o⟩;cases e with
   |ref C=>cases f;exact j
   |ty T=>cases f;exact j
   |_=>cases f
 ·exact .inr (A D H l t Q fr r h)
mutual
def kI:D->Option PyData
 |.non=>some .none
 |.bl b=>some (.bool b)
 |.int i=>some (.int i)
 |.str z=>some (.str z)
 |.tup ds=>(jN ds).map .tuple
 |.lst ds=>(jN ds).map .list
 |_=>none
def jN:List D->Option (List PyData)
 |[]=>some []
 |d::a=>(kI d).bind λp=>(jN a).map (p:: ·)
end
def Cg{s}(I:Inv X pins σ H s){v d u p}(r:Rep X.K al H v d):RelV v u->kI d=some p->∃f,Reads s.heap u p f:=by
 revert u p;refine Rep.rec (motive_1:=λv d _=>∀{u p},RelV v u->kI d=some p->∃f,Reads s.heap u p f) (motive_2:=λg j _=>∀{k h},Vals g k->jN j=some h->∃f,ReadsAll s.heap k h f) ?_ ?_ ?_ ?_ ?_ ?_ ?_ ?_ ?_ ?_ ?_ ?_ r;·intro u p r e;cases r;cases e;exact⟨_,.none⟩
 ·intro b u p r e;cases r;cases e;exact⟨_,.bool _⟩
 ·intro b u p r e;obtain⟨t,rfl⟩:=r;cases e;exact⟨_,.int _ _⟩
 ·intro b u p r e;obtain⟨t,rfl⟩:=r;cases e;exact⟨_,.str _ _⟩
 ·intro b u p r e;cases e
 ·intro b u p r e;cases e
 ·intro a g j z _ A u p r e;cases r;have D:(jN _).map PyData.tuple=some _:=e;obtain⟨h,i,rfl⟩:=aj.mp D;have l:jA X.K H _ g:=z.elim (λz=>.inl<|.inl z.2) .inr;obtain⟨q,m,⟨o,C,B,n,E⟩,_⟩:=I.tuple l;obtain⟨f,w⟩:=A m i;exact⟨f,reads_tuple_at C B E<|by simpa using w⟩
 ·intro a g j z _ A u p r e;cases r;have D:(jN _).map PyData.list=some _:=e;obtain⟨h,i,rfl⟩:=aj.mp D;have l:jx X.K H _ g:=z.elim (λz=>.inl z.2) KL.sq;obtain⟨q,m,⟨o,n,C,B,E,L⟩,_⟩:=I.list l;obtain⟨f,w⟩:=A m i;exact⟨_,reads_list_at C B L<|by simpa using w⟩
 ·intro a c Q P g j _ _ _ _ _ _ u p r e;cases e
 ·intro a c _ _ u p r e;cases e
 ·intro k h r e;cases r;cases e;exact⟨_,.nil⟩
 ·intro v d g j _ _ y x k h r e;cases r with
  |cons K J=>obtain⟨O,i,N⟩:=az.mp e;obtain⟨h,M,rfl⟩:=aj.mp N;obtain⟨f,G⟩:=y K i;obtain⟨bs,F⟩:=x J M;exact⟨_,.cons G F⟩
def mU(a b:D):Option Bool:=(kI a).bind λp=>(kI b).bind λq=>if(SeqAt.shaped p&&SeqAt.shaped q)=true then some (PyData.eqv p q)else none
def qO(a b:D):R D:=match mU a b with
 |some r=>.ok (.bl r)
 |none=>.bad
def lY(a b:D):R D:=match mU a b with
 |some r=>.ok (.bl<|!r)
 |none=>.bad
def z8{c:List<|Addr×Obj}{h:L2.St}{H:Hp}{s:Shared}(I:Inv X c h H s){g:Addr->Prop}{x y:V}{a b:D}{u v:Value}{r:Bool}(n:Rep X.K g H x a)(m:Rep X.K g H y b)(l:RelV x u)(k:RelV y v)(e:mU a b=some r):
    ∃p q f bs,Reads s.heap u p f/\Reads s.heap v q bs/\SeqAt.shaped p=true/\SeqAt.shaped q=true/\PyData.eqv p q=r:=by
 obtain⟨p,w,t⟩:=az.mp e;obtain⟨q,o,d⟩:=az.mp t;split at d
 ·rename_i z;rw[aN]at z;obtain⟨f,j⟩:=Cg I n l w;obtain⟨bs,i⟩:=Cg I m k o;exact⟨p,q,f,bs,j,i,z.1,z.2,Option.some.inj d⟩
 ·cases d
def Kb(o:X.A.units+64<cLine):jz X E (compareOp .Eq) qO:=by
 refine⟨λx y H Q=>∃c a b r,Rep X.K c H x a/\Rep X.K c H y b/\mU a b=some r/\Q (.bl r) H,λf s B H x y v u Q I e d h=>?_,λc H x y i g Q fr e d h=>?_⟩
 ·obtain⟨c,a,b,r,A,z,w,t⟩:=h;obtain⟨p,q,C,bs,n,m,l,k,j⟩:=z8 I A z e d w;exact eq_dataH n m l k o (by rw[j];exact⟨.bl r,H,I,rfl,t⟩)
 ·unfold qO at h;cases q:mU i g with
  |none=>rw[q]at h;exact h.elim
  |some r=>rw[q]at h;exact⟨c,i,g,r,e,d,q,h H (.refl H) _<|.bl r⟩
def Bt(o:X.A.units+64<cLine):jz X E (compareOp .NotEq) lY:=by
 refine⟨λx y H Q=>∃c a b r,Rep X.K c H x a/\Rep X.K c H y b/\mU a b=some r/\Q (.bl<|!r) H,λf s B H x y v u Q I e d h=>?_,λc H x y i g Q fr e d h=>?_⟩
 ·obtain⟨c,a,b,r,A,z,w,t⟩:=h;obtain⟨p,q,C,bs,n,m,l,k,j⟩:=z8 I A z e d w;exact ne_dataH n m l k o (by rw[j];exact⟨.bl (!r),H,I,rfl,t⟩)
 ·unfold lY at h;cases q:mU i g with
  |none=>rw[q]at h;exact h.elim
  |some r=>rw[q]at h;exact⟨c,i,g,r,e,d,q,h H (.refl H) _<|.bl<|!r⟩
end
section
variable{X:Cx}{E:XK}{k e h:Expr}{f:List Expr}{b:Scope}{pos:Pos}{m:Ev->R (List D)}{l:List Nat}{a:D->Ev->Option Ev}{r:Ev->R Bool}{o:g7}{tn:Nat}{Nt:List Str}
def zO(i nm)(P:X.calm=true)(hi:DI X E k e m)(N:∀G u H C,DG (X.comp b (Nt++[x]) [(x,c)] G u H C) k l a)(L:∀j∈l,j<tn)(hf:∀G u H C,mf (X.comp b (Nt++[x]) [(x,c)] G u H C) f r)
 (O:∀G u H C,DE (X.comp b (Nt++[x]) [(x,c)] G u H C) (λ_ _ _=>False) h o)
 (n:b.kind=.function)(t:lX b)(g:kN b)(I:Nt.length=tn)
 (hN:X.N[i]?=some x)(M:X.env.kindOf x=some .cell)(F:X.env.cells.lookup x=some c)(s:closureFor b X.env=pure [(x,c)])(A:(relabel b X.env).names=nm)
 (B:∀p∈nm,(p.2=.cell\/p.2=.free)->p.1=x)(v:nm.lookup x=some .cell\/nm.lookup x=some .free)
 (K:∀x,foldedSetIterable e X.env x=pure x):mh X E (.ListComp h [⟨k,e,f,0⟩] b pos) (iq m tn [i] a r o):=by
  refine vL (cl:=[(x,c)]) (Nc:=[x]) (ci:=[i]) P hi N L hf O s n t g (.cons hN (.inl M) (by rw[F];simp[List.lookup]) .nil) I (λy d z=>?_) (λy z=>?_) (λy J=>?_) K
  ·by_cases w:y=x;·subst w;simp[List.lookup]at z;rw[F,z]
   ·have:(y==x)=false:=by simpa using w
    simp[List.lookup,this]at z
  ·rw[A]at z;have:y=x:=z.elim (λq=>B _ (aY q)<|.inl rfl) λq=>B _ (aY q) (.inr rfl);subst this;exact⟨c,by simp[List.lookup]⟩
  ·rw[aJ]at J;subst J;rw[A];exact v
def FL(i nm)(J:X.calm=true)(hi:DI X E k e m)(H:∀u s v C,DG (X.comp b (Nt++[x]) [(x,c)] u s v C) k l a)(F:∀j∈l,j<tn)(hf:∀u s v C,mf (X.comp b (Nt++[x]) [(x,c)] u s v C) f r)
 (I:∀u s v C,DE (X.comp b (Nt++[x]) [(x,c)] u s v C) (λ_ _ _=>False) h o)
 (g:b.kind=.function)(q:lX b)(d:kN b)(A:Nt.length=tn)
 (hN:X.N[i]?=some x)(G:X.env.kindOf x=some .cell)(z:X.env.cells.lookup x=some c)(n:closureFor b X.env=pure [(x,c)])(w:(relabel b X.env).names=nm)
 (y:∀p∈nm,(p.2=.cell\/p.2=.free)->p.1=x)(t:nm.lookup x=some .cell\/nm.lookup x=some .free)
 (B:∀x,foldedSetIterable e X.env x=pure x):DN X E (.ListComp h [⟨k,e,f,0⟩] b pos) (iq m tn [i] a r o):=
  (zO i nm J hi H F hf I g q d A hN G z n w y t B).dn
end
open PySem.Builtin PySem.Builtin.Str
open PyProof.Rows hiding St
variable{X:Cx}{E:XK}
def t4(i j:Int):Bool:=(decide (-18446744073709551616<i)&&decide (i<18446744073709551616))||(decide (-18446744073709551616<j)&&decide (j<18446744073709551616))
end P2
namespace P2
open PySem L2 PySem.Spec
open PyProof.Rows hiding St
def mY{g:lh}{P:Program}{w:World}{K:W.Frag}{h:iw}{d:Heap}{N:List Str}{c:Str}{b:Scope}{f:Addr}{i:Value}{A:Around}{a:List Env}{s:Shared}{H:Hp}{E:XK}:
    PassesOwn (model (iz g P w K h d N c b f i A a s H E).prog (iz g P w K h d N c b f i A a s H E).w) (iz g P w K h d N c b f i A a s H E).A (iz g P w K h d N c b f i A a s H E).env (iz g P w K h d N c b f i A a s H E).xe:=
 PassesOwn.leaving (Q₁:=λe j=>g a H s E e j)
variable{X:Cx}{E:XK}{e a b c B:Expr}{f T S L:g7}{pos:Pos}
def zP{u}(F:DE X E e f)(C:DG X B l u)(A:swapsWithSole [B] e pos.line X.env=pure false)(z:swappedStores [B] e X.env=pure none)
 (i:(assignEach [B] X.env).map (·.2)=[assign B X.env]):DS X E (.Assign [B] e pos) (qb f u):=by
  obtain⟨t,p,r⟩:=F;obtain⟨g,y,x⟩:=C;refine⟨_,Lg p y A z i,λP K G H J m D s h=>r _ _ _ _ _ _ _ s<|Aft.mono (i8.nM h s) λd I n i v w=>?_⟩;cases q:u d m with
  |none=>rw[q]at i;exact i.elim
  |some k=>rw[q]at i;exact x _ _ _ _ _ _ _ _ _ (s.grow n) w ⟨k,q,λj _ o=>i G I j .refl o⟩
def ux(i j:Nat)(fs:Ev->R (List D)):hX:=λd=>toS (fs d) λg=>match g with
 |[d1,d2]=>if i<d.length/\j<d.length then .nx ((d.set i<|.sh d1).set j (.sh d2))else .bad
 |_=>.bad
def zQ{fs pt l m d}(i j)(I:X.calm=true)(hN:X.N.Nodup)(hi:X.N[i]?=some x)(G:X.N[j]?=some y)(n:i≠j)
 (A:X.env.scope.names.lookup x=some .local)(w:X.env.scope.names.lookup y=some .local)(J:DA X E [a,b] fs)
 (C:swappedStores [.Tuple [.Name x px,.Name y py] l pt] (.Tuple [a,b] m d) X.env=pure (some [x,y]))
 (F:swapsWithSole [.Tuple [.Name x px,.Name y py] l pt] (.Tuple [a,b] m d) pos.line X.env=pure false):
   DS X E (.Assign [.Tuple [.Name x px,.Name y py] l pt] (.Tuple [a,b] m d) pos) (ux i j fs):=by
  obtain⟨t,p,r,_⟩:=J;refine⟨_,Li I hN hi G n A w p C F,λP U K H N O D s h=>r _ _ _ _ _ _ _ s<|Aft.mono (i8.nM h s) λR M o g Q q=>?_⟩;split at g
  ·rename_i d1 d2;cases q with
   |cons v k=>
    cases k with
    |cons k u=>
     cases u;split at g
     ·rename_i z;exact⟨_,_,rfl,g K M _ .refl (((s.grow o).set z.1 v).set (by rw[bp];exact z.2) k)⟩
     ·exact g.elim
  ·exact g.elim
def qf:D->D->Option Bool
 |.non,.non=>some true
 |.bl a,.bl b=>some (a==b)
 |.bl _,.non=>some false
 |.int _,.non=>some false
 |.str _,.non=>some false
 |.tup _,.non=>some false
 |.lst _,.non=>some false
 |_,_=>none
def k6(x y:D):R D:=match qf x y with
 |some b=>.ok (.bl b)
 |none=>.bad
def nE(x y:D):R D:=match qf x y with
 |some b=>.ok (.bl<|!b)
 |none=>.bad
def Ct{K:W.Frag}{g:Addr->Prop}{H:Hp}{x y:V}{n m:D}{b:Bool}(k:Rep K g H x n)(h:Rep K g H y m)(q:qf n m=some b):(y=.non/\decide (x=.non)=b)\/∃i j,x=.bl i/\y=.bl j/\(i==j)=b:=by
 have l:∀{y},Rep K g H y .non->y=.non:=λr=>by cases r;rfl
 have o:∀{x i},Rep K g H x (.bl i)->x=.bl i:=λr=>by cases r;rfl
 have ne:∀{d},d≠.non->Rep K g H x d->x≠.non:=λp r e=>by subst e;cases r;exact p rfl
 unfold qf at q;split at q<;>first|(cases q;done)|skip
 ·cases q;exact .inl ⟨l h,aV<|l k⟩
 ·cases q;exact .inr ⟨_,_,o k,o h,rfl⟩
 all_goals(cases q;exact .inl ⟨l h,aW<|ne (by nofun) k⟩)
def wX:jz X E (compareOp .Is) k6:=by
 refine⟨_,pW Ke Kf,λr H x y p o Q fr m l h=>?_⟩;unfold k6 at h;cases q:qf p o with
 |none=>rw[q]at h;exact h.elim
 |some b=>
  rw[q]at h;have k:=h H (.refl H) _ (.bl b);rcases Ct m l q with⟨g,d⟩|⟨i,j,g,d,n⟩;·exact .inl ⟨g,by rw[d];exact k⟩
  ·exact .inr ⟨i,j,g,d,by rw[n];exact k⟩
def Bs:jz X E (compareOp .IsNot) nE:=by
 refine⟨_,pW Ko Kg,λr H x y p o Q fr m l h=>?_⟩;unfold nE at h;cases q:qf p o with
 |none=>rw[q]at h;exact h.elim
 |some b=>
  rw[q]at h;have k:=h H (.refl H) _ (.bl _);rcases Ct m l q with⟨g,d⟩|⟨i,j,g,d,n⟩;·exact .inl ⟨g,by rw[d];exact k⟩
  ·exact .inr ⟨i,j,g,d,by unfold bne;rw[n];exact k⟩
def mH:D->Option Int->Option Int->R D
 |.tup ds,lo,hi=>if¬(HT.hI ds.length 0 lo=0/\HT.hI ds.length ds.length hi=ds.length)then .ok (.tup<|cutD ds lo hi)else .bad
 |d,lo,hi=>rD d lo hi
def CA:ve X E mH:=by
 obtain⟨n,k,m⟩:=OV (X:=X) (E:=E);refine⟨_,OY.or k,λq H x o lo hi Q fr g h=>?_⟩;unfold mH at h;split at h
 ·obtain⟨a,j,rfl,l,i⟩:=g.lg;split at h
  ·rename_i z;exact .inl ⟨a,j,rfl,l,by rw[i.length];exact z,λp d=>h _ (jG d) _ ((i.cut lo hi).yi d (fr p d))⟩
  ·exact h.elim
 ·exact .inr (m _ _ _ _ _ _ _ fr g h)
def wC:gP
 |[.lst ds]=>.ok (.lst ds)
 |[.tup ds]=>.ok (.lst ds)
 |_=>.bad
def ER:ni X E (.type "list") wC:=by
 refine⟨_,ES,λm H k l Q fr r h=>?_⟩;unfold wC at h;split at h
 ·obtain⟨v,rfl,q⟩:=gQ.one r;obtain⟨a,g,rfl,j,i⟩:=q.mX;exact⟨a,g,rfl,.inl j,λp d=>h _ (jG d) _<|i.nH d<|fr p d⟩
 ·obtain⟨v,rfl,q⟩:=gQ.one r;obtain⟨a,g,rfl,j,i⟩:=q.lg;exact⟨a,g,rfl,.inr j,λp d=>h _ (jG d) _<|i.nH d<|fr p d⟩
 ·exact h.elim
variable{J:Ev->R (List D)}
def zS(i:Nat){x:Str}{d:Pos}(hN:X.N.Nodup)(hi:X.N[i]?=some x)(w:Loc X.env.scope x)(A:mh X E e J)(y:swapsWith e (some<|.Name x d) pos.line X.env=pure true)(hf:X.hf x):
    DS X E (.Assign [.Name x d] e pos) (iA i<|ig J):=by
 obtain⟨t,_,p,r⟩:=A;refine⟨_,BW hN hi w p y hf,λP F n H G g D s h=>?_⟩;have C:i8 X.K P F E D n H (toS (J g) λl=>if i<g.length then .nx (g.set i<|.sh<|.lst l)else .bad):=by
  unfold iA ig at h;cases q:J g with
  |ok l=>rw[q]at h;exact h
  |ex c I M=>rw[q]at h;exact h
  |bad=>rw[q]at h;exact h.elim
 refine r _ _ _ _ _ _ _ s (Aft.mono (i8.nM C s) λl N m j q u k v=>?_);by_cases z:i<g.length
 ·simp only[z,cB]at j;have sm:=jG (K:=X.K) (o:=HO.lst u) k;exact j n _ _ (.of sm) (((s.grow m).grow sm).set z (v.nH k<|(s.grow m).fresh q k))
 ·simp only[z,bC]at j;exact j.elim
variable{m I:Expr}{F:List Expr}{k:Scope}{M:Ev->R (List D)}{l:List Nat}{a:D->Ev->Option Ev}{L:Ev->R Bool}{O:g7}{tn:Nat}{Nt:List Str}
def FO{x y:Str}(i j:Nat){c d:Addr}(K:List<|Str×NameKind)(Q:x≠y)(hc:X.calm=true)(hi:DI X E B m M)(hg:∀G s H C,DG (X.comp k (Nt++[x,y]) [(y,d),(x,c)] G s H C) B l a)(hl:∀j∈l,j<tn)(hf:∀G s H C,mf (X.comp k (Nt++[x,y]) [(y,d),(x,c)] G s H C) F L)
    (he:∀G s H C,DE (X.comp k (Nt++[x,y]) [(y,d),(x,c)] G s H C) (λ_ _ _=>False) I O)
    (n:k.kind=.function)(r:lX k)(g:kN k)(V:Nt.length=tn)
    (hN:X.N[i]?=some x)(hk:X.env.kindOf x=some .cell)(A:X.env.cells.lookup x=some c)(W:X.N[j]?=some y)(U:X.env.kindOf y=some .cell)(h:X.env.cells.lookup y=some d)(o:closureFor k X.env=pure [(y,d),(x,c)])(u:(relabel k X.env).names=K)
    (v:∀p∈K,(p.2=.cell\/p.2=.free)->p.1=x\/p.1=y)(t:∀z∈[x,y],K.lookup z=some .cell\/K.lookup z=some .free)
    (hs:∀x,foldedSetIterable m X.env x=pure x):mh X E (.ListComp I [⟨B,m,F,0⟩] k pos) (iq M tn [i,j] a L O):=by
 have b1:(x==y)=false:=by simpa using Q
 have P:([(y,d),(x,c)]:List<|Str×Addr).lookup x=some c:=by simp[List.lookup,b1]
 have N:([(y,d),(x,c)]:List<|Str×Addr).lookup y=some d:=by simp[List.lookup]
 refine vL (cl:=[(y,d),(x,c)]) (Nc:=[x,y]) (ci:=[i,j]) hc hi hg hl hf he o n r g (.cons hN (.inl hk) (by rw[A,P])<|.cons W (.inl U) (by rw[h,N]) .nil) V (λz e q=>?_) (λz q=>?_) (λz Z=>?_) hs
 ·by_cases w:z=y;·subst w;rw[N]at q;cases q;exact h
  ·by_cases Y:z=x;·subst Y;rw[P]at q;cases q;exact A
   ·have e1:(z==y)=false:=by simpa using w
    have e2:(z==x)=false:=by simpa using Y
    simp[List.lookup,e1,e2]at q
 ·rw[u]at q;have:z=x\/z=y:=q.elim (λq=>v _ (aY q)<|.inl rfl) λq=>v _ (aY q) (.inr rfl);rcases this with rfl|rfl;·exact⟨c,P⟩
  ·exact⟨d,N⟩
 ·rw[u];exact t z Z
def Jf:gP
 |[.int i,.int j]=>.ok (.int<|if j<i then j else i)
 |_=>.bad
end P2
namespace TM
open PySem PySem.NumText PySem.StrLaws Builtin Builtin.Str
def pC(x:Str):List Nat:=x.cps.toList
def zk(x y:Str):pC (x++y)=pC x++pC y:=by show(x.cps++y.cps).toList=x.cps.toList++y.cps.toList;simp
def wz(x:Str):x.length=(pC x).length:=by simp[Str.length,pC]
end TM
namespace P2
open PySem L2
def bits_le{i:Int}(h:i.natAbs<2^k):bits i<=k:=intBits_le_iff.mpr h
section
variable{B S:Type}{a:B}{c:Addr}{p:List Str}{s:List D}{k:B->RT}{h:B->R S}{e:Ev}{g u:hX}{f q A:g7}{o F:Ev->R Bool}{fs:Ev->R (List D)}{i j:Int}{x y:Str}{b Q:Bool}{l E:List D}{d:D}{n m:Nat}{J T:D->D->R D}{L:D->R D}{I:gP}{H:D->gP}
variable{t:String}{K:D->Option Int->Option Int->R D}{N M:Ev->R (Option Int)}{P:List Nat}{C:D->Ev->Option Ev}{lo hi:Option Int}{O:Str->g7}
def LS:(R.ok a).bind h=h a:=rfl
def LU:(R.ex c p s:R B).bind h=.ex c p s:=rfl
def LR:(R.bad:R B).bind h=.bad:=rfl
def Nu:toS (R.ok a) k=k a:=rfl
def Nv:toS (R.ex c p s:R B) k=.ex c p s:=rfl
def Nr:toS (R.bad:R B) k=.bad:=rfl
def oJ:lF (.nx e) g=g e:=rfl
def M9:lF (.rt d) g=.rt d:=rfl
def Na:lF (.ex c p s) g=.ex c p s:=rfl
def M8:lF .bad g=.bad:=rfl
def Ca:turnT (.nx e) g=g e:=rfl
def Nx:turnT (.ct e) g=g e:=rfl
def Ny:turnT (.bk e) g=.nx e:=rfl
def Nz:turnT (.rt d) g=.rt d:=rfl
def Nw:turnT .bad g=.bad:=rfl
def NA:turnT (.ex c p s) g=.ex c p s:=rfl
def Md:hU (.rt d)=.ok d:=rfl
def Mc:hU (.nx e)=.ok .non:=rfl
def Me:hU (.ex c p s)=.ex c p s:=rfl
def MW:pV (R.ok a)=.ok a:=rfl
def MY:nO (R.ok a)=some a:=rfl
def MX:tZ (some a)=.ok a:=rfl
def l0:iu g u e=lF (g e) u:=rfl
def M4:mG e=.nx e:=rfl
def M7:jy f e=toS (f e) .rt:=rfl
def M0:Oy f e=toS (f e) λ_=>.nx e:=rfl
def ur:iA n f e=toS (f e) λd=>if n<e.length then .nx (e.set n<|.sh d)else .bad:=rfl
def B9:mF o g u e=toS (o e) λk=>if k=true then g e else u e:=rfl
def LZ:dC d e=.ok d:=rfl
def LV:d1 L f e=(f e).bind L:=rfl
def LW:d2 J q A e=(q e).bind λx=>(A e).bind λy=>J x y:=rfl
def LM:b1 P2.tB f e=(f e).bind P2.tB:=rfl
def LN:b1 tT f e=(f e).bind tT:=rfl
def LO:lL o F e=(o e).bind λc=>if c=true then F e else .ok false:=rfl
def LQ:ly o F e=(o e).bind λc=>if c=true then .ok true else F e:=rfl
def LP:oo o e=(o e).bind λc=>.ok (!c):=rfl
def LY:vF q A e=((q e).bind P2.tB).bind λc=>if c=true then A e else .ok (.bl false):=rfl
def L6:Fj q A e=((q e).bind P2.tB).bind λc=>if c=true then .ok (.bl true)else A e:=rfl
def L3:vG q e=((q e).bind P2.tB).bind λc=>.ok (.bl<|!c):=rfl
def L0:Fh o q A e=(o e).bind λk=>if k=true then q e else A e:=rfl
def LX:dA I fs e=(fs e).bind I:=rfl
def Lw:gL e=.ok []:=rfl
def Lv:gI f fs e=(f e).bind λx=>(fs e).bind λr=>.ok (x::r):=rfl
def LL:ig fs e=(fs e).bind λl=>.ok (.lst l):=rfl
def L1:Fi t H f fs e=(f e).bind λx=>if v3 t x=true then(fs e).bind λr=>H x r else .bad:=rfl
def L7:nC K f N M e=(f e).bind λx=>(N e).bind λi=>(M e).bind λj=>K x i j:=rfl
def B5:iq fs n P C o f e=(fs e).bind λl=>if l.length<=sizeLine then tZ (kK C o f (kg n P e) l)else .bad:=rfl
def M3:nT fs C g e=toS (fs e) λl=>jX C g l e:=rfl
def Mi:jX C g (d::l) e=toO (C d e) λr=>turnT (g r) (jX C g l):=rfl
def Nq:toO (some a) k=k a:=rfl
def Mm:gV n d e=if n<e.length then some (e.set n<|.sh d)else none:=rfl
def Nj:P2.tB (.bl b)=.ok b:=rfl
def Nk:tT (.bl b)=.ok b:=rfl
def Nl:tT (.int i)=.ok (i !=0):=rfl
def Nn:tT .non=.ok false:=rfl
def Nm:tT (.lst l)=.ok (!l.isEmpty):=rfl
def Np:tT (.tup l)=.ok (!l.isEmpty):=rfl
def Lz:ik (.int i) (.int j)=.ok (.int<|i+j):=rfl
def LC:ik (.str x) (.str y)=if x.length+y.length<=sizeLine then .ok (.str<|x++y)else .bad:=rfl
def LA:ik (.lst l) (.lst E)=if l.length+E.length<=sizeLine then .ok (.lst<|l++E)else .bad:=rfl
def Ni:nX (.int i) (.int j)=.ok (.int<|i - j):=rfl
def B6:ib (.int i) (.int j)=if rq i j=true then .ok (.int<|i.fdiv j)else .bad:=rfl
def MR:ir (.int i) (.int j)=if decide (j≠0)=true then .ok (.int<|i.fmod j)else .bad:=rfl
def MM:P2.nL (.int i) (.int j)=.ok (.bl<|decide<|i<j):=rfl
def MI:Ir (.int i) (.int j)=.ok (.bl<|decide<|i<=j):=rfl
def Mo:lR (.int i) (.int j)=.ok (.bl<|decide<|j<i):=rfl
def Mn:Gz (.int i) (.int j)=.ok (.bl<|decide<|j<=i):=rfl
def MV:tR (.int i)=.ok (.int<|-i):=rfl
def Ma:j5 (.int i) (.int j)=.ok (.bl<|decide<|i=j):=rfl
def Mb:j5 (.str x) (.str y)=.ok (.bl<|decide<|x=y):=rfl
def L9:j5 (.bl b) (.bl Q)=.ok (.bl<|decide<|b=Q):=rfl
def MT:pU (.int i) (.int j)=.ok (.bl<|!decide (i=j)):=rfl
def MU:pU (.str x) (.str y)=.ok (.bl<|!decide (x=y)):=rfl
def Mq:Ho (.str x) (.str y)=.ok (.bl<|Txt.contains y x):=rfl
def MD:hK (.lst l) (.int i)=match L2.iM l i with|some d=>.ok d|none=>.bad:=rfl
def MF:hK (.tup l) (.int i)=match L2.iM l i with|some d=>.ok d|none=>.bad:=rfl
def ME:hK (.str x) (.int i)=if x.length<=sizeLine then(match L2.iM x.cps.toList i with|some c=>.ok (.str ⟨#[c]⟩)|none=>.bad)else .bad:=rfl
def Nf:rD (.lst l) lo hi=.ok (.lst<|cutD l lo hi):=rfl
def Ng:rD (.str x) lo hi=if x.length<=sizeLine then .ok (.str<|Txt.slice x lo hi)else .bad:=rfl
def MZ:pI (.int i)=.ok (some i):=rfl
def MK:pO [.str x]=if x.length<=sizeLine then .ok (.int x.length)else .bad:=rfl
def MJ:pO [.lst l]=.ok (.int l.length):=rfl
def ML:pO [.tup l]=.ok (.int l.length):=rfl
def Ly:pw [.int i]=.ok (.int<|if i<0 then -i else i):=rfl
def MN:Jb [.int i,.int j]=.ok (.int<|if j>i then j else i):=rfl
def Mr:intD [.str x]=match PySem.intText? x with|some n=>if x.length<=640 then .ok (.int n)else .bad|none=>.bad:=rfl
def LD:Ej [.lst l]=match qJ l with|some bs=>.ok (.bl<|bs.all id)|none=>.bad:=rfl
def LF:En [.lst l]=match qJ l with|some bs=>.ok (.bl<|bs.any id)|none=>.bad:=rfl
def Nh:O9 (.str x) [.str y]=.ok (.bl<|Txt.startswith x y):=rfl
def NQ:QW (.str x) [.int i]=if PadOk i=true then .ok (.str<|Txt.zfill x i)else .bad:=rfl
def Mp:v3 "str" (.str x)=true:=by rfl
def MP:iZ l=if l.length<=sizeLine then .ok (.tup l)else .bad:=rfl
def Mf:km l=if l.length<=sizeLine then .ok l else .bad:=rfl
def LI:hJ (.lst l)=.ok l:=rfl
def LK:hJ (.tup l)=.ok l:=rfl
def LJ:hJ (.str x)=.ok (signs x):=rfl
def Mh:Gk (.str x)=if x.length<=sizeLine then .ok (.str x)else .bad:=rfl
def MH:HL x e=if x.length<=sizeLine then .ok (.str x)else .bad:=rfl
def MG:HK f O x e=(f e).bind λz=>match z with|.str y=>if(x++y).length<=sizeLine then O (x++y) e else .bad|_=>.bad:=rfl
def NB:dV 0 (.sh d::r)=.ok d:=rfl
def NC:dV 1 (s0::.sh d::r)=.ok d:=rfl
def NI:dV 2 (s0::s1::.sh d::r)=.ok d:=rfl
def NJ:dV 3 (s0::s1::s2::.sh d::r)=.ok d:=rfl
def NK:dV 4 (s0::s1::s2::s3::.sh d::r)=.ok d:=rfl
def NL:dV 5 (s0::s1::s2::s3::s4::.sh d::r)=.ok d:=rfl
def NM:dV 6 (s0::s1::s2::s3::s4::s5::.sh d::r)=.ok d:=rfl
def NN:dV 7 (s0::s1::s2::s3::s4::s5::s6::.sh d::r)=.ok d:=rfl
def NO:dV 8 (s0::s1::s2::s3::s4::s5::s6::s7::.sh d::r)=.ok d:=rfl
def NP:dV 9 (s0::s1::s2::s3::s4::s5::s6::s7::s8::.sh d::r)=.ok d:=rfl
def ND:dV 10 (s0::s1::s2::s3::s4::s5::s6::s7::s8::s9::.sh d::r)=.ok d:=rfl
def NF:dV 11 (s0::s1::s2::s3::s4::s5::s6::s7::s8::s9::qa::.sh d::r)=.ok d:=rfl
def NG:dV 12 (s0::s1::s2::s3::s4::s5::s6::s7::s8::s9::qa::lE::.sh d::r)=.ok d:=rfl
def NH:dV 13 (s0::s1::s2::s3::s4::s5::s6::s7::s8::s9::qa::lE::mE::.sh d::r)=.ok d:=rfl
def rC(r:0<j):ir (.int i) (.int j)=.ok (.int<|i%j):=by rw[MR,ai<|by simp;omega,Int.fmod_eq_emod_of_nonneg _<|by omega]
def p9(r:0<j)(w:j<18446744073709551616):ib (.int i) (.int j)=.ok (.int<|i/j):=by have v:bits j<=64:=bits_le (by omega);rw[B6,ai<|by unfold rq;simp only[aN,bF];omega,Int.fdiv_eq_ediv_of_nonneg _<|by omega]
def rB{x y:Str}(v:x.length<=1000)(r:y.length<=1000):ik (.str x) (.str y)=.ok (.str<|x++y):=by rw[LC,ai<|aI (gd v r)<|by decide]
def LB{x y:List D}(v:x.length<=1000)(r:y.length<=1000):ik (.lst x) (.lst y)=.ok (.lst<|x++y):=by rw[LA,ai<|aI (gd v r)<|by decide]
def Mg{x:List D}(r:x.length<=1000):km x=.ok x:=by rw[Mf,ai<|aI r<|by decide]
def MQ{x:List D}(r:x.length<=1000):iZ x=.ok (.tup x):=by rw[MP,ai<|aI r<|by decide]
end
open PySem.Spec
open PyProof.Rows hiding St
section
variable{X:Cx}{E:XK}
def nN(i j:Int):Bool:=wN i j||t4 i j
def hD:D->D->R D
 |.int i,.int j=>if nN i j=true then .ok (.int<|i*j)else .bad
 |.str x,.int n=>if wO x n=true then .ok (.str<|Txt.mul x n)else .bad
 |_,_=>.bad
def jm:jz X E (binaryOp .Mult) hD:=by
 refine⟨_,pW (pW Kj Kk) Kl,λe H x y d c Q fr b a h=>?_⟩;unfold hD at h;split at h
 ·cases b;cases a;split at h
  ·rename_i z;unfold nN at z;rw[cW]at z;rcases z with z|z
   ·unfold wN at z;simp only[aN,bF]at z;exact .inl (.inr ⟨_,_,rfl,rfl,z,h H (.refl H) _<|.int _⟩)
   ·refine .inl (.inl ⟨_,_,rfl,rfl,?_,h H (.refl H) _<|.int _⟩);unfold t4 at z;simp only[cW,aN,bF]at z;exact z
  ·exact h.elim
 ·cases b;cases a;split at h;·rename_i z;exact .inr ⟨_,_,rfl,rfl,mulOk_of z,h H (.refl H) _<|.str _⟩
  ·exact h.elim
 ·exact h.elim
def Ku:(10:Nat)^400<2^1500:=by decide+kernel
def vt{i:Int}(h:i.natAbs<10^400):bits i<=1500:=bits_le (fL h Ku)
def MS{i j:Int}(hi:i.natAbs<10^400)(a:j.natAbs<10^400):hD (.int i) (.int j)=.ok (.int<|i*j):=by have c:=vt hi;have b:=vt a;show(if nN i j=true then R.ok (D.int<|i*j)else .bad)=_;rw[ai<|by unfold nN wN;simp only[cW,aN,bF];left;omega]
def uq{i j:Int}(b: -18446744073709551616<j)(a:j<18446744073709551616):hD (.int i) (.int j)=.ok (.int<|i*j):=by show(if nN i j=true then R.ok (D.int<|i*j)else .bad)=_;rw[ai<|by unfold nN t4;simp only[cW,aN,bF];right;right;exact⟨b,a⟩]
def B7{i j:Int}(b: -18446744073709551616<i)(a:i<18446744073709551616):hD (.int i) (.int j)=.ok (.int<|i*j):=by show(if nN i j=true then R.ok (D.int<|i*j)else .bad)=_;rw[ai<|by unfold nN t4;simp only[cW,aN,bF];right;left;exact⟨b,a⟩]
def uo{i j:Int}(b:j≠0)(a:j.natAbs<10^400):ib (.int i) (.int j)=.ok (.int<|i.fdiv j):=by have c:=vt a;rw[B6,ai<|by unfold rq;simp only[aN,bF];omega]
def Mt{i:Int}:lB q [.int i,.ty "int"]=.ok (.bl true):=rfl
def Ms{i:Int}:lB q [.int i,.ty "bool"]=.ok (.bl false):=rfl
def Mv:lB q [.str x,.ty "str"]=.ok (.bl true):=rfl
def Mw:lB q [.tup ds,.ty "tuple"]=.ok (.bl true):=rfl
def Mu:lB q [.lst ds,.ty "list"]=.ok (.bl true):=rfl
def Nb{lo hi}:mH (.lst ds) lo hi=.ok (.lst<|cutD ds lo hi):=rfl
def Nd{lo hi}:mH (.str x) lo hi=if x.length<=sizeLine then .ok (.str<|Txt.slice x lo hi)else .bad:=rfl
def Mx:k6 (.bl a) (.bl b)=.ok (.bl<|a==b):=rfl
def MA:nE (.bl a) (.bl b)=.ok (.bl<|!(a==b)):=rfl
def My:k6 .non .non=.ok (.bl true):=rfl
def MB:nE .non .non=.ok (.bl false):=rfl
def Mz:k6 (.tup ds) .non=.ok (.bl false):=rfl
def MC:nE (.tup ds) .non=.ok (.bl true):=rfl
def Cb{n}:l8 c b (n+1) ρ=toS (c ρ) λk=>if k=true then turnT (b ρ) (l8 c b n)else .nx ρ:=rfl
variable{a b:Expr}{rest:List Expr}{pos:Pos}{m l:TE}{f e:g7}
def Fn(a b:g7):g7:=λd=>(a d).bind λx=>(tT x).bind λc=>if c=true then .ok x else b d
def L5:Fn f e ρ=(f ρ).bind λx=>(tT x).bind λc=>if c=true then .ok x else e ρ:=rfl
end
open PySem.Calls
def BM(b:iw)(h:Heap):Prop:=∃a ob,b "__builtins__"=some (.ref a)/\a≠builtinsNs/\h.get? a=some ob/\ob.cls=.type "module"/\ob.dict=some builtinsNs/\ob.data=.plain
def oH(K:W.Frag)(x:Str)(c P:Addr):Bool:=(jr K).any (λt=>t.1==x&&(t.2.1==c&&t.2.2==P))&&W.codeHdIn K c P&&(jr K).all λt=>t.2.2 !=P||t.1==x
def A2{K:W.Frag}{x:Str}{c P:Addr}(h:oH K x c P=true):(x,c,P)∈jr K/\W.codeHdIn K c P=true/\∀t∈jr K,t.2.2=P->t.1=x:=by
 unfold oH at h;simp only[aN]at h;obtain⟨⟨f,d⟩,b⟩:=h;refine⟨?_,d,λt a e=>?_⟩
 ·obtain⟨t,a,e⟩:=cO.mp f;simp only[aN,dg]at e;obtain⟨j,i,g⟩:=t;obtain⟨rfl,rfl,rfl⟩:=e;exact a
 ·have:=dj.mp b t a;simp only[cW,bne_iff_ne,dg]at this;rcases this with z|z;·exact absurd e z
  ·exact z
def P5{pos:Pos}:∀l,TriplesOk l->codeAmong q (l++[rawInt pos.line,rawInt pos.col,c])=some cv->codeAmong q l=some cv\/cv=c:=by
 intro l h d
 fun_induction TriplesOk l with
 |case1=>
  simp only[fT,codeAmong,rawInt]at d;split at d;·cases d;exact .inr rfl
  ·cases d
 |case2 a t b u x rest f=>
  simp only[bS,codeAmong]at d⊢;split at d;·rename_i e;rw[ai e];exact .inl d
  ·rename_i e;rw[ak e];exact f h d
 |case3 l i g=>exact h.elim
def lj(f:Addr)(o:Obj):HO:=.ext λh=>h.get? f=some o
def E7{w}{h:Heap}(x:h.CodeRec (.ref c) q):iY P w H h c (jj c q):=by
 refine⟨x,?_,λf d y k=>?_⟩
 ·obtain⟨b,o,a,t,e,g,r⟩:=x;cases e;exact⟨o,g⟩
 ·obtain⟨b,o,a,t,e,g,r⟩:=y;cases e;exact⟨c,o,a,t,rfl,k o g,r⟩
def wx{w}{h:Heap}(x:h.get? f=some o):iY P w H h f (lj f o):=⟨x,⟨o,x⟩,λb a y k=>k o y⟩
section
variable{X:Cx}{j:List<|Addr×Obj}{B:List<|Option V}{H:Hp}{s:Shared}
def Im{tk:Nat}(I:Inv X j B H s)(k:H P=some (.iO ps))(h:Heap.ExtBut P s.heap h')(g:s.heap.objs.size<=c')(p:c'<f)(hf:h'.get? f=some o)(i:h'.get? P=some (W.tabObj<|ps++rA))
 (t:∀M,iY X.prog X.w M h' c' oc):Inv X j B (upd (upd (upd H P<|.iO<|ps++rA) c' oc) f<|lj f o) {s with heap:=h',toks:=tk}:=by
  have K:s.heap.get? P=some (W.tabObj ps):=I.hok P _ k;have A:=Heap.lt_size K;have F:H c'=none:=I.hok.fresh g;have D:H f=none:=I.hok.fresh (aI g<|bJ p);have L:c'≠P:=λz=>absurd (ay A g) (by rw[z];exact bj _);have J:f≠P:=λz=>absurd (ay A<|aI g<|bJ p) (by rw[z];exact bj _);have N:f≠c':=cc p;have l:∀b,H b=none->b≠P:=λb n z=>by rw[z,k]at n;cases n
  have at':∀b u,b≠P->H b=some u->(upd (upd (upd H P<|.iO<|ps++rA) c' oc) f<|lj f o) b=some u:=λb u z e=>by rw[gY<|jl e D,gY<|jl e F,gY z];exact e
  have w:(upd (upd (upd H P<|.iO<|ps++rA) c' oc) f<|lj f o) P=some (.iO<|ps++rA):=by rw[gY J.symm,gY L.symm,ix]
  have a:∀b u,H b=some u->(∀q,u≠.iO q)->b≠P:=λb u e n z=>by rw[z,k]at e;cases e;exact n ps rfl
  refine I.step (g':=s.gens) (d':=s.drawn) (ch:=[]) (λ_ z=>nomatch z) (λb o _ _ _ e n=>h b o (l b n) e) (λb o _ _ _ e n=>⟨o.slots,h b o (l b n) e⟩) (λb o _ e n=>?_) (λb o _ e=>?_)
   (λb C e=>at' b _ (a b _ e λ_ z=>nomatch z) e) (λb o u e=>at' b _ (a b _ e λ_ z=>nomatch z) e) (λb q e=>?_) (λm G=>G.extBut h<|l _ I.free) (λb u e=>?_) I.bare
  ·have y:=Heap.lt_size e;rw[gY λz=>?_,gY λz=>?_,gY<|l b n];·exact n
   ·exact absurd (ay y g) (by rw[z];exact bj _)
   ·exact absurd (ay y<|aI g<|bJ p) (by rw[z];exact bj _)
  ·by_cases z:b=P;·exact⟨_,by rw[z];exact i⟩
   ·exact⟨o,h b o z e⟩
  ·by_cases z:b=P
   ·subst z;rw[k]at e;cases e;exact⟨rA,w⟩
   ·exact⟨#[],by rw[at' b _ z e,Array.append_empty]⟩
  ·by_cases x:b=f
   ·subst x;rw[ix]at e;cases e;exact wx hf
   ·rw[gY x]at e;by_cases z2:b=c'
    ·subst z2;rw[ix]at e;cases e;exact t _
    ·rw[gY z2]at e;by_cases r:b=P
     ·subst r;rw[ix]at e;cases e;exact i
     ·rw[gY r]at e;refine(I.hok b u e).oT (λc v d q=>h c v (λz=>?_) q) (λc q=>at' c _ (a c _ q λ_ z=>nomatch z) q) λc C q=>at' c _ (a c _ q λ_ z=>nomatch z) q;rcases d with d|d;·rw[d]at z;exact r z
      ·rw[z,k]at d;cases d
def wu(K:W.Frag)(x:Str):Bool:=match W.tabIn K x with
 |some (c,P)=>oH K x c P
 |none=>false
def Ik{K:W.Frag}{x:Str}{f:Addr}{i:Value}{g:Option Addr}{d:FuncData}{b:Array<|Option Value}(a:W.nsIn K mainGlobals x=some (some<|.ref f))(l:K.lookup f=some ⟨i,g,.func d,b⟩)(h:wu K x=true):∃c P,oH K x c P=true/\d.code=.ref c:=by
 unfold wu at h;split at h
 ·rename_i c P e;refine⟨c,P,h,?_⟩;unfold W.tabIn at e;rw[a]at e;dsimp only at e;rw[l]at e;dsimp only at e;split at e
  ·rename_i m k;split at e
   ·split at e;·cases e;exact k
    ·cases e
   ·cases e
  ·cases e
 ·cases h
variable{P:Program}{w:World}{K:W.Frag}{y:iw}{i:Heap}
def Gp{x:Str}{b:Stmt}{f c:Addr}{z:FuncData}{N o:List Str}{k:Nat}{g:hX}(F:iK K x x b f z)(U:z.code=.ref c)(S:i3 N o<|hY b)
    (e:∀(A:Around) (a:List Env) (s:Shared) (H:Hp) (E:XK),iR k (iz (hZ P w) P w K y i N x (hY b) f (.ref c) A a s H E).A->lI (iz (hZ P w) P w K y i N x (hY b) f (.ref c) A a s H E) E (jK b) g):
    je P w K y i (k+1) f z o (ip o.length K λl=>hU<|g<|hA N.length l):=by
 obtain⟨oc,od,kV,Y,pm,an,C,ct,O,rfl,R,u⟩:=F.ex;obtain rfl:C=.ref c:=U;refine Ah R u S (λI H Q E h=>h.1) λA a s H I Q E T h=>?_;obtain⟨hl,M,J,l,fr,n,h⟩:=h;obtain⟨t,p,r⟩:=e A a s H E T;dsimp only at h;refine⟨t,p,r J H J H (L2.start N I) (hA N.length l) _ (uw M fr n) ?_⟩;cases q:g (hA N.length l)with
 |nx G=>rw[q]at h;exact λZ D L _ m=>h D m.same .non .non
 |rt d=>rw[q]at h;exact λv D m n=>h D m v n
 |ex c ns es=>rw[q]at h;exact h
 |bk G=>rw[q]at h;exact h.elim
 |ct G=>rw[q]at h;exact h.elim
 |bad=>rw[q]at h;exact h.elim
end
def Ip{w}{K:W.Frag}{c:Shared}{C:List Value}
 (KX:K.In c.heap)(R:c.heap.Ns mainGlobals mg)(hb:c.heap.Ns builtinsNs mb)(hbb:∀x:Str,x≠"__name__"->mb x=bootBuiltins x)(S:c.heap.NoLimit)(hg:c.gens=#[])
 (G:c.heap.get? a=some {cls:=.type "list",data:=.seq C.toArray})(hi:IntsAre C ns)(hl:ns.length<=sizeLine)(hr:iR k callerA)(hT:∀t∈jr K,W.CodeHd c.heap t.2.1 t.2.2/\c.heap.get? t.2.2=some (W.tabObj #[]))(hN:W.noTabs K=true)
 (hB:BM mg c.heap)
 (F:∀l:Heap,K.In l->l.Ns mainGlobals mg->BM mg l->ku P w K mg l CX k fa fd [x] sp)(D:∀s u,BindsTo s fd ⟨[u],[]⟩ [(x,u)])
 (hsp:∀H:Hp,jt K H->jx K H a (ns.map V.int)->sp [.ref a] H (λv _=>v=.bl true) λ_ _ _=>False)
 (GH:∀H e j,CX [] H c (λ_ _ _=>False) e j->False):
   codeAny (model P w) callerA (.call (.ref fa) ⟨[.ref a],[]⟩) (λr j=>r=.ok (.ret<|.bool true)/\OldK c.heap j.heap/\j.os=c.os/\AllBare j.gens) c:=by
  have rv:=CW hi;have O:=hi.length;have na:∀t∈jr K,t.2.2≠a:=λt f e=>by have:=(hT t f).2;rw[e,G]at this;cases this
  have nK:∀t∈jr K,K.lookup t.2.2=none:=λt f=>by
   cases q:K.lookup t.2.2 with
   |none=>rfl
   |some o=>have Y:=KX _ _ q;rw[(hT t f).2]at Y;cases Y;have h2:=dj.mp hN (t.2.2,W.tabObj #[]) (W.mem_of_lookupK q);exact absurd (show false=true from h2) aA
  have B:∀H:Hp,(∀b,H b=none\/(∃o M,H b=some (.jD o<|.lst M)/\b=a/\K.lookup a=none)\/∃t∈jr K,b=t.2.2/\H b=some (.iO #[]))->(∀t∈jr K,H t.2.2=some (.iO #[]))->jx K H a (ns.map V.int)->iL P w H c.heap->
   codeAny (model P w) callerA (.call (.ref fa) ⟨[.ref a],[]⟩) (λr j=>r=.ok (.ret<|.bool true)/\OldK c.heap j.heap/\j.os=c.os/\AllBare j.gens) c:=by
   intro H hO GN hS Q;have i:∀{b:Addr} {o:Obj},c.heap.get? b=some o->H b=none->(mx c.heap H).get? b=some o:=λe n=>G4 e n;have Jl:∀{b:Addr} {o:Obj} {I:Array DictEntry} {J:Nat},c.heap.get? b=some o->o.data=.dict I J->H b=none:=λ{b o I J} e d=>by
    rcases hO b with z|⟨ob,M,z,g,_⟩|⟨t,f,g,z⟩;·exact z
    ·subst g;rw[G]at e;cases e;have d':Data.seq C.toArray _=Data.dict I J:=d;cases d'
    ·subst g;rw[(hT t f).2]at e;cases e;have d':Data.fields #[]=Data.dict I J:=d;cases d'
   have p:∀{b:Addr} {m:iw},c.heap.Ns b m->(mx c.heap H).Ns b m:=λ{b m} ⟨o,I,J,e,d,r⟩=>⟨o,I,J,i e (Jl e d),d,r⟩;have U:K.In (mx c.heap H):=λb o e=>i (KX b o e) (by
    rcases hO b with z|⟨ob,M,z,g,T⟩|⟨t,f,g,z⟩;· exact z
    · subst g;rw[T]at e;cases e
    · subst g;rw[nK t f]at e;cases e)
   have GD:BM mg (mx c.heap H):=by
    obtain⟨bm,ob,b1,b2,b3,b4,b5,b6⟩:=hB;refine⟨bm,ob,b1,b2,i b3 ?_,b4,b5,b6⟩;rcases hO bm with z|⟨o2,M,z,g,_⟩|⟨t,f,g,z⟩;·exact z
    ·subst g;rw[G]at b3;cases b3;cases b6
    ·subst g;rw[(hT t f).2]at b3;cases b3;cases b6
   have hM:Mod K mg (mx c.heap H):=⟨U,p R,⟨mb,p hb,hbb⟩,let⟨mc,h1,h2⟩:=S;⟨mc,p h1,h2⟩⟩;have e0:qw P w K mg (mx c.heap H) callerA [] c H:=⟨rfl,hM,λb o e=>Jy e,Nat.le_of_eq<|G5 _ _,trivial,λb hb=>absurd (show b∈([]:List Addr)from hb)<|by simp,Q,.of_eq hg⟩;have tb:jt K H:=λt f=>⟨#[],GN t f,trivial,λpos cv e=>by cases e⟩;refine dM ((F _ U (p R) GD).run callerA [] c H ⟨[.ref a],[]⟩ [.ref a] [.ref a] _ _ hr e0 (D c<|.ref a) (.cons rfl .nil) (hsp H tb hS)) λr j h=>?_;cases r with
   |error e=>exact(GH H e j h).elim
   |ok fl=>
    cases fl with
    |next=>exact False.elim h
    |brk=>exact False.elim h
    |cont=>exact False.elim h
    |ret u=>
     obtain⟨v,H',os,Z,un,A,r',q⟩:=h;have q':v=.bl true:=q;subst q';obtain rfl:u=Value.bool true:=r';have kept:∀b o,c.heap.get? b=some o->j.heap.get? b=some o\/∃t∈jr K,b=t.2.2/\∃ps,j.heap.get? b=some (W.tabObj ps):=λb o e=>by
      rcases hO b with z|⟨ob,M,z,_⟩|⟨t,f,g,z⟩;·exact .inl (un.keep b o e z (by intro y;exact absurd (show b∈([]:List Addr)from y) (by simp)) (by simp))
      ·have z2:=un.lO b ob _ z;obtain⟨Y,_⟩:=Q b _ z;obtain⟨L,_⟩:=A b _ z2;rw[e]at Y;cases Y;exact .inl L
      ·obtain⟨N,z2⟩:=un.m8 b #[] z;have L:j.heap.get? b=some {cls:=.none,data:=.fields<|#[]++N}:=A b _ z2;exact .inr ⟨t,f,g,_,L⟩
     refine⟨rfl,⟨λb o e=>?_,λb o e=>?_⟩,os,Z⟩
     ·rcases kept b o e with z|⟨t,f,g,ps,z⟩;·exact .inl z
      ·subst g;have L:=(hT t f).2;rw[e]at L;cases L;exact .inr (.inl ⟨((hT t f).1.tab (hT t f).2).isCodeTable,rfl,#[],ps,rfl,by rw[Array.empty_append];exact z⟩)
     ·rcases kept b o e with z|⟨_,_,_,ps,z⟩;·exact⟨o,z⟩
      ·exact⟨_,z⟩
  have nz:¬∃t∈jr K,a=t.2.2:=λ⟨t,f,e⟩=>na t f e.symm;have iO:∀(H:Hp) (b:Addr),(∃t∈jr K,b=t.2.2)->iY P w H c.heap b (.iO #[]):=λH b ⟨t,f,e⟩=>by subst e;exact(hT t f).2
  cases T:K.lookup a with
  |some o=>
   have e:=KX a o T;rw[G]at e;cases e;refine B (λb=>if(∃t∈jr K,b=t.2.2)then some (.iO #[])else none) (λb=>?_) (λt f=>ai ⟨t,f,rfl⟩) (.inr ⟨_,C.toArray,_,T,rfl,rfl,rfl,by rw[aK,O];exact hl,by simpa using rv⟩) (λb u e=>?_)
   ·by_cases z:∃t∈jr K,b=t.2.2
    ·obtain⟨t,f,e⟩:=z;exact .inr (.inr ⟨t,f,e,ai ⟨t,f,e⟩⟩)
    ·exact .inl (ak z)
   ·by_cases z:∃t∈jr K,b=t.2.2
    ·have g:=(ai z).symm.trans e;cases g;exact iO _ b z
    ·have g:=(ak z).symm.trans e;cases g
  |none=>
   refine B (λb=>if(∃t∈jr K,b=t.2.2)then some (.iO #[])else if b=a then some (.jD {cls:=.type "list",data:=.seq C.toArray}<|.lst<|ns.map V.int)else none) (λb=>?_) (λt f=>ai ⟨t,f,rfl⟩) (.inl<|.inr ⟨{cls:=.type "list",data:=.seq C.toArray},(ak nz).trans (ai rfl)⟩) (λb u e=>?_)
   ·by_cases z:∃t∈jr K,b=t.2.2
    ·obtain⟨t,f,e⟩:=z;exact .inr (.inr ⟨t,f,e,ai ⟨t,f,e⟩⟩)
    ·by_cases y:b=a;·exact .inr (.inl ⟨_,_,(ak z).trans (ai y),y,T⟩)
     ·exact .inl ((ak z).trans (ak y))
   ·by_cases z:∃t∈jr K,b=t.2.2
    ·have g:=(ai z).symm.trans e;cases g;exact iO _ b z
    ·by_cases y:b=a
     ·have g:=((ak z).trans (ai y)).symm.trans e;cases g;subst y;exact⟨G,by rw[aD];exact hl,C,_,rv,G⟩
     ·have g:=((ak z).trans (ak y)).symm.trans e;cases g
def PV{K:W.Frag}(T:Top p loose RW mg mb h)(X:K.In h)(b:(jr K).all (λt=>((recsOf p).find? λe=>e.name==t.1).isSome)=true):
    ∀t∈jr K,W.CodeHd h t.2.1 t.2.2/\h.get? t.2.2=some (W.tabObj #[]):=λt a=>by
 have f:=dj.mp b t a;obtain⟨d,c⟩:=cf.mp f;unfold jr at a;obtain⟨x,_,e⟩:=cV.mp a;split at e
 ·obtain⟨q,i,g⟩:=aj.mp e;subst g;exact W.tab_of T X c i
 ·cases e
end P2
namespace WP
open PySem L2 P2
structure Ad where
 WeatherError:Addr:=0
 NoFraction:Addr:=0
 Rj:Addr:=0
 Ro:Addr:=0
 Rn:Addr:=0
 Ri:Addr:=0
 Tokens:Addr:=0
 Rb:Addr:=0
 Rm:Addr:=0
 Rf:Addr:=0
 Rw:Addr:=0
 Ru:Addr:=0
 Rv:Addr:=0
 nF:Addr->Value->Option Bool:=λ_ _=>none
def vk(a:Ad):hX:=(iu (iA 2 (d2 ir (dV 0) (dV 1)))
    (iu (iA 0 (dV 1))
    (iA 1 (dV 2))))
def ti(a:Ad):hX:=(iu (l8 (b1 tB (d2 pU (dV 1) (gJ 0))) (vk a) pB)
    (jy (dV 0)))
def tm(a:Ad):hX:=(jy<|vF (dA (lB a.nF)<|gI (dV 0)<|gI (dC<|.ty "int") gL)<|vG<|dA (lB a.nF)<|gI (dV 0)<|gI (dC<|.ty "bool") gL)
def tj(a:Ad)(c b:gP):hX:=(iu (mF (ly (oo (b1 tT (dA c (gI (dV 0) gL)))) (ly (oo (b1 tT (dA c (gI (dV 1) gL)))) (b1 tB (d2 j5 (dV 1) (gJ 0))))) (λ_=>.ex a.NoFraction [] []) mG)
    (iu (iA 2 (dA b (gI (dA pw (gI (dV 0) gL)) (gI (dA pw (gI (dV 1) gL)) gL))))
    (iu (mF (b1 tB (d2 nL (dV 1) (gJ 0))) (iA 2 (d1 tR (dV 2))) mG)
    (jy (dA iZ (gI (d2 ib (dV 0) (dV 2)) (gI (d2 ib (dV 1) (dV 2)) gL)))))))
def tq(a:Ad)(b:gP):hX:=(jy<|dA b<|gI (d2 ik (d2 hD (gO 0 0)<|gO 1 1)<|d2 hD (gO 1 0)<|gO 0 1)<|gI (d2 hD (gO 0 1)<|gO 1 1) gL)
def tr(a:Ad):hX:=(jy<|d2 nL (d2 hD (gO 0 0)<|gO 1 1)<|d2 hD (gO 1 0)<|gO 0 1)
def As(a:Ad):hX:=(jy<|d2 ib (dV 0)<|gJ 7)
def tw(a:Ad):hX:=(iu (mF (b1 tB (d2 nL (dV 1) (dA pO (gI (dV 0) gL)))) (jy (d2 hK (dV 0) (dV 1))) mG)
    (jy (gJ 0)))
def vm(a:Ad):hX:=(ux 2 3<|gI (dV 3)<|gI (d2 ir (dV 2)<|dV 3) gL)
def tx(a:Ad):hX:=(iu (ux 2 3 (gI (dA pw (gI (dV 0) gL)) (gI (dV 1) gL)))
    (iu (l8 (b1 tB (d2 lR (dV 3) (gJ 0))) (vm a) pB)
    (jy (dA iZ (gI (d2 ib (dV 0) (dV 2)) (gI (d2 ib (dV 1) (dV 2)) gL))))))
def sA(a:Ad):hX:=(iA 5<|d2 ik (dV 5)<|d2 hK (qL "qxz")<|d2 ir (d2 ib (dV 0)<|d2 ik (gJ 3)<|dV 6)<|gJ 3)
def qY(a:Ad):hX:=(iu (iA 2 (qL "abcdefghijklmnopqrstuvwxyz"))
    (iu (iA 3 (d2 hK (ig (λb=>((gI (gJ 1) (gI (gJ 3) (gI (gJ 5) (gI (gJ 7) (gI (gJ 9) (gI (gJ 11) (gI (gJ 15) (gI (gJ 17) (gI (gJ 19) (gI (gJ 21) (gI (gJ 23) (gI (gJ 25) gL)))))))))))) b).bind km)) (d2 ir (d2 ib (dV 0) (gJ 26)) (gJ 12))))
    (iu (iA 4 (d2 ik (d2 hK (dV 2) (d2 ir (d2 ik (dV 0) (d2 hD (dV 1) (dV 3))) (gJ 26))) (d2 hK (qL "qxz") (d2 ir (d2 ib (dV 1) (gJ 26)) (gJ 3)))))
    (iu (iA 5 (qL ""))
    (iu (nT (λb=>((gI (d2 ir (d2 ib (dV 0) (gJ 312)) (gJ 7)) gL) b).bind nS) (gV 6) (sA a))
    (iu (mF (b1 tB (d2 j5 (d2 ir (d2 ib (dV 0) (gJ 2184)) (gJ 2)) (gJ 1))) (jy (d2 ik (dV 5) (dV 4))) mG)
    (jy (d2 ik (dV 4) (dV 5)))))))))
def tA(a:Ad):hX:=(iu (iA 2 (d2 ir (dV 0) (gJ 2147483647)))
    (jy (d2 ir (d2 hD (d2 hD (d2 ik (d2 ik (dV 2) (d2 hD (gJ 31) (dV 1))) (gJ 1)) (gJ 48271)) (d2 ik (d2 ik (dV 2) (d2 hD (gJ 3) (dV 1))) (gJ 7))) (gJ 2147483629))))
end WP
namespace P2
open PySem PySem.W PyProof.Rows
def jb{b:Type}(n:Nat)(c:Nat->Nat->Bool):KasT b->(b->Prop)->Prop
 |.ret a,Q=>Q a
 |.ask i j k,Q=>i<n/\j<n/\jb n c (k<|c i j) Q
theorem jb.bind{d b:Type}{n:Nat}{c:Nat->Nat->Bool}{f:d->KasT b}{Q:b->Prop}:∀{t:KasT d},jb n c t (λa=>jb n c (f a) Q)->jb n c (t.bind f) Q
 |.ret _,h=>h
 |.ask i j k,h=>⟨h.1,h.2.1,jb.bind (t:=k<|c i j) h.2.2⟩
theorem jb.wp{d:Type}{n}{c:Nat->Nat->Bool}{b:Nat->Nat->(Bool->Shared->Prop)->Shared->Prop}{Q:d->Prop}{G:d->Shared->Prop}
 (e:∀i j,i<n->j<n->∀C:Bool->Shared->Prop,C (c i j) s->b i j C s)(f:∀a,Q a->G a s):∀{t},jb n c t Q->t.kasWp b G s
  |.ret a,h=>f a h
  |.ask i j k,h=>e i j h.1 h.2.1 _ (jb.wp e f (t:=k<|c i j) h.2.2)
section
variable{n:Nat}{c:Nat->Nat->Bool}{o:Nat->Int}
def KK(o:Nat->Int)(p:Array Nat)(i:Nat):Int:=o ((p[i]?).getD 0)
def iQ(n:Nat)(p:Array Nat):Prop:=p.Perm (List.toArray<|List.range n)
def iQ.size(h:iQ n p):p.size=n:=by rw[h.size_eq];simp
def iQ.lt(h:iQ n p)(b:0<n)(k):p.getD k 0<n:=by
 rw[eC];cases e:p[k]? with
 |none=>simpa using b
 |some x=>
  have a:x∈p.toList:=by have:=d0 e;exact ee.mpr this
  have:=(dh.mp h).mem_iff.mp a;simpa using this
def ts(o:Nat->Int)(p:Array Nat)(i):o (p.getD i 0)=KK o p i:=by unfold KK;rw[eC]
def KK_congr(h:p[i]?=q[j]?):KK o p i=KK o q j:=by unfold KK;rw[h]
def r9{p:Array Nat}(a:j<=p.size)(k):KK o (kas_rev p i j) k=if i<=k/\k<j then KK o p (i+j - 1 - k)else KK o p k:=by
 have:=getElem?_mirror_all (i:=i) a k;unfold kas_rev;split;·rename_i h;rw[ai h]at this;exact KK_congr this
 ·rename_i h;rw[ak h]at this;exact KK_congr this
def iQ.rev(h:iQ n p)(i j):iQ n (kas_rev p i j):=(mirror_perm ..).trans h
def iQ.EG(h:iQ n p)(i j):iQ n (bubble p i j):=(bubble_perm ..).trans h
variable(s:∀i j,i<n->j<n->c i j=decide (o i<o j))
include s
theorem qG{b:Type}{p:Array Nat}(h:iQ n p)(a:0<n)(i j:Nat){k:Bool->KasT b}{Q:b->Prop}(q:jb n c (k<|decide<|KK o p i<KK o p j) Q):jb n c (.ask (p.getD i 0) (p.getD j 0) k) Q:=by refine⟨h.lt a i,h.lt a j,?_⟩;rw[s _ _ (h.lt a i)<|h.lt a j,ts o p i,ts o p j];exact q
def kS(o:Nat->Int)(p:Array Nat)(m:Nat):Prop:=∀i j,i<=j->j<m->KK o p i<=KK o p j
def kT(o:Nat->Int)(p:Array Nat)(m:Nat):Prop:=∀i j,i<=j->j<m->KK o p j<=KK o p i
omit s in
theorem kS.snoc(h:kS o p m)(d:1<=m)(e:KK o p (m - 1)<=KK o p m):kS o p (m+1):=λi j a b=>by
 by_cases z:j=m
 ·subst z;by_cases y:i=j;·subst y;omega
  ·have:=h i (j - 1) (by omega) (by omega);omega
 ·exact h i j a (by omega)
omit s in
theorem kT.snoc(h:kT o p m)(d:1<=m)(e:KK o p m<=KK o p (m - 1)):kT o p (m+1):=λi j a b=>by
 by_cases z:j=m
 ·subst z;by_cases y:i=j;·subst y;omega
  ·have:=h i (j - 1) (by omega) (by omega);omega
 ·exact h i j a (by omega)
theorem wR{p:Array Nat}(h:iQ n p)(d:0<n){Q:Nat->Prop}:∀(f m:Nat),1<=m->kS o p m->(∀b,m<=b->b<=m+f->kS o p b->(b<m+f->KK o p b<KK o p (b - 1))->Q b)->jb n c (kas_asc p f m) Q
 |0,m,_,a,q=>q m (ah _) (ah _) a λw=>absurd w (by omega)
 |f+1,m,e,a,q=>by
  refine qG s h d m (m - 1) ?_;by_cases z:KK o p m<KK o p (m - 1)
  ·rw[aV z,ai rfl];exact q m (ah _) (by omega) a λ_=>z
  ·rw[aW z,ak<|by decide];exact wR h d f (m+1) (by omega) (a.snoc e<|by omega) λb r l k g=>q b (by omega) (by omega) k λw=>g (by omega)
omit s in
theorem kT.rev(h:kT o p m)(d:b<=p.size)(f:b<=m)(e:∀k,a<=k->k<b->KK o p k=KK o p (b - 1))(k):KK o (kas_rev p a b) k=KK o p k:=by
 rw[r9 d];split
 ·rename_i z;rw[e _ (by omega)<|by omega,e k z.1 z.2]
 ·rfl
theorem uc(u:0<n){Q:Array Nat×Nat×Nat->Prop}:∀(f:Nat) (p:Array Nat) (m q:Nat),iQ n p->1<=m->m+f<=n->q<m->kT o p m->(∀k,m - (q+1)<=k->k<m->KK o p k=KK o p (m - 1))->
 (∀g d l,iQ n g->m<=d->d<=m+f->l<d->kT o g d->(∀k,d - (l+1)<=k->k<d->KK o g k=KK o g (d - 1))->Q (g,d,l))->jb n c (kas_desc f p m q) Q
 |0,p,m,q,h,_,_,D,a,e,r=>r p m q h (ah _) (ah _) D a e
 |f+1,p,m,q,h,G,I,D,a,e,r=>by
  have M:=h.size;refine qG s h u m (m - 1) ?_;by_cases z:KK o p m<KK o p (m - 1)
  ·rw[aV z,ai rfl];by_cases y:q>0
   ·rw[ai y];have C:=kT.rev (a:=m - (q+1)) (b:=m) a (by omega) (ah _) e;have L:kT o (kas_rev p (m - (q+1)) m) (m+1):=kT.snoc (λi j F J=>by rw[C,C];exact a i j F J) G (by rw[C,C];omega);exact uc u f _ (m+1) 0 (h.rev _ _) (by omega) (by omega) (by omega) L (λk t B=>by rw[show k=m+1 - 1 by omega]) λg d l t B H A x v=>r g d l t (by omega) (by omega) A x v
   ·rw[ak y];exact uc u f p (m+1) 0 h (by omega) (by omega) (by omega) (a.snoc G<|by omega) (λk t B=>by rw[show k=m+1 - 1 by omega]) λg d l t B H A x v=>r g d l t (by omega) (by omega) A x v
  ·rw[aW z,ak<|by decide];refine qG s h u (m - 1) m ?_;by_cases y:KK o p (m - 1)<KK o p m
   ·rw[aV y,ai rfl];exact r p m q h (ah _) (by omega) D a e
   ·rw[aW y,ak<|by decide];have K:KK o p m=KK o p (m - 1):=by omega
    refine uc u f p (m+1) (q+1) h (by omega) (by omega) (by omega) (a.snoc G<|by omega) (λk t B=>?_) λg d l t B H A x v=>r g d l t (by omega) (by omega) A x v;rw[eK];by_cases w:k=m;·rw[w]
    ·rw[e k (by omega)<|by omega,K]
theorem Bp{p:Array Nat}(h:iQ n p)(g:0<n){m:Nat}(f:1<=m)(r:m<=n)(a:kT o p m){Q:Nat×Array Nat->Prop}(q:∀b d,iQ n d->1<=b->b<=n->kS o d b->Q (b,d)):jb n c (kas_tail3 m n p) Q:=by have l:=h.size;refine jb.bind (wR s (h.rev 0 m) g _ _ f (λi j e t=>?_) λb w v k u=>q b _ (h.rev 0 m) (by omega) (by omega) k);rw[r9<|by omega,r9<|by omega,ai<|by omega,ai<|by omega];exact a _ _ (by omega) (by omega)
theorem Bo{p:Array Nat}(h:iQ n p)(r:0<n){m:Nat}(x:1<=m)(B:m<n)(a:kT o p m)(e:KK o p m<KK o p (m - 1)){Q:Nat×Array Nat->Prop}(q:∀d f,iQ n f->1<=d->d<=n->kS o f d->Q (d,f)):jb n c (kas_descPart m n p) Q:=by
 refine jb.bind (uc s r _ _ _ _ h (by omega) (by omega) (by omega) (a.snoc x<|by omega) (λk g z=>by rw[show k=m+1 - 1 by omega]) λf d v g z D C t y=>?_);dsimp only;have A:=g.size;split
 ·have u:=kT.rev (a:=d - (v+1)) (b:=d) t (by omega) (ah _) y;exact Bp s (g.rev _ _) r (by omega) (by omega) (λi j l w=>by rw[u,u];exact t i j l w) q
 ·exact Bp s g r (by omega) (by omega) t q
theorem JC{p:Array Nat}(h:iQ n p)(f:1<=n){Q:Nat×Array Nat->Prop}(q:∀b t,iQ n t->1<=b->b<=n->kS o t b->Q (b,t)):jb n c (kas_count n p) Q:=by
 have A:=h.size;refine jb.bind (wR s h f _ _ (ah 1) (λi j a u=>by rw[show i=j by omega];omega) λm l B g x=>?_);by_cases z:m=n
 ·subst z;simp only[fq,cB];exact q m p h l (ah _) g
 ·have v:¬(m==n)=true:=by simpa using z
  rw[ak v];have e:=x (by omega);split
  ·refine qG s h f 0 (m - 1) ?_;by_cases y:KK o p 0<KK o p (m - 1)
   ·rw[aV y,ai rfl];exact q m p h l (by omega) g
   ·rw[aW y,ak<|by decide];have r:∀k,k<m->KK o p k=KK o p (m - 1):=λk w=>by
     have:=g 0 k (by omega) w;have:=g k (m - 1) (by omega) (by omega);omega
    have d:∀k,KK o (kas_rev p 0 m) k=KK o p k:=λk=>by
     rw[r9<|by omega];split;·rw[r _<|by omega,r k<|by omega]
     ·rfl
    exact Bo s (h.rev 0 m) f l (by omega) (λi j a u=>by rw[d,d,r i<|by omega,r j u];omega) (by rw[d,d];exact e) q
  ·exact Bo s h f l (by omega) (λi j a u=>by rw[show i=j by omega];omega) e q
theorem wV{p:Array Nat}(h:iQ n p)(g:0<n){k:Nat}(a:kS o p k){Q:Nat->Prop}(q:∀l,l<=k->(∀i,i<l->KK o p i<=KK o p k)->(∀i,l<=i->i<k->KK o p k<KK o p i)->Q l):
 ∀(f l r:Nat),l<=r->r<=k->r - l<=f->(∀i,i<l->KK o p i<=KK o p k)->(∀i,r<=i->i<k->KK o p k<KK o p i)->jb n c (kas_place p k f l r) Q
 |0,l,r,v,u,t,e,d=>q l (by omega) e λi m b=>d i (by omega) b
 |f+1,l,r,v,u,t,e,d=>by
  show jb n c (if l≥r then .ret l else _) Q;split;·exact q l (by omega) e λi m b=>d i (by omega) b
  ·refine qG s h g k ((l+r)/2) ?_;by_cases z:KK o p k<KK o p ((l+r)/2)
   ·rw[aV z,ai rfl];exact wV h g a q f l ((l+r)/2) (by omega) (by omega) (by omega) e λi m b=>by have:=a ((l+r)/2) i (by omega) b;omega
   ·rw[aW z,ak<|by decide];exact wV h g a q f ((l+r)/2+1) r (by omega) (by omega) (by omega) (λi w=>by have:=a i ((l+r)/2) (by omega) (by omega);omega) d
theorem Bn(u:0<n){Q:Array Nat->Prop}(q:∀p,iQ n p->kS o p n->Q p):∀(f:Nat) (p:Array Nat) (k:Nat),iQ n p->k+f=n->kS o p k->jb n c (kas_bin f p k) Q
 |0,p,k,h,e,a=>q p h (by rw[<-e];exact a)
 |f+1,p,k,h,e,a=>by
  have B:=h.size;refine jb.bind (wV s h u a (λl D A z=>?_) k 0 k (by omega) (ah _) (by omega) (λi w=>absurd w<|by omega) λi y d=>absurd y<|by omega);refine Bn u q f _ (k+1) (h.EG _ _) (by omega) λi j g C=>?_;have v:∀x,KK o (bubble p k<|k - l) x=if x=l then KK o p k else if l<x/\x<=k then KK o p (x - 1)else KK o p x:=λx=>by
   have:=getElem?_bubble (xs:=p) (src:=k) (by omega) (k - l) (by omega) x;rw[show k - (k - l)=l by omega]at this;split;·rename_i w;rw[ai w]at this;exact KK_congr this
   ·rename_i w;rw[ak w]at this;split;·rename_i d;rw[ai d]at this;exact KK_congr this
    ·rename_i d;rw[ak d]at this;exact KK_congr this
  rw[v,v];by_cases t:i=l
  ·rw[ai t];by_cases b:j=l;·rw[ai b];omega
   ·rw[ak b,ai<|by omega];have:=z (j - 1) (by omega) (by omega);omega
  ·rw[ak t];by_cases r:l<i/\i<=k
   ·rw[ai r,ak<|by omega,ai<|by omega];exact a _ _ (by omega) (by omega)
   ·rw[ak r];by_cases b:j=l;·rw[ai b];exact A i (by omega)
    ·rw[ak b];by_cases m:l<j/\j<=k;·rw[ai m];exact a _ _ (by omega) (by omega)
     ·rw[ak m];exact a _ _ g (by omega)
theorem JM(b:1<=n){Q:Array Nat->Prop}(q:∀p,iQ n p->kS o p n->Q p):jb n c (kas_sort n) Q:=by
 refine jb.bind (JC s (Array.Perm.refl _) b λa f e h g d=>?_);dsimp only;split
 ·rename_i z;rw[show max a 1=a by omega];exact Bn s b q _ _ _ e (by omega) d
 ·exact q f e (by rw[show n=a by omega];exact d)
end
def rankOf(n:Nat)(c:Nat->Nat->Bool)(i:Nat):Int:=(((List.range n).filter λj=>c j i).length:Nat)
def Ae{c:Type}{l:List c}{p q:c->Bool}(h:∀x∈l,p x=true->q x=true):(l.filter p).length<=(l.filter q).length:=by
 induction l with
 |nil=>simp
 |cons a l d=>
  have b:=d λx e=>h x (.tail _ e);have g:=h a (.head _);simp only[List.filter_cons];cases f:p a with
  |true=>rw[g f];simpa using b
  |false=>
   cases i:q a with
   |true=>simp;omega
   |false=>simpa using b
def Gf{d:Type}{l:List d}{p q:d->Bool}(h:∀x∈l,p x=true->q x=true){y:d}(c:y∈l)(k:p y=false)(j:q y=true):(l.filter p).length<(l.filter q).length:=by
 induction l with
 |nil=>simp at c
 |cons a l f=>
  have i:=h a (.head _);have m:=Ae λx e=>h x (.tail _ e);simp only[List.filter_cons];rcases aF.mp c with rfl|c
  ·rw[k,j];simp only[bc,bC,cB,ao];omega
  ·have b:=f (λx e=>h x<|.tail _ e) c;cases g:p a with
   |true=>rw[i g];simpa using b
   |false=>
    cases n:q a with
    |true=>simp;omega
    |false=>simpa using b
def N6{n:Nat}{c:Nat->Nat->Bool}(a:∀i,i<n->c i i=false)(f:∀i j k,i<n->j<n->k<n->c i j=true->c j k=true->c i k=true)
    (g:∀i j k,i<n->j<n->k<n->c i j=true->c k j=true\/c i k=true)(i j:Nat)(hi:i<n)(e:j<n):c i j=decide (rankOf n c i<rankOf n c j):=by
 cases h:c i j with
 |true=>
  symm
  rw[bF];have:=Gf (l:=List.range n) (p:=λk=>c k i) (q:=λk=>c k j) (λk b d=>f k i j (by simpa using b) hi e d h) (y:=i) (by simpa using hi) (a i hi) h;unfold rankOf;omega
 |false=>
  symm
  rw[cM];have:=Ae (l:=List.range n) (p:=λk=>c k j) (q:=λk=>c k i) (λk b d=>by
   rcases g k j i (by simpa using b) e hi d with h2|h2;· rw[h]at h2;cases h2
   · exact h2)
  unfold rankOf;omega
end P2
namespace P2
open PySem L2 PySem.Spec PySem.Calls
open PyProof.Rows hiding St
def zf:bootBuiltins "sorted"=some (.builtin "sorted"):=by decide+kernel
theorem AJ:∀{b:List Int} {a},Vals (b.map V.int) a->IntsAre a b
 |[],_,.nil=>.nil
 |n::b,_,.cons h r=>by obtain⟨t,rfl⟩:=h;exact .cons n t (AJ r)
def q8:List D->Option (List Int)
 |[]=>some []
 |.int n::r=>(q8 r).map (n:: ·)
 |_::_=>none
theorem AH:∀{b} {a},q8 b=some a->b=a.map D.int
 |[],_,h=>by cases h;rfl
 |.int n::r,a,h=>by obtain⟨m,d,c⟩:=aj.mp h;subst c;rw[aE,<-AH d]
 |.non::_,_,h=>nomatch h
 |.bl _::_,_,h=>nomatch h
 |.str _::_,_,h=>nomatch h
 |.ty _::_,_,h=>nomatch h
 |.ref _::_,_,h=>nomatch h
 |.tup _::_,_,h=>nomatch h
 |.lst _::_,_,h=>nomatch h
 |.exc _ _ _::_,_,h=>nomatch h
theorem Ci{K:W.Frag}{c:Addr->Prop}{H:Hp}:∀{a:List Int} {b:List V},gQ K c H b (a.map D.int)->b=a.map V.int
 |[],_,.nil=>rfl
 |n::a,_,.cons r q=>by cases r;rw[Ci q];rfl
end P2
namespace P2
open PySem L2 PySem.Spec PySem.Calls PySem.W
open PyProof.Rows hiding St K
section
variable{a:Program}{w:World}{A:Around}{E:ia}{s:Shared}
abbrev Ou(κ:SortKind)(us:List Value):SortSt:=SortSt.mk' κ (us.toArray.zip us.toArray) #[] 7 none
def sj(a:Program)(w:World)(G:Array Value->Prop)(b:List Value)(t:Shared):Prop:=
 ∀B:Around,wpAny (model a w) B (keyKind' b.toArray) (λd e=>e=t/\wpAny (model a w) B ((sortRuns').run (Ou d b)) (λr c=>c=t/\failedOf r.2=none/\((arrOf r.2).map (·.2)).size=b.length/\G ((arrOf r.2).map (·.2))) (λ_ _=>False) t) (λ_ _=>False) t
def CG{d}{c:List Value}{G:Array Value->Prop}{Q:PySem.Fin->Shared->Prop}(p:s.heap.get? d=some (seqObj "list" c.toArray e))(D:c.length<=sizeLine)(F:c.length<2->G c.toArray)
 (L:2<=c.length->∀t:Shared,(∀b o,b≠d->s.heap.get? b=some o->t.heap.get? b=some o)->sj a w G c t)
 (k:∀out:Array Value,out.size=c.length->G out->Q (.done<|.ret .none) {s with heap:=sortedHeap s.heap d c out}):wpAny (model a w) A (Builtin.«list.sort» ⟨[.ref d],[]⟩) Q E s:=by
  have j:d<s.heap.objs.size:=Heap.lt_size p;rw[list_sort_plain];apply aa;apply listItems_at p rfl;apply aa;apply listUpdate_at p rfl (hsz:=by simpa using D) (hsz2:=bD _);have g:=dz p (λ_=>(#[]:Array Value));apply aa;apply seqEpoch_at g rfl;apply aa;refine wpAny_newTuple ?_ (by simpa using D);apply aa;refine wpAny_newList ?_ (bD _);refine bU ?_;generalize C:((s.heap.update d<|Obj.mapSeq λ_=>(#[]:Array Value)).push (seqObj "tuple" c.toArray 0)).push (seqObj "list" #[] 0)=h6;have M:∀out:Array Value,h6.update d (Obj.mapSeq λ_=>out)=sortedHeap s.heap d c out:=λout=>by rw[<-C];rfl
  have y:d≠(s.heap.update d<|Obj.mapSeq λ_=>(#[]:Array Value)).objs.size:=by rw[Heap.size_update];exact aO j
  have v:∀o:Obj,d≠((s.heap.update d<|Obj.mapSeq λ_=>(#[]:Array Value)).push o).objs.size:=λo=>by rw[size_push',Heap.size_update];exact aO (bL j)
  have f:∃m,h6.get? d=some (seqObj "list" #[] m)/\((s.heap.update d<|Obj.mapSeq λ_=>(#[]:Array Value)).get? d=some (seqObj "list" #[] m)):=by refine⟨_,?_,g⟩;rw[<-C,Heap.get?_push_ne _ _ _<|v _,Heap.get?_push_ne _ _ _ y];exact g
  obtain⟨m,f,l⟩:=f;have H:=g.symm.trans l;have u:∀b o,b≠d->s.heap.get? b=some o->h6.get? b=some o:=λb o K q=>by rw[<-C];refine ae _ (ae _ ?_);rw[cI _ _ _ _ K];exact q
  show wpAny (model a w) A _ Q E {s with heap:=h6};dsimp only;have h:∀out:Array Value,out.size=c.length->G out->wpAny (model a w) A (Builtin.List.listUpdate (.ref d) λ_=>out) (λ_ t=>t={s with heap:=sortedHeap s.heap d c out}) E {s with heap:=h6}:=λout J n=>by refine listUpdate_at (s:={s with heap:=h6}) f rfl ?_ (hsz:=bD _) (hsz2:=by rw[J];omega);show({s with heap:=h6.update d<|Obj.mapSeq λ_=>out}:Shared)=_;rw[M out]
  by_cases i:c.toArray.size<2
  ·rw[ai i,ai i];apply aa;apply af;rw[StateT.run_pure];apply aa;apply af;dsimp only;apply aa;apply seqEpoch_at (s:={s with heap:=h6}) f rfl;have N:(arrOf<|SortSt.mk' general' (c.toArray.zip c.toArray) #[] 7 none).map (·.2)=c.toArray:=by
    show(c.toArray.zip c.toArray).map (·.2)=_;apply Array.toList_inj.mp;rw[Array.toList_map];simp only[Array.toList_zip];rw[<-List.unzip_snd,List.unzip_zip rfl]
   rw[N];refine aa (aS (h c.toArray (by simp)<|F<|by simpa using i) (λ_ t z=>?_) λ_ _ x=>x);subst z;have:m=(if(#[]:Array Value).size==c.toArray.size then e else e+1):=by injection H with w1;injection w1 with _ _ w2;injection w2 with _ w3;exact w3.symm
   rw[<-this];simp only[bne_self_eq_false,bc,bC];exact af (k _ (by simp)<|F<|by simpa using i)
  ·rw[ak i,ak i];refine aa (aS (L (by simpa using i) {s with heap:=h6} u A) (λO t B=>?_) λ_ _ x=>x.elim);obtain⟨rfl,B⟩:=B;refine aa (aS B (λr t I=>?_) λ_ _ x=>x.elim);obtain⟨rfl,hf,hsz,n⟩:=I;obtain⟨⟨⟩,P⟩:=r;dsimp only at hf hsz n⊢;apply aa;apply seqEpoch_at (s:={s with heap:=h6}) f rfl;refine aa (aS (h _ hsz n) (λ_ t z=>?_) λ_ _ x=>x);subst z;rw[hf];have:m=(if(#[]:Array Value).size==c.toArray.size then e else e+1):=by injection H with w1;injection w1 with _ _ w2;injection w2 with _ w3;exact w3.symm
   rw[<-this];simp only[bne_self_eq_false,bc,bC];exact af (k _ hsz n)
end
def kG:List D->List D->Bool
 |.int i::xs,.int j::a=>if i=j then kG xs a else decide (i<j)
 |.str i::xs,.str j::a=>if i=j then kG xs a else decide (i.cps.toList<j.cps.toList)
 |[],_::_=>true
 |_,_=>false
def ltQ:D->D->Bool
 |.int i,.int j=>decide (i<j)
 |.str i,.str j=>decide (i.cps.toList<j.cps.toList)
 |.tup a,.tup b=>kG a b
 |_,_=>false
def k8:List D->Option (List Nat)
 |[]=>some []
 |.int _::r=>(k8 r).map (0:: ·)
 |.str _::r=>(k8 r).map (1:: ·)
 |_=>none
def iD:D->Option (List Nat)
 |.int _=>some [0]
 |.str _=>some [1]
 |.tup (a::r)=>(k8<|a::r).map (2:: ·)
 |_=>none
def lT:List D->Bool
 |[]=>true
 |d::r=>(iD d).isSome&&r.all λe=>iD e==iD d
def v9(h:lT ds=true):∃s,∀d∈ds,iD d=some s:=by
 cases ds with
 |nil=>exact⟨[],λd c=>by simp at c⟩
 |cons d r=>
  unfold lT at h;simp only[aN,dj,dg]at h;obtain⟨s,b⟩:=cf.mp h.1;refine⟨s,λe a=>?_⟩;rcases aF.mp a with rfl|a;·exact b
  ·rw[h.2 e a,b]
def Pc{x y:Str}(h:x.cps.toList=y.cps.toList):x=y:=by
 cases x;cases y;simp only at h
 congr 1
 exact Array.toList_inj.mp h
def CD{x y:Str}(b:¬x.cps.toList<y.cps.toList)(a:¬y.cps.toList<x.cps.toList):x=y:=
 Pc (List.le_antisymm (List.not_lt.mp a)<|List.not_lt.mp b)
def oO{i:Int}(h:k8 (.int i::r)=some s):∃t,s=0::t/\k8 r=some t:=by obtain⟨t,b,a⟩:=aj.mp (show(k8 r).map (0:: ·)=some s from h);exact⟨t,a.symm,b⟩
def oP(h:k8 (.str i::r)=some s):∃t,s=1::t/\k8 r=some t:=by obtain⟨t,b,a⟩:=aj.mp (show(k8 r).map (1:: ·)=some s from h);exact⟨t,a.symm,b⟩
inductive kx:List D->List D->Prop
 |nil:kx [] []
 |int (i j:Int) {xs ys:List D}:kx xs ys->kx (.int i::xs) (.int j::ys)
 |str (i j:Str) {xs ys:List D}:kx xs ys->kx (.str i::xs) (.str j::ys)
theorem yj:∀{a b} {s},k8 a=some s->k8 b=some s->kx a b
 |[],b,s,c,f=>by
  cases c;cases b with
  |nil=>exact .nil
  |cons d r=>
   cases d with
   |int i=>obtain⟨t,e,_⟩:=oO f;cases e
   |str i=>obtain⟨t,e,_⟩:=oP f;cases e
   |_=>cases f
 |.int i::xs,b,s,c,f=>by
  obtain⟨t,rfl,k⟩:=oO c;cases b with
  |nil=>cases f
  |cons d r=>
   cases d with
   |int j=>obtain⟨g,e,h⟩:=oO f;cases e;exact .int i j (yj k h)
   |str j=>obtain⟨g,e,_⟩:=oP f;cases e
   |_=>cases f
 |.str i::xs,b,s,c,f=>by
  obtain⟨t,rfl,k⟩:=oP c;cases b with
  |nil=>cases f
  |cons d r=>
   cases d with
   |str j=>obtain⟨g,e,h⟩:=oP f;cases e;exact .str i j (yj k h)
   |int j=>obtain⟨g,e,_⟩:=oO f;cases e
   |_=>cases f
 |.non::_,_,_,c,_=>by cases c
 |.bl _::_,_,_,c,_=>by cases c
 |.ty _::_,_,_,c,_=>by cases c
 |.ref _::_,_,_,c,_=>by cases c
 |.tup _::_,_,_,c,_=>by cases c
 |.lst _::_,_,_,c,_=>by cases c
 |.exc _ _ _::_,_,_,c,_=>by cases c
def rf(i j:Int)(xs ys):kG (.int i::xs) (.int j::ys)=if i=j then kG xs ys else decide (i<j):=rfl
def rh(i j xs ys):kG (.str i::xs) (.str j::ys)=if i=j then kG xs ys else decide (i.cps.toList<j.cps.toList):=rfl
def A8(h:kx a b):kG a a=false:=by
 induction h with
 |nil=>rfl
 |int i j h c=>rw[rf,ai rfl];exact c
 |str i j h c=>rw[rh,ai rfl];exact c
def IA(h:kx a b)(d:kG a b=false)(c:kG b a=false):a=b:=by
 induction h with
 |nil=>rfl
 |int i j h f=>
  rw[rf]at d c;by_cases e:i=j
  ·subst e;rw[ai rfl]at d c;rw[f d c]
  ·rw[ak e]at d;rw[ak<|cA e]at c;simp only[cM]at d c;omega
 |str i j h f=>
  rw[rh]at d c;by_cases e:i=j
  ·subst e;rw[ai rfl]at d c;rw[f d c]
  ·rw[ak e]at d;rw[ak<|cA e]at c;simp only[cM]at d c;exact absurd (CD d c) e
def Iz(p:kx a b)(q:kx b c)(l:kG a b=true)(d:kG b c=true):kG a c=true:=by
 have o:∀{α m:Type} [DecidableEq α] [LT m] [DecidableRel (α:=m) (· < ·)] (g:α->m),(∀{i j k:m},i<j->j<k->i<k)->(∀i:m,¬i<i)->∀{i j k:α} {P Q R:Bool},(P=true->Q=true->R=true)->(if i=j then P else decide (g i<g j))=true->(if j=k then Q else decide (g j<g k))=true->(if i=k then R else decide (g i<g k))=true:=by
  intro α m _ _ _ g r s i j k P Q R h l d;by_cases e:i=j
  ·subst e;rw[ai rfl]at l;by_cases f:i=k
   ·subst f;rw[ai rfl]at d⊢;exact h l d
   ·rw[ak f]at d⊢;exact d
  ·rw[ak e]at l;by_cases f:j=k
   ·subst f;rw[ak e];exact l
   ·rw[ak f]at d;have t:=r (bh l) (bh d);rw[ak λw=>s _<|w▸t];exact aV t
 induction p generalizing c with
 |nil=>cases l
 |int i j p n=>
  cases q with
  |int _ k q=>rw[rf]at l d⊢;exact o id Int.lt_trans Int.lt_irrefl (n q) l d
 |str i j p n=>
  cases q with
  |str _ k q=>rw[rh]at l d⊢;exact o (λx:Str=>x.cps.toList) List.lt_trans (λ_=>List.lt_irrefl _) (n q) l d
inductive sk:D->D->Prop
 |int (i j:Int):sk (.int i) (.int j)
 |str (i j:Str):sk (.str i) (.str j)
 |tup {a b:List D} {d e:D}:kx (d::a) (e::b)->sk (.tup<|d::a) (.tup<|e::b)
def l4(h:iD x=some s):(∃i,x=.int i/\s=[0])\/(∃i,x=.str i/\s=[1])\/∃d r t,x=.tup (d::r)/\s=2::t/\k8 (d::r)=some t:=by
 unfold iD at h;split at h;·cases h;exact .inl ⟨_,rfl,rfl⟩
 ·cases h;exact .inr (.inl ⟨_,rfl,rfl⟩)
 ·rename_i a r;obtain⟨t,c,b⟩:=aj.mp h;exact .inr (.inr ⟨a,r,t,rfl,b.symm,c⟩)
 ·cases h
def nc(h:iD x=some s)(a:iD y=some s):sk x y:=by
 rcases l4 h with⟨i,rfl,rfl⟩|⟨i,rfl,rfl⟩|⟨d,r,t,rfl,rfl,k⟩
 ·rcases l4 a with⟨j,rfl,_⟩|⟨j,rfl,e⟩|⟨g,f,c,rfl,e,b⟩;·exact .int i j
  ·cases e
  ·cases e
 ·rcases l4 a with⟨j,rfl,e⟩|⟨j,rfl,e⟩|⟨g,f,c,rfl,e,b⟩;·cases e
  ·exact .str i j
  ·cases e
 ·rcases l4 a with⟨j,rfl,e⟩|⟨j,rfl,e⟩|⟨g,f,c,rfl,e,b⟩;·cases e
  ·cases e
  ·cases e;exact .tup (yj k b)
def Bg(h:iD x=some s):ltQ x x=false:=by
 cases nc h h with
 |int i j=>exact aW (by omega)
 |str i j=>exact aW (List.lt_irrefl _)
 |tup q=>exact A8 q
def wH(f:iD x=some s)(e:iD y=some s)(d:ltQ x y=false)(c:ltQ y x=false):x=y:=by
 cases nc f e with
 |int i j=>have a:=dE d;have b:=dE c;rw[show i=j by omega]
 |str i j=>rw[CD (dE d)<|dE c]
 |tup q=>rw[IA q d c]
def tN(h:iD x=some s)(c:iD y=some s)(d:iD z=some s)(f:ltQ x y=true)(e:ltQ y z=true):ltQ x z=true:=by
 cases nc h c with
 |int i j=>
  cases nc c d with
  |int _ k=>have a:=bh f;have b:=bh e;exact aV (by omega)
 |str i j=>
  cases nc c d with
  |str _ k=>exact aV (List.lt_trans (bh f)<|bh e)
 |tup q=>
  cases nc c d with
  |tup g=>exact Iz q g f e
def pM(x:D):List D->List D
 |[]=>[x]
 |y::r=>if ltQ y x=true then y::pM x r else x::y::r
def jq(a:List D):List D:=a.foldr pM []
def ph(c:List D):Prop:=c.Pairwise λa b=>ltQ b a=false
theorem wb(x):∀r:List D,(pM x r).Perm (x::r)
 |[]=>.refl _
 |y::r=>by
  unfold pM;split;·exact((wb x r).cons y).trans (.swap x y r)
  ·exact .refl _
theorem nW:∀a:List D,(jq a).Perm a
 |[]=>.refl _
 |d::r=>(wb d<|jq r).trans ((nW r).cons d)
theorem AG(e:iD x=some s):∀{r},(∀d∈r,iD d=some s)->ph r->ph (pM x r)
 |[],_,_=>fw ..
 |y::r,g,h=>by
  have c:=g y (.head _);obtain⟨i,l⟩:=dF.mp h;unfold pM;split
  ·rename_i lt;refine dF.mpr ⟨λz a=>?_,AG e (λd k=>g d<|.tail _ k) l⟩;rcases aF.mp ((wb x r).mem_iff.mp a)with rfl|a
   ·cases q:ltQ z y with
    |false=>rfl
    |true=>have:=tN c e c lt q;rw[Bg c]at this;cases this
   ·exact i z a
  ·rename_i lt;have b:ltQ y x=false:=by simpa using lt
   refine dF.mpr ⟨λz a=>?_,h⟩;rcases aF.mp a with rfl|a;·exact b
   ·cases q:ltQ z x with
    |false=>rfl
    |true=>
     have f:=g z (.tail _ a);cases j:ltQ x y with
     |true=>have:=tN f e c q j;rw[i z a]at this;cases this
     |false=>rw[wH e c j b]at q;rw[i z a]at q;cases q
theorem uF:∀{b},(∀d∈b,iD d=some s)->ph (jq b)
 |[],_=>.nil
 |d::r,h=>AG (h d<|.head _) (λe a=>h e<|.tail _<|(nW r).mem_iff.mp a) (uF λe a=>h e<|.tail _ a)
def Cn{a:List D}(h:a.Perm b)(c:∀d∈a,iD d=some s)(i:ph a)(g:ph b):a=b:=
 List.Perm.eq_of_pairwise (λx y f e k j=>wH (c x f) (c y<|h.symm.mem_iff.mp e) j k) i g h
def o7:D->Value->Prop
 |.int i,.int j _=>i=j
 |.str x,.str y _=>x=y
 |_,_=>False
inductive mL:List D->List Value->Prop
 |nil:mL [] []
 |cons {d:D} {v:Value} {ds:List D} {vs:List Value}:o7 d v->mL ds vs->mL (d::ds) (v::vs)
def TupAt(h:Heap)(u:Value)(c:List D):Prop:=∃a o b n,u=.ref a/\h.get? a=some o/\o.cls=.type "tuple"/\o.data=.seq b n/\mL c b.toList
def TupAt.keep{c:Heap}{u}(t:TupAt h u ds)(k:∀b o,h.get? b=some o->c.get? b=some o):TupAt c u ds:=
 let⟨a,o,d,n,f,e,r⟩:=t;⟨a,o,d,n,f,k a o e,r⟩
def nk(h:Heap)(u:Value):D->Prop
 |.int i=>o7 (.int i) u
 |.str x=>o7 (.str x) u
 |.tup ds=>TupAt h u ds
 |_=>False
def nk.keep{a:Heap}{u d}(t:nk h u d)(k:∀b o,h.get? b=some o->a.get? b=some o):nk a u d:=by
 cases d with
 |tup c=>exact TupAt.keep t k
 |_=>exact t
def pG{i:Int}{v}(h:o7 (.int i) v):∃t,v=.int i t:=by
 cases v with
 |int j t=>cases h;exact⟨t,rfl⟩
 |_=>exact h.elim
def pH{v}(h:o7 (.str i) v):∃t,v=.str i t:=by
 cases v with
 |str j t=>cases h;exact⟨t,rfl⟩
 |_=>exact h.elim
section
variable{prog:Program}{w:World}{A:Around}{E:ia}{s:Shared}
def JY{i j:Int}{t u}{Q:Bool->Shared->Prop}(h:Q (decide<|i<j) s):wpAny (model prog w) A (oneLt' b (.int i t)<|.int j u) Q E s:=by
 cases b with
 |true=>exact oneLt_int h
 |false=>exact kat_one _ _ (lt_int h)
def JZ{i j:Str}{t u}{Q:Bool->Shared->Prop}(h:Q (decide<|i.cps.toList<j.cps.toList) s):wpAny (model prog w) A (oneLt' b (.str i t)<|.str j u) Q E s:=by
 cases b with
 |true=>exact oneLt_str h
 |false=>exact kat_one _ _ (PyProof.Rows.lt_str h)
def Iy{Q:Bool->Shared->Prop}:∀{b a},kx b a->∀{d c} i,mL b d->mL a c->(b=a->Q fin s)->(b≠a->Q (kG b a) s)->KatLex prog w A fl fin Q (d.zip c) i s:=by
 intro b a q;induction q with
 |nil=>intro d c i f g h _;cases f;cases g;exact h rfl
 |int x y q m=>
  intro d c i f g n j;cases f with
  |cons p l=>
   cases g with
   |cons o k=>
    obtain⟨t,rfl⟩:=pG p;obtain⟨r,rfl⟩:=pG o;rw[eL];refine kat_cons (wpAny_eqBool_int ?_);by_cases e:x=y
    ·subst e;rw[show(x==x)=true by simp];refine kat_yes (m (i+1) l k (λw=>n<|by rw[w]) λw=>?_);have:=j (λz=>w<|by injection z)
     rwa [rf,ai rfl]at this
    ·rw[show(x==y)=false by simpa using e];refine kat_no (JY ?_);have:=j (λz=>e<|by injection z with z1;injection z1)
     rwa [rf,ak e]at this
 |str x y q m=>
  intro d c i f g n j;cases f with
  |cons p l=>
   cases g with
   |cons o k=>
    obtain⟨t,rfl⟩:=pH p;obtain⟨r,rfl⟩:=pH o;rw[eL];refine kat_cons (wpAny_eqBool_str ?_);by_cases e:x=y
    ·subst e;rw[show decide (x=x)=true by simp];refine kat_yes (m (i+1) l k (λw=>n<|by rw[w]) λw=>?_);have:=j (λz=>w<|by injection z)
     rwa [rh,ai rfl]at this
    ·rw[show decide (x=y)=false by simpa using e];refine kat_no (JZ ?_);have:=j (λz=>e<|by injection z with z1;injection z1)
     rwa [rh,ak e]at this
def kx.len(q:kx xs ys):xs.length=ys.length:=by
 induction q with
 |nil=>rfl
 |int i j h a=>rw[ao,ao,a]
 |str i j h a=>rw[ao,ao,a]
def yV(h:mL xs us):xs.length=us.length:=by
 induction h with
 |nil=>rfl
 |cons _ _ a=>rw[ao,ao,a]
def P7{u v}{Q:Bool->Shared->Prop}(q:kx xs ys)(l:TupAt s.heap u xs)(k:TupAt s.heap v ys)(h:Q (kG xs ys) s):wpAny (model prog w) A (keyLt' (tuples' fl) u v) Q E s:=by obtain⟨a,o,g,n,rfl,t,B,r,c⟩:=l;obtain⟨b,p,f,m,rfl,y,C,x,d⟩:=k;refine kat_lt t r y x (Iy q 0 c d (λe=>?_) λ_=>h);have j:=yV c;have i:=yV d;have z:=q.len;simp only[av]at j i;subst e;rw[A8 q]at h;rw[show decide (g.size<f.size)=false from aW (by omega)];exact h
inductive j0(h:Heap):List Value->List D->Prop
 |nil:j0 h [] []
 |cons {u:Value} {d:D} {us:List Value} {ds:List D}:nk h u d->j0 h us ds->j0 h (u::us) (d::ds)
def j0.keep{c:Heap}(t:j0 h us ds)(k:∀b o,h.get? b=some o->c.get? b=some o):j0 c us ds:=by
 induction t with
 |nil=>exact .nil
 |cons a _ d=>exact .cons (a.keep k) d
def j0.len(t:j0 h us ds):us.length=ds.length:=by
 induction t with
 |nil=>rfl
 |cons a _ b=>rw[ao,ao,b]
def j0.get(t:j0 h us ds):∀{i},i<ds.length->nk h (us.getD i .none) (ds.getD i .non):=by
 induction t with
 |nil=>intro i hi;simp at hi
 |cons a _ b=>
  intro i hi;cases i with
  |zero=>simpa using a
  |succ i=>simpa using b (by simpa using hi)
theorem AI:∀{c} {f},j0 h c f->(∀d∈f,iD d=some [0])->∃b,IntsAre c b
 |_,_,.nil,_=>⟨[],.nil⟩
 |_,_,.cons (d:=d) a r,hs=>by
  rcases l4 (hs d (.head _))with⟨i,rfl,_⟩|⟨i,rfl,e⟩|⟨_,_,_,rfl,e,_⟩
  ·obtain⟨t,rfl⟩:=pG a;obtain⟨b,g⟩:=AI r λd j=>hs d (.tail _ j);exact⟨i::b,.cons i t g⟩
  ·cases e
  ·cases e
theorem CI:∀{c} {f},j0 h c f->(∀d∈f,iD d=some [1])->∃b,StrsAre c b
 |_,_,.nil,_=>⟨[],.nil⟩
 |_,_,.cons (d:=d) a r,hs=>by
  rcases l4 (hs d (.head _))with⟨i,rfl,e⟩|⟨i,rfl,_⟩|⟨_,_,_,rfl,e,_⟩;·cases e
  ·obtain⟨t,rfl⟩:=pH a;obtain⟨b,g⟩:=CI r λd j=>hs d (.tail _ j);exact⟨i::b,.cons i t g⟩
  ·cases e
theorem CO{t}:∀{j} {x},j0 h j x->(∀d∈x,iD d=some (2::k::t))->∃fs,KatTups h j fs/\fs.length=j.length/\∀v∈fs,(k=0/\∃i u,v=.int i u)\/(k=1/\∃i u,v=.str i u)
 |_,_,.nil,_=>⟨[],.nil,rfl,λv c=>by simp at c⟩
 |_,_,.cons (d:=d) a r,hs=>by
  obtain⟨fs,I,H,G⟩:=CO r λd y=>hs d (.tail _ y);rcases l4 (hs d (.head _))with⟨i,rfl,e⟩|⟨i,rfl,e⟩|⟨J,M,L,rfl,e,m⟩;·cases e
  ·cases e
  ·cases e;obtain⟨b,o,q,n,rfl,D,C,B,g⟩:=a;cases l:q.toList with
   |nil=>rw[l]at g;cases g
   |cons f K=>
    rw[l]at g;cases g with
    |cons hf N=>
     have F:q[0]?=some f:=by rw[<-aU,l];rfl
     refine⟨f::fs,.cons D C B F I,by simp[H],λv c=>?_⟩;rcases aF.mp c with rfl|c
     ·cases J with
      |int i=>obtain⟨z,p,_⟩:=oO m;cases p;obtain⟨u,rfl⟩:=pG hf;exact .inl ⟨rfl,i,u,rfl⟩
      |str i=>obtain⟨z,p,_⟩:=oP m;cases p;obtain⟨u,rfl⟩:=pH hf;exact .inr ⟨rfl,i,u,rfl⟩
      |_=>cases m
     ·exact G v c
def Ie(t:j0 s.heap us ds)(W:2<=us.length)(F:∀d∈ds,iD d=some sg):
    ∃L:SortKind,(∀Q:SortKind->Shared->Prop,Q L s->wpAny (model prog w) A (keyKind' us.toArray) Q E s)/\
     ∀i j,i<ds.length->j<ds.length->∀C:Bool->Shared->Prop,C (ltQ (ds.getD i .non)<|ds.getD j .non) s->wpAny (model prog w) A (keyLt' L (us.getD i .none)<|us.getD j .none) C E s:=by
 have hl:=t.len;have m:∀i,i<ds.length->iD (ds.getD i .non)=some sg:=λi hi=>by rw[aX,au hi,fx];exact F _ (d4 hi)
 have Y:=m 0 (by omega);obtain⟨B,r,p,rfl⟩:∃B r p,us=B::r::p:=by
  match us,W with
  |B::r::p,_=>exact⟨B,r,p,rfl⟩
 rcases l4 Y with⟨U,N,rfl⟩|⟨U,N,rfl⟩|⟨O,Z,R,N,rfl,n⟩
 ·obtain⟨S,I⟩:=AI t F;refine⟨oneType',λQ q=>by rw[keyKind_ints I];exact af q,λi j hi h C c=>?_⟩;have a:=t.get hi;have b:=t.get h;have g:=m i hi;have l:=m j h;generalize ds.getD i .non=x at a c g;generalize ds.getD j .non=y at b c l;cases nc g l with
  |int x y=>obtain⟨D,o⟩:=pG a;obtain⟨P,n⟩:=pG b;rw[o,n,keyLt'_oneType];exact oneLt_int c
  |str x y=>cases g
  |tup q=>rcases l4 g with⟨_,e,_⟩|⟨_,e,_⟩|⟨_,_,_,_,e,_⟩<;>cases e
 ·obtain⟨S,I⟩:=CI t F;refine⟨oneType',λQ q=>by rw[keyKind_strs I];exact af q,λi j hi h C c=>?_⟩;have a:=t.get hi;have b:=t.get h;have g:=m i hi;have l:=m j h;generalize ds.getD i .non=x at a c g;generalize ds.getD j .non=y at b c l;cases nc g l with
  |int x y=>cases g
  |str x y=>obtain⟨D,o⟩:=pH a;obtain⟨P,n⟩:=pH b;rw[o,n,keyLt'_oneType];exact oneLt_str c
  |tup q=>rcases l4 g with⟨_,e,_⟩|⟨_,e,_⟩|⟨_,_,_,_,e,_⟩<;>cases e
 ·obtain⟨k,D,H⟩:∃k D,R=k::D:=by
   cases O with
   |int i=>obtain⟨z,o,_⟩:=oO n;exact⟨_,_,o⟩
   |str i=>obtain⟨z,o,_⟩:=oP n;exact⟨_,_,o⟩
   |_=>cases n
  subst H;obtain⟨fs,M,K,J⟩:=CO t F;refine⟨tuples' true,λQ q=>?_,λi j hi h C c=>?_⟩
  ·have V:k=0\/k=1:=by
    cases fs with
    |nil=>simp at K
    |cons f fr=>rcases J f (.head _)with⟨e,_⟩|⟨e,_⟩<;>omega
   rcases V with rfl|rfl
   ·refine kat_kind (T:=.type "int") M (by rw[K];omega) (λv G=>?_) (by rfl) q;rcases J v G with⟨_,i,u,rfl⟩|⟨e,_⟩;·exact .now
    ·cases e
   ·refine kat_kind (T:=.type "str") M (by rw[K];omega) (λv G=>?_) (by rfl) q;rcases J v G with⟨e,_⟩|⟨_,i,u,rfl⟩;·cases e
    ·exact .now
  ·have a:=t.get hi;have b:=t.get h;have g:=m i hi;have l:=m j h;generalize ds.getD i .non=x at a c g;generalize ds.getD j .non=y at b c l;cases nc g l with
   |int x y=>cases g
   |str x y=>cases g
   |tup q=>exact P7 q a b c
def outs(a:List Value)(p:Array Nat):List Value:=p.toList.map λi=>a.getD i .none
def outD(a:List D)(p:Array Nat):List D:=p.toList.map λi=>a.getD i .non
def Av{a:Type}(l:List a)(x):(List.range l.length).map (λi=>l.getD i x)=l:=by
 apply fA;·simp
 ·intro i c b;simp[fB,b]
def Ks{a:List D}(h:iQ a.length p):(outD a p).Perm a:=by have:=(dh.mp h).map λi=>a.getD i .non;rw[show(List.range a.length).toArray.toList=List.range a.length from rfl,Av]at this;exact this
def Kt(o:∀d∈ds,iD d=some sg)(h:iQ ds.length p)(g:0<ds.length)
 (a:kS (rankOf ds.length λi j=>ltQ (ds.getD i .non)<|ds.getD j .non) p ds.length)(n:∀i j,i<ds.length->j<ds.length->ltQ (ds.getD i .non) (ds.getD j .non)=decide (rankOf ds.length (λi j=>ltQ (ds.getD i .non)<|ds.getD j .non) i<rankOf ds.length (λi j=>ltQ (ds.getD i .non)<|ds.getD j .non) j)):ph (outD ds p):=by
  have sz:=h.size;refine eR.mpr λi j hi c m=>?_;unfold outD at hi c⊢;rw[aD,av]at hi c;rw[fB,fB,gf,gf];have l:p.getD i 0=p[i]:=by simp[Array.getD,hi]
  have k:p.getD j 0=p[j]:=by simp[Array.getD,c]
  have f:=h.lt g i;have e:=h.lt g j;have b:=a i j (by omega) (by omega);rw[<-ts,<-ts]at b;rw[l]at f b;rw[k]at e b;rw[n _ _ e f];exact aW (by omega)
def CF(t:j0 s.heap us ds)(M:lT ds=true)(F:2<=us.length)(o:us.length<64):sj prog w (λout=>∃p,iQ ds.length p/\out.toList=P2.outs us p/\outD ds p=jq ds) us s:=by
 intro B;obtain⟨H,g⟩:=v9 M;obtain⟨W,K,J⟩:=Ie (prog:=prog) (w:=w) (A:=B) (E:=λ_ _=>False) t F g;have L:=t.len;have b:∀i,i<ds.length->iD (ds.getD i .non)=some H:=λi hi=>by rw[aX,au hi,fx];exact g _ (d4 hi)
 have D:=N6 (n:=ds.length) (c:=λi j=>ltQ (ds.getD i .non)<|ds.getD j .non) (λi hi=>Bg<|b i hi) (λi j k hi l m=>tN (b i hi) (b j l)<|b k m) λi j k hi l m h=>by
  cases y:ltQ (ds.getD k .non) (ds.getD j .non)with
  |true=>exact .inl rfl
  |false=>
   cases I:ltQ (ds.getD i .non) (ds.getD k .non)with
   |true=>exact .inr rfl
   |false=>
    cases v:ltQ (ds.getD k .non) (ds.getD i .non)with
    |true=>have:=tN (b k m) (b i hi) (b j l) v h;rw[y]at this;cases this
    |false=>have:=wH (b i hi) (b k m) I v;rw[this,y]at h;cases h
 refine K _ ⟨rfl,?_⟩
 refine aS (kat_run (ks:=us) (vs:=us) (Q:=λa f=>f=s/\failedOf a=none/\((arrOf a).map (·.2)).size=us.length/\∃p,iQ ds.length p/\((arrOf a).map (·.2)).toList=P2.outs us p/\outD ds p=jq ds)
  (G:=λp f=>f=s/\iQ ds.length p/\outD ds p=jq ds) rfl F o (λp a f V U T S=>?_) ?_) (λr f q=>q) λ_ _ x=>x
 ·obtain⟨b1,R,P⟩:=S;have e:=kat_snds rfl U;refine⟨b1,T,?_,p,R,?_,P⟩;·rw[e];simp[V]
  ·rw[e];rfl
 ·rw[L];refine jb.wp (c:=λi j=>ltQ (ds.getD i .non)<|ds.getD j .non) (Q:=λp=>iQ ds.length p/\outD ds p=jq ds) (λi j hi l C c=>J i j hi l C c) (λp q=>⟨rfl,q⟩) ?_;refine JM D (by omega) λp u O=>⟨u,?_⟩;have z:=Ks u;exact Cn (z.trans (nW ds).symm) (λd N=>g d<|z.mem_iff.mp N) (Kt g u (by omega) O D) (uF g)
end
variable{X:Cx}{E:XK}{e:Expr}{F:TE}{f:g7}{J pos:Pos}
def sX{v d u}(r:Rep K al H v d)(a:RelV v u)(h:(∃i,d=.int i)\/∃i,d=.str i):o7 d u:=by
 rcases h with⟨i,rfl⟩|⟨i,rfl⟩;·cases r;obtain⟨t,rfl⟩:=a;rfl
 ·cases r;obtain⟨t,rfl⟩:=a;rfl
def Gh:∀{c} {k} {g} {j},k8 c=some k->gQ K al H g c->Vals g j->mL c j:=by
 intro c k g j h r v;induction c generalizing k g j with
 |nil=>cases r;cases v;exact .nil
 |cons d _ l=>
  cases r with
  |cons a b=>
   cases v with
   |cons m n=>
    cases d with
    |int i=>obtain⟨t,_,e⟩:=oO h;exact .cons (sX a m<|.inl ⟨i,rfl⟩) (l e b n)
    |str i=>obtain⟨t,_,e⟩:=oP h;exact .cons (sX a m<|.inr ⟨i,rfl⟩) (l e b n)
    |_=>cases h
def HA(I:Inv X pins σ H s){v d u}(r:Rep X.K al H v d)(b:RelV v u)(h:iD d=some sg):nk s.heap u d:=by
 rcases l4 h with⟨i,rfl,_⟩|⟨i,rfl,_⟩|⟨x,w,t,rfl,_,e⟩;·exact sX r b (.inl ⟨i,rfl⟩)
 ·exact sX r b (.inr ⟨i,rfl⟩)
 ·obtain⟨a,p,rfl,j,g⟩:=r.lg;obtain rfl:u=.ref a:=b;obtain⟨c,q,⟨o,m,l,n,k⟩,_⟩:=I.tuple j;exact⟨a,o,_,n,rfl,m,l,k,Gh e g q⟩
def HB(I:Inv X pins σ H s):∀{c} {g} {i},(∀d∈c,iD d=some sg)->gQ X.K al H g c->Vals g i->j0 s.heap i c:=by
 intro c g i h r v;induction c generalizing g i with
 |nil=>cases r;cases v;exact .nil
 |cons d _ j=>
  cases r with
  |cons a b=>
   cases v with
   |cons k l=>exact .cons (HA I a k<|h d<|.head _) (j (λe m=>h e<|.tail _ m) b l)
theorem CZ(h:Vals vs us):∀l:List Nat,(∀i∈l,i<us.length)->Vals (l.map λi=>vs.getD i .non) (l.map λi=>us.getD i .none)
 |[],_=>.nil
 |i::l,b=>by
  have get:∀{vs:List V} {us:List Value},Vals vs us->∀i,i<us.length->RelV (vs.getD i .non) (us.getD i .none):=λ{vs us} h=>by
   induction h with
   |nil=>intro i hi;simp at hi
   |cons a _ c=>
    intro i hi;cases i with
    |zero=>simpa using a
    |succ i=>simpa using c i (by simpa using hi)
  exact .cons (get h i<|b i<|.head _) (CZ h l λj d=>b j<|.tail _ d)
theorem Cm(h:gQ K al H vs ds):∀l:List Nat,(∀i∈l,i<ds.length)->gQ K al H (l.map λi=>vs.getD i .non) (l.map λi=>ds.getD i .non)
 |[],_=>.nil
 |i::l,a=>by have hi:=a i (.head _);obtain⟨v,d,c⟩:=h.getD (au hi);refine .cons ?_ (Cm h l λj b=>a j<|.tail _ b);show Rep K al H (vs.getD i V.non) (ds.getD i D.non);rw[aX,aX,d,au hi];exact c
def AF{n}(h:iQ n p):∀i∈p.toList,i<n:=λi hi=>by have:=(dh.mp h).mem_iff.mp hi;simpa using this
end P2
namespace P2
open PySem L2
inductive Z where
 |d(x:D)|loc(n:Nat)|tk(ks:List Key)
abbrev iC(x:Int):Option Z:=some (.d<|.int x)
abbrev gX(x:List D):Option Z:=some (.d<|.lst x)
abbrev ic(x:D):Option Z:=some (.d x)
abbrev h9(n:Nat):Option Z:=some (.loc n)
inductive Cell where
 |li(zs:List Z)|ob(C:Addr)(fs:List<|Str×Z)|dk(kvs:List<|Key×Z)|dt(kvs:List<|List Key×Z)|ft(kvs:List<|List Key×Z)|no|mk
abbrev gR:=List Cell
abbrev Lo:=Nat->Option Addr
abbrev gU:=List (Option Z)
def i6(K:W.Frag)(b:Addr->Prop)(lo:Lo)(H:Hp)(v:V):Z->Prop
 |.d x=>Rep K b H v x
 |.loc n=>∃a,lo n=some a/\v=.ref a
 |.tk c=>∃a,b a/\H a=some (.tup<|c.map kV)/\v=.ref a
inductive iW(K:W.Frag)(al:Addr->Prop)(lo:Lo)(H:Hp):List V->List Z->Prop
 |nil:iW K al lo H [] []
 |cons {v:V} {z:Z} {vs:List V} {zs:List Z}:i6 K al lo H v z->iW K al lo H vs zs->iW K al lo H (v::vs) (z::zs)
inductive i4{κ:Type}(K:W.Frag)(al:Addr->Prop)(lo:Lo)(H:Hp):List (κ×V)->List (κ×Z)->Prop
 |nil:i4 K al lo H [] []
 |cons {k:κ} {v:V} {z:Z} {vs:List<|κ×V} {zs:List<|κ×Z}:i6 K al lo H v z->i4 K al lo H vs zs->i4 K al lo H ((k,v)::vs) ((k,z)::zs)
def jO(K:W.Frag)(d:Addr->Prop)(lo:Lo)(H:Hp)(a:Addr):Cell->Prop
 |.li zs=>∃e,H a=some (.lst e)/\iW K d lo H e zs
 |.ob C fs=>∃f b,H a=some (.ins C f b)/\i4 K d lo H b fs
 |.dk c=>∃b,H a=some (.dK b)/\i4 K d lo H b c
 |.dt c=>∃b,H a=some (.dT b)/\i4 K d lo H b c
 |.ft c=>∃b o,H a=some (.jD o<|.dT b)/\i4 K d lo H b c
 |.no=>False
 |.mk=>False
def yP(o:HO):Prop:=(∃a,o=.tup a)\/∃b,o=.iO b
structure n8(K:W.Frag)(al:Addr->Prop)(lo:Lo)(H:Hp)(S:gR):Prop where
 at':∀n a,lo n=some a->∃c,S[n]?=some c/\jO K al lo H a c
 has:∀n c,S[n]?=some c->c≠.no->c≠.mk->∃a,lo n=some a
 na:∀n a,lo n=some a->¬al a
 inj:∀m n a,lo m=some a->lo n=some a->m=n
 tl:S[0]?=some .mk->∀b o,H b=some o->yP o->al b
structure Z0 where
 H:Hp
 al:Addr->Prop
 lo:Lo
 n:Nat
structure EZ(K:W.Frag)(B:Z0)(al:Addr->Prop)(lo:Lo)(H:Hp)(S:gR):Prop where
 fr:∀b o,NT o->B.H b=some o->(∀n,B.lo n≠some b)->H b=some o
 hf:∀b,H b=none->B.H b=none
 tt:jt K H
 fresh:∀a,H a=none->al a
 st:n8 K al lo H S
 lx:∀n a,B.lo n=some a->lo n=some a
 nw:∀n a,lo n=some a->B.lo n=some a\/(B.H a=none/\B.n<=n)
 bd:∀n a,B.lo n=some a->n<B.n
 sz:B.n<=S.length
 xt:Xt B.al B.H al H
 sb:∀a,al a->B.al a\/B.H a=none
structure RZ(K:W.Frag)(B:Z0)(al:Addr->Prop)(lo:Lo)(H:Hp)(σ:St)(ρ:gU)(S:gR):Prop extends EZ K B al lo H S where
 len:ρ.length=σ.length
 vr:∀(i:Nat) (z:Z),ρ[i]?=some (some z)->∃v,σ[i]?=some (some v)/\i6 K al lo H v z
def Lx(lo b:Lo):Prop:=∀n a,lo n=some a->b n=some a
def Lx.refl{lo}:Lx lo lo:=λ_ _ h=>h
def Lx.trans{lo}(x:Lx lo lo1)(y:Lx lo1 rl):Lx lo rl:=λn a h=>y n a (x n a h)
section
variable{K:W.Frag}{f A:Addr->Prop}{lo l:Lo}{H F:Hp}
def i6.mv(x:Xt f H A F)(y:Lx lo l){v:V}{z:Z}(r:i6 K f lo H v z):i6 K A l F v z:=by
 cases z with
 |d d=>exact Rep.mv x r
 |loc n=>obtain⟨a,c,b⟩:=r;exact⟨a,y n a c,b⟩
 |tk e=>obtain⟨a,c,b,g⟩:=r;obtain⟨j,i⟩:=x a (.tup<|e.map kV) (λ_ h=>nomatch h) c b;exact⟨a,j,i,g⟩
def iW.mv(x:Xt f H A F)(y:Lx lo l){c:List V}{b:List Z}(r:iW K f lo H c b):iW K A l F c b:=by
 induction r with
 |nil=>exact .nil
 |cons a _ d=>exact .cons (a.mv x y) d
def i4.mv{b:Type}(x:Xt f H A F)(y:Lx lo l){d:List<|b×V}{c:List<|b×Z}(r:i4 K f lo H d c):i4 K A l F d c:=by
 induction r with
 |nil=>exact .nil
 |cons a _ e=>exact .cons (a.mv x y) e
def iW.length(r:iW K f lo H vs zs):vs.length=zs.length:=by
 induction r with
 |nil=>rfl
 |cons _ _ a=>rw[ao,ao,a]
def iW.append(r:iW K f lo H vs zs)(q:iW K f lo H ws ys):iW K f lo H (vs++ws) (zs++ys):=by
 induction r with
 |nil=>exact q
 |cons a _ b=>exact .cons a b
def iW.get{c:List V}{b:List Z}(r:iW K f lo H c b){i:Nat}{z:Z}(e:b[i]?=some z):∃v,c[i]?=some v/\i6 K f lo H v z:=by
 induction r generalizing i with
 |nil=>simp at e
 |cons a _ d=>
  cases i with
  |zero=>simp at e;subst e;exact⟨_,rfl,a⟩
  |succ i=>simpa using d (by simpa using e)
def iW.ofD(r:gQ K f H vs ds):iW K f lo H vs (ds.map .d):=by
 induction ds generalizing vs with
 |nil=>cases r;exact .nil
 |cons d ds c=>cases r with|cons a b=>exact .cons a (c b)
def iW.toD{c:List D}(r:iW K f lo H vs<|c.map .d):gQ K f H vs c:=by
 induction c generalizing vs with
 |nil=>cases r;exact .nil
 |cons d c e=>cases r with|cons a b=>exact .cons a (e b)
def jO.mv(x:Xt f H A F)(y:Lx lo l){a:Addr}{c:Cell}(e:∀o,NT o->H a=some o->F a=some o)(r:jO K f lo H a c):jO K A l F a c:=by
 cases c with
 |li m=>obtain⟨j,d,b⟩:=r;exact⟨j,e _ kP d,b.mv x y⟩
 |ob C fs=>obtain⟨k,g,d,b⟩:=r;exact⟨k,g,e _ (λ_ h=>nomatch h) d,b.mv x y⟩
 |dk i=>obtain⟨g,d,b⟩:=r;exact⟨g,e _ (λ_ h=>nomatch h) d,b.mv x y⟩
 |dt i=>obtain⟨g,d,b⟩:=r;exact⟨g,e _ (λ_ h=>nomatch h) d,b.mv x y⟩
 |ft i=>obtain⟨g,o,d,b⟩:=r;exact⟨g,o,e _ (λ_ h=>nomatch h) d,b.mv x y⟩
 |no=>exact r
 |mk=>exact r
def jO.rd(r:jO K f lo H a c):H a≠none/\(∀h,H a≠some (.iO h))/\(∀q,H a≠some (jj a q)):=by
 cases c with
 |li i=>obtain⟨j,b,e⟩:=r;rw[b];exact⟨nofun,λ_=>nofun,λ_ w=>by unfold jj at w;exact nomatch w⟩
 |ob C fs=>obtain⟨k,g,b,e⟩:=r;rw[b];exact⟨nofun,λ_=>nofun,λ_ w=>by unfold jj at w;exact nomatch w⟩
 |dk d=>obtain⟨g,b,e⟩:=r;rw[b];exact⟨nofun,λ_=>nofun,λ_ w=>by unfold jj at w;exact nomatch w⟩
 |dt d=>obtain⟨g,b,e⟩:=r;rw[b];exact⟨nofun,λ_=>nofun,λ_ w=>by unfold jj at w;exact nomatch w⟩
 |ft d=>obtain⟨g,o,b,e⟩:=r;rw[b];exact⟨nofun,λ_=>nofun,λ_ w=>by unfold jj at w;exact nomatch w⟩
 |no=>exact r.elim
 |mk=>exact r.elim
def jO.Bi(r:jO K f lo H a c)(h:H a=some o):¬yP o:=by
 rintro (⟨k,rfl⟩|⟨i,rfl⟩)
 ·cases c with
  |li j=>obtain⟨m,b,e⟩:=r;rw[h]at b;cases b
  |ob C fs=>obtain⟨n,g,b,e⟩:=r;rw[h]at b;cases b
  |dk d=>obtain⟨g,b,e⟩:=r;rw[h]at b;cases b
  |dt d=>obtain⟨g,b,e⟩:=r;rw[h]at b;cases b
  |ft d=>obtain⟨g,o,b,e⟩:=r;rw[h]at b;cases b
  |no=>exact r.elim
  |mk=>exact r.elim
 ·exact r.rd.2.1 i h
variable{B:Z0}{I:St}{E:gU}{S:gR}
def EZ.start{zs:List Z}(tt:jt K H)(fr:∀a,H a=none->f a)(st:n8 K f lo H S):EZ K ⟨H,f,lo,S.length⟩ f lo H S where
 fr:=λ_ _ _ h _=>h
 hf:=λ_ h=>h
 tt:=tt
 fresh:=fr
 st:=st
 lx:=λ_ _ h=>h
 nw:=λ_ _ h=>.inl h
 bd:=λn a h=>by obtain⟨c,e,_⟩:=st.at' n a h;exact(ar.mp e).1
 sz:=ah _
 xt:=.refl
 sb:=λ_ h=>.inl h
def EZ.grow(r:EZ K B f lo H S)(s:iH K H F):EZ K B f lo F S where
 fr:=λb o n h w=>s.at' b o n (r.fr b o n h w)
 hf:=λb h=>r.hf b (s.fr b h)
 tt:=s.tt r.tt
 fresh:=λa h=>r.fresh a (s.fr a h)
 st:={
  at':=λn a h=>by obtain⟨c,e,q⟩:=r.st.at' n a h;exact⟨c,e,q.mv (.of s) .refl λo no h=>s.at' _ o no h⟩
  has:=r.st.has
  na:=r.st.na
  inj:=r.st.inj
  tl:=λm b o k j=>by
   cases q:H b with
   |none=>exact r.fresh b q
   |some d=>
    by_cases g:NT d
    · have e:=s.at' b d g q;rw[k]at e;cases e;exact r.st.tl m b o q j
    · exact r.st.tl m b d q (.inr (b0 λw=>g λi e=>w ⟨i,e⟩))}
 lx:=r.lx
 nw:=r.nw
 bd:=r.bd
 sz:=r.sz
 xt:=r.xt.trans (.of s)
 sb:=r.sb
def RZ.grow(r:RZ K B f lo H I E S)(s:iH K H F):RZ K B f lo F I E S:=
 ⟨r.toEZ.grow s,r.len,λi z e=>let⟨v,b,a⟩:=r.vr i z e;⟨v,b,a.mv (.of s) .refl⟩⟩
def Lq:Option Z->Sl
 |some (.d x)=>.sh x
 |_=>.no
def j8(E:gU):Ev:=E.map Lq
def RZ.rs(r:RZ K B f lo H I E S):RS K f H f H I (j8 E) where
 same:=.refl H
 tt:=r.tt
 fresh:=r.fresh
 sub:=λ_ h=>h
 pf:=r.fresh
 len:=by unfold j8;rw[aD];exact r.len
 sh:=λi d h=>by
  unfold j8 at h;rw[aB]at h;obtain⟨z,c,b⟩:=aj.mp h;cases z with
  |none=>cases b
  |some z=>
   cases z with
   |d x=>cases b;exact r.vr i _ c
   |loc n=>cases b
   |tk k=>cases b
 ow:=λi g h=>by
  unfold j8 at h;rw[aB]at h;obtain⟨z,c,b⟩:=aj.mp h;cases z with
  |none=>cases b
  |some z=>cases z<;>cases b
 apart:=λi j g e a h _ _ _=>by
  unfold j8 at h;rw[aB]at h;obtain⟨z,c,b⟩:=aj.mp h;cases z with
  |none=>cases b
  |some z=>cases z<;>cases b
def RZ.set(r:RZ K B f lo H I E S){i:Nat}{v:V}{z:Z}(hi:i<E.length)(q:i6 K f lo H v z):RZ K B f lo H (I.set i<|some v) (E.set i<|some z) S where
 toEZ:=r.toEZ
 len:=by rw[bp,bp];exact r.len
 vr:=λj e h=>by
  by_cases w:i=j
  ·subst w;rw[aR hi]at h;cases h;exact⟨v,aR<|by rw[<-r.len];exact hi,q⟩
  ·rw[ax w]at h;obtain⟨u,a,b⟩:=r.vr j e h;exact⟨u,by rw[ax w];exact a,b⟩
def jS(lo:Lo)(n:Nat)(p:Addr):Lo:=λm=>if m=n then some p else lo m
def n8.none(b:n8 K f lo H S):lo S.length=Option.none:=by
 cases h:lo S.length with
 |none=>rfl
 |some a=>obtain⟨c,e,_⟩:=b.at' _ a h;have:=(ar.mp e).1;omega
def nG(b:n8 K f lo H S)(p):Lx lo (jS lo S.length p):=λn a h=>by
 unfold jS;rw[ak];·exact h
 ·intro w;rw[w,b.none]at h;cases h
def qo(a:H p=none):Xt f H (λb=>f b/\b≠p) (upd H p o):=λb u _ c e=>⟨⟨c,jl e a⟩,by rw[gY<|jl e a];exact e⟩
def EZ.new(r:EZ K B f lo H S)(C:H p=none)(no:NT o)(G:jO K (λb=>f b/\b≠p) (jS lo S.length p) (upd H p o) p c)(O:c≠.no):
    EZ K B (λb=>f b/\b≠p) (jS lo S.length p) (upd H p o) (S++[c]):=by
 have s:iH K H (upd H p o):=jG C;have x:Xt f H (λb=>f b/\b≠p) (upd H p o):=qo C;have g:=r.grow s;refine⟨g.fr,g.hf,g.tt,λa h=>⟨g.fresh a h,λw=>by rw[w,ix]at h;cases h⟩,⟨λn a h=>?_,λn D h w L=>?_,λn a h w=>?_,λm n a i j=>?_,λm b u t J=>?_⟩,λn a h=>nG r.st p n a<|r.lx n a h,λn a h=>?_,r.bd,by rw[aq];have:=r.sz;omega,r.xt.trans x,λb t=>r.sb b t.1⟩
 ·unfold jS at h;by_cases w:n=S.length
  ·rw[ai w]at h;cases h;exact⟨c,by rw[w];simp,G⟩
  ·rw[ak w]at h;obtain⟨D,e,q⟩:=r.st.at' n a h;have ne:a≠p:=λz=>q.rd.1 (by rw[z];exact C);exact⟨D,by rw[ag (ar.mp e).1];exact e,q.mv x (nG r.st p) λu _ h=>by rw[gY ne];exact h⟩
 ·by_cases z:n<S.length
  ·rw[ag z]at h;obtain⟨a,i⟩:=r.st.has n D h w L;exact⟨a,nG r.st p n a i⟩
  ·have:n=S.length:=by
    have:=(ar.mp h).1;rw[aq,bq]at this;omega
   exact⟨p,by unfold jS;rw[ai this]⟩
 ·unfold jS at h;by_cases z:n=S.length;·rw[ai z]at h;cases h;exact w.2 rfl
  ·rw[ak z]at h;exact r.st.na n a h w.1
 ·have v:∀k b,lo k=some b->b≠p:=λk b N z=>by
   obtain⟨D,_,q⟩:=r.st.at' k b N;exact q.rd.1 (by rw[z];exact C)
  unfold jS at i j;by_cases z:m=S.length
  ·rw[ai z]at i;cases i;by_cases y:n=S.length;·omega
   ·rw[ak y]at j;exact absurd rfl (v n _ j)
  ·rw[ak z]at i;by_cases y:n=S.length;·rw[ai y]at j;cases j;exact absurd rfl (v m _ i)
   ·rw[ak y]at j;exact r.st.inj m n a i j
 ·have M:S[0]?=some .mk:=by
   cases S with
   |nil=>have e:some c=some Cell.mk:=m;cases e;exact G.elim
   |cons d r=>exact m
  by_cases z:b=p
  ·rw[z]at t;exact absurd J (G.Bi t)
  ·rw[gY z]at t;exact⟨r.st.tl M b u t J,z⟩
 ·unfold jS at h;by_cases z:n=S.length;·rw[ai z]at h;cases h;exact .inr ⟨r.hf _ C,by rw[z];exact r.sz⟩
  ·rw[ak z]at h;exact r.nw n a h
def RZ.new(r:RZ K B f lo H I E S){p:Addr}{o:HO}{c:Cell}(a:H p=none)(no:NT o)(d:jO K (λb=>f b/\b≠p) (jS lo S.length p) (upd H p o) p c)(j:c≠.no):
    RZ K B (λb=>f b/\b≠p) (jS lo S.length p) (upd H p o) I E (S++[c]):=
 ⟨r.toEZ.new a no d j,r.len,λi z e=>let⟨v,h,g⟩:=r.vr i z e;⟨v,h,g.mv (qo a)<|nG r.st p⟩⟩
def EZ.write(r:EZ K B f lo H S){n}(g:lo n=some a)(no:NT o)(J:∀q,o≠jj a q)(i:jO K f lo (upd H a o) a c)(L:c≠.no):EZ K B f lo (upd H a o) (S.set n c)/\Xt f H f (upd H a o):=by
 obtain⟨M,G,k⟩:=r.st.at' n a g;have s:n<S.length:=(ar.mp G).1;have y:=r.st.na n a g;have x:Xt f H f (upd H a o):=λb u _ d e=>⟨d,by rw[gY λw=>y (by rw[<-w];exact d)];exact e⟩;refine⟨⟨λb u v h w=>?_,λb h=>?_,r.tt.upd k.rd.2.1 k.rd.2.2,λb h=>?_,⟨λm b h=>?_,λm j h w t=>?_,r.st.na,r.st.inj,λm b u d p=>?_⟩,r.lx,r.nw,r.bd,by rw[bp];exact r.sz,r.xt.trans x,r.sb⟩,x⟩
 ·have:=r.fr b u v h w;by_cases z:b=a
  ·subst z;rcases r.nw n b g with q|q;·exact absurd q (w n)
   ·rw[q.1]at h;cases h
  ·rw[gY z];exact this
 ·by_cases z:b=a;·rw[z,ix]at h;cases h
  ·rw[gY z]at h;exact r.hf b h
 ·by_cases z:b=a;·rw[z,ix]at h;cases h
  ·rw[gY z]at h;exact r.fresh b h
 ·by_cases z:n=m
  ·subst z;rw[g]at h;cases h;exact⟨c,aR s,i⟩
  ·obtain⟨j,e,q⟩:=r.st.at' m b h;refine⟨j,by rw[ax z];exact e,q.mv x .refl λu _ D=>?_⟩;rw[gY λw=>z (r.st.inj n m a g (by rw[<-w];exact h))];exact D
 ·by_cases z:n=m;·subst z;exact⟨a,g⟩
  ·rw[ax z]at h;exact r.st.has m j h w t
 ·have C:S[0]?=some .mk:=by
   by_cases z:n=0
   ·subst z;rw[aR s]at m;cases m;exact i.elim
   ·rw[ax z]at m;exact m
  by_cases z:b=a
  ·rw[z]at d;exact absurd p (i.Bi d)
  ·rw[gY z]at d;exact r.st.tl C b u d p
def RZ.write(r:RZ K B f lo H I E S){n:Nat}{a:Addr}{o:HO}{c:Cell}(d:lo n=some a)(no:NT o)(b:∀q,o≠jj a q)(g:jO K f lo (upd H a o) a c)(k:c≠.no):RZ K B f lo (upd H a o) I E (S.set n c)/\Xt f H f (upd H a o):=
 let⟨e,x⟩:=r.toEZ.write d no b g k
 ⟨⟨e,r.len,λi z e=>let⟨v,j,h⟩:=r.vr i z e;⟨v,j,h.mv x .refl⟩⟩,x⟩
end
inductive RX(α:Type) where
 |ok(a:α)(S:gR)|ex(c:Addr)(ns:List Str)(ds:List D)(S:gR)|bad
abbrev h8:=gU->gR->RX Z
abbrev jU:=List Z->gR->RX Z
noncomputable def RX.bind{d b:Type}:RX d->(d->gR->RX b)->RX b
 |.ok a S,f=>f a S
 |.ex c ns ds S,_=>.ex c ns ds S
 |.bad,_=>.bad
def ng{b:Type}(r:R b)(S:gR):RX b:=match r with
 |.ok a=>.ok a S
 |.ex c ns ds=>.ex c ns ds S
 |.bad=>.bad
def gZ{f:Type}(K:W.Frag)(B:Z0)(E:XK)(j:Addr->Prop)(lo:Lo)(H:Hp)(h:St)(i:gU)(r:RX f)(k:f->(Addr->Prop)->Lo->Hp->gR->Prop):Prop:=match r with
 |.ok x e=>∀a b d,RZ K B a b d h i e->Xt j H a d->Lx lo b->k x a b d e
 |.ex c ns ds e=>∀a b d g,EZ K B a b d e->XR K a d g ns ds->E (.ref c) g d
 |.bad=>False
section
variable{O T:Type}{K:W.Frag}{B:Z0}{E:XK}{l C:Addr->Prop}{lo A:Lo}{H I:Hp}{o:St}{j:gU}{S J:gR}{k U:O->(Addr->Prop)->Lo->Hp->gR->Prop}
def gZ.up(h:gZ K B E l lo H o j r k)(x:Xt l H C I)(y:Lx lo A):gZ K B E C A I o j r k:=by
 cases r with
 |ok a S=>exact λd b g z f e=>h d b g z (x.trans f) (y.trans e)
 |ex c i m S=>exact h
 |bad=>exact h
def gZ.mono{r:RX O}(h:gZ K B E l lo H o j r k)(m:∀x C A I J,RZ K B C A I o j J->Xt l H C I->Lx lo A->k x C A I J->U x C A I J):gZ K B E l lo H o j r U:=by
 cases r with
 |ok a S=>exact λd b g z f e=>m _ _ _ _ _ z f e (h d b g z f e)
 |ex c i n S=>exact h
 |bad=>exact h
def gZ.split{r:RX O}{g:O->gR->RX T}{k:T->(Addr->Prop)->Lo->Hp->gR->Prop}(h:gZ K B E l lo H o j (r.bind g) k):gZ K B E l lo H o j r (λx C A I J=>gZ K B E C A I o j (g x J) k):=by
 cases r with
 |ok a S=>exact λf e n z d b=>gZ.up h d b
 |ex c i m S=>exact h
 |bad=>exact h
def gZ.toAft{r:R O}(z:RZ K B l lo H o j S)(h:gZ K B E l lo H o j (ng r S) k):Aft K l E H r (λx I=>k x l lo I S):=by
 cases r with
 |ok a=>exact λd b=>h l lo d (z.grow b) (.of b) .refl
 |ex c f g=>exact λe d b q=>h l lo d e (z.toEZ.grow b) q
 |bad=>exact h
def ZE(X:Cx)(E:XK)(e:Expr)(f:h8):Prop:=∃t:TE,PE X e t/\
 ∀B l lo H o j S (Q:VK),RZ X.K B l lo H o j S->gZ X.K B E l lo H o j (f j S) (λz C A I _=>∀v,i6 X.K C A I v z->Q v I)->t o H Q
def ZT(X:Cx)(E:XK)(e:Expr)(f:gU->gR->RX Bool):Prop:=∃t:TT,PT X e t/\
 ∀B l lo H o j S (Q:Bool->Hp->Prop),RZ X.K B l lo H o j S->gZ X.K B E l lo H o j (f j S) (λb _ _ I _=>Q b I)->t o H Q
def ZA(X:Cx)(E:XK)(c:List Expr)(f:gU->gR->RX (List Z)):Prop:=∃t:TA,PA X c t/\
 (∀B l lo H o j S (Q:List V->Hp->Prop),RZ X.K B l lo H o j S->gZ X.K B E l lo H o j (f j S) (λa C A I _=>∀b,iW X.K C A I b a->Q b I)->t o H Q)/\∀j S a J,f j S=.ok a J->a.length=c.length
noncomputable def zD(f:g7):h8:=λj S=>(ng (f<|j8 j) S).bind λd S=>.ok (.d d) S
def zB(f:Ev->R Bool):gU->gR->RX Bool:=λj S=>ng (f<|j8 j) S
noncomputable def zV(i:Nat):h8:=λj S=>match j[i]? with
 |some (some z)=>.ok z S
 |_=>.bad
def kf:List Z->Option (List D)
 |[]=>some []
 |.d x::r=>(kf r).map (x:: ·)
 |_::_=>none
theorem qE:∀{b} {a},kf b=some a->b=a.map .d
 |[],_,h=>by cases h;rfl
 |.d x::r,a,h=>by obtain⟨t,d,c⟩:=aj.mp (show(kf r).map (x:: ·)=some a from h);subst c;rw[aE,<-qE d]
 |.loc _::_,_,h=>by cases h
theorem qF:∀a:List D,kf (a.map .d)=some a
 |[]=>rfl
 |d::r=>by show(kf<|r.map .d).map (d:: ·)=_;rw[qF r];rfl
def z2(g:D->D->R D)(a b:h8):h8:=λj S=>(a j S).bind λx e=>(b j e).bind λy c=>match x,y with
 |.d x,.d y=>(ng (g x y) c).bind λd S=>.ok (.d d) S
 |_,_=>.bad
def rT(t:D->R Bool)(a:h8):gU->gR->RX Bool:=λj S=>(a j S).bind λx b=>match x with
 |.d x=>ng (t x) b
 |_=>.bad
def oY(a b:gU->gR->RX Bool):gU->gR->RX Bool:=λj S=>(a j S).bind λk c=>if k=true then .ok true c else b j c
noncomputable def kc:gU->gR->RX (List Z):=λ_ S=>.ok [] S
def iU(a:h8)(r:gU->gR->RX (List Z)):gU->gR->RX (List Z):=λj S=>(a j S).bind λx d=>(r j d).bind λb c=>.ok (x::b) c
def zZ(F:jU)(a:gU->gR->RX (List Z)):h8:=λj S=>(a j S).bind F
variable{X:Cx}{e a b c:Expr}{N rest:List Expr}{pos:Pos}{f L P:h8}{M Y:gU->gR->RX Bool}{fs:gU->gR->RX (List Z)}
def iJ{f:g7}(h:DE X E e f):ZE X E e (zD f):=by obtain⟨t,p,r⟩:=h;refine⟨t,p,λB l lo H o j S Q z h=>r _ _ _ _ _ _ _ z.rs ?_⟩;have:=gZ.toAft z (gZ.split h);exact Aft.mono this λd n g m v i=>m l lo n (z.grow g) .refl .refl v i
def uT{f:Ev->R Bool}(h:DT X E e f):ZT X E e (zB f):=by obtain⟨t,p,r⟩:=h;exact⟨t,p,λB l lo H o j S Q z h=>r _ _ _ _ _ _ _ z.rs<|gZ.toAft z h⟩
def qv(i)(hN:X.N[i]?=some x:=by rfl)(m:oa X.env.scope x:=by first|exact Or.inl rfl|exact Or.inr (Or.inl rfl)|exact Or.inr (Or.inr rfl))(n:jc x:=by decide)
 (d:(x==("__classdict__":Str))=false:=by decide):ZE X E (.Name x pos) (zV i):=by
  refine⟨_,ui hN m n d,λB l lo H o j S Q z h=>?_⟩;unfold zV at h;split at h
  ·rename_i g q;obtain⟨v,r,p⟩:=z.vr i g q;exact⟨v,r,h l lo H z .refl .refl v p⟩
  ·exact h.elim
def QU{t:Operator}{g:D->D->R D}(ho:jz X E (binaryOp t) g)(ha:ZE X E a L)(hb:ZE X E b P):ZE X E (.BinOp a t b pos) (z2 g L P):=by
 obtain⟨r,ro,rr⟩:=ho;obtain⟨ta,pa,ra⟩:=ha;obtain⟨tb,pb,rb⟩:=hb;refine⟨_,BA ro pa pb,λB l lo H o j S Q s h=>ra _ _ _ _ _ _ _ _ s<|gZ.mono (gZ.split h) λx kA lo1 H1 S1 V x1 y1 h1 v rv=>rb _ _ _ _ _ _ _ _ V<|gZ.mono (gZ.split h1) λy q n H2 S2 i F z p u ru=>?_⟩;split at p;·exact rr _ _ _ _ _ _ _ i.fresh (i6.mv F z rv) ru (Aft.mono (gZ.toAft i<|gZ.split p) λd H3 G h3 w m=>h3 q n H3 (i.grow G) .refl .refl w m)
 ·exact p.elim
def Q7{n:CmpOp}{g:D->D->R D}(ho:jz X E (compareOp n) g)(ha:ZE X E a L)(hb:ZE X E b P)(hm:behindInMarks n b=false):ZT X E (.Compare a [n] [b] pos) (rT tB<|z2 g L P):=by
 obtain⟨r,ro,rr⟩:=ho;obtain⟨ta,pa,ra⟩:=ha;obtain⟨tb,pb,rb⟩:=hb;refine⟨_,B0 ro pa pb hm,λB l lo H o j S Q s h=>ra _ _ _ _ _ _ _ _ s<|gZ.mono (gZ.split<|gZ.split h) λx kA lo1 H1 S1 s1 x1 y1 h1 v rv=>rb _ _ _ _ _ _ _ _ s1<|gZ.mono (gZ.split h1) λy z p H2 S2 i V G t u ru=>?_⟩;split at t
 ·refine rr _ _ _ _ _ _ _ i.fresh (i6.mv V G rv) ru (Aft.mono (gZ.toAft i<|gZ.split t) λd H3 F h3 w m=>?_);have h4:=h3 z p H3 (i.grow F) .refl .refl;exact uu m (Aft.mono (gZ.toAft (i.grow F) h4) λ_ _ _ q=>q)
 ·exact t.elim
def ZW(X:Cx)(E:XK)(e:Expr)(f:gU->gR->RX Bool):Prop:=∃t:TT,PW X e t/\
 ∀B l lo H o j S (Q:Bool->Hp->Prop),RZ X.K B l lo H o j S->gZ X.K B E l lo H o j (f j S) (λb _ _ I _=>Q b I)->t o H Q
def ZW.zt(h:ZW X E e M):ZT X E e M:=let⟨t,p,r⟩:=h;⟨t,p.pt,r⟩
def Q8(h:ZT X E a M):ZW X E (.BoolOp .Or [a] pos) M:=let⟨t,p,r⟩:=h;⟨t,B3 p,r⟩
def Dw(u:ZT X E a M)(t:ZW X E (.BoolOp .Or (b::rest) pos) Y):ZW X E (.BoolOp .Or (a::b::rest) pos) (oY M Y):=by
 obtain⟨x,r,p⟩:=u;obtain⟨w,q,n⟩:=t;refine⟨_,B2 r q,λB l lo H o j S Q s h=>p _ _ _ _ _ _ _ _ s<|gZ.mono (gZ.split h) λc g d v y i _ _ m=>?_⟩;cases c with
 |true=>exact oF (m g d v i .refl .refl)
 |false=>exact oE (n _ _ _ _ _ _ _ _ i m)
def o4:ZA X E [] kc:=⟨_,nQ,λB l lo H o j S Q s h=>h l lo H s .refl .refl _ .nil,λ_ _ _ _ h=>by cases h;rfl⟩
def lH(ha:ZE X E e L)(hr:ZA X E N fs)(hs:X.se e N:=by rfl):ZA X E (e::N) (iU L fs):=by
 obtain⟨ta,pa,ra⟩:=ha;obtain⟨tb,pb,V,lb⟩:=hr;refine⟨_,mz pa pb hs,λB l lo H o j S Q s h=>ra _ _ _ _ _ _ _ _ s<|gZ.mono (gZ.split h) λx kA lo1 H1 g F x1 y1 h1 v G=>V _ _ _ _ _ _ _ _ F<|gZ.mono (gZ.split h1) λy n m H2 p D z w h2 u R=>?_,λj S t J h=>?_⟩;·exact h2 n m H2 D .refl .refl _ (.cons (G.mv z w) R)
 ·unfold iU at h;cases q:L j S with
  |bad=>rw[q]at h;cases h
  |ex c ns ds g=>rw[q]at h;cases h
  |ok x g=>
   rw[q]at h;have d:(fs j g).bind (λr p=>.ok (x::r) p)=RX.ok t J:=h;cases i:fs j g with
   |bad=>rw[i]at d;cases d
   |ex c ns ds g=>rw[i]at d;cases d
   |ok r p=>rw[i]at d;cases d;rw[ao,ao,lb _ _ _ _ i]
variable{x:Str}{p:Pos}
variable{k n:Nat}{ps:List Str}{F:gP}
end
def Dz(K:W.Frag)(B:Z0)(E:XK)(r:RX Z)(Q:VK):Prop:=match r with
 |.ok z e=>∀a b d v,EZ K B a b d e->i6 K a b d v z->Q v d
 |.ex c ns ds e=>∀a b d f,EZ K B a b d e->XR K a d f ns ds->E (.ref c) f d
 |.bad=>False
def mI(n:Nat)(K:W.Frag)(F:jU):Sp:=λd H Q E=>d.length=n/\jt K H/\∃b lo c S,(∀a,H a=none->b a)/\n8 K b lo H S/\iW K b lo H d c/\Dz K ⟨H,b,lo,S.length⟩ E (F c S) Q
def EZ.trans{lo}(r:EZ K B al lo H S)(q:EZ K ⟨H,al,lo,S.length⟩ kz rj H' S'):EZ K B kz rj H' S' where
 fr:=λb o n h w=>q.fr b o n (r.fr b o n h w) λm c=>by
  rcases r.nw m b c with z|z;·exact w m z
  ·rw[z.1]at h;cases h
 hf:=λb h=>r.hf b (q.hf b h)
 tt:=q.tt
 fresh:=q.fresh
 st:=q.st
 lx:=λn a h=>q.lx n a (r.lx n a h)
 nw:=λn a h=>by
  rcases q.nw n a h with z|z;·exact r.nw n a z
  ·exact .inr ⟨r.hf a z.1,aI r.sz z.2⟩
 bd:=r.bd
 sz:=aI r.sz q.sz
 xt:=r.xt.trans q.xt
 sb:=λa h=>by
  rcases q.sb a h with z|z;·exact r.sb a z
  ·exact .inr (r.hf a z)
def RZ.after{lo}(r:RZ K B al lo H σ ρ S)(q:EZ K ⟨H,al,lo,S.length⟩ kz rj H' S'):RZ K B kz rj H' σ ρ S':=
 ⟨r.toEZ.trans q,r.len,λi z e=>let⟨v,b,a⟩:=r.vr i z e;⟨v,b,a.mv q.xt q.lx⟩⟩
section
variable{X:Cx}{E:XK}{e:Expr}{J:List Expr}{pos p:Pos}{fs:gU->gR->RX (List Z)}{x:Str}{k n:Nat}{U:List Str}{F:jU}
def uQ(G:kW X.prog X.w X.K X.mg X.base (hZ X.prog X.w) k x U<|mI n X.K F)(Y:iR k X.A)(hg:Gl X x)(W:Passes (hZ X.prog X.w) X E)(hn:(e::J).length=n)(ha:ZA X E (e::J) fs)(u:jc x)
 (he:X.se e J)(t:X.bk pos J):ZE X E (.Call (.Name x p) (e::J) [] pos) (zZ F fs):=by
  obtain⟨ta,P,O,V⟩:=ha;refine⟨_,rz G Y hg W P u he t,λB al lo H K C S Q s h=>O _ _ _ _ _ _ _ _ s ?_⟩;unfold zZ at h;cases q:fs C S with
  |bad=>rw[q]at h;exact h.elim
  |ex c R ds i=>rw[q]at h;exact h
  |ok j i=>
   rw[q]at h;intro w o H1 f N L vs D;have T:=V _ _ _ _ q;have d:gZ X.K B E al lo H K C (F j i) (λz y r I _=>∀v,i6 X.K y r I v z->Q v I):=h;rw[aZ];refine⟨by rw[D.length,T];exact hn,f.tt,w,o,j,i,f.fresh,f.st,D,?_⟩;cases m:F j i with
   |bad=>rw[m]at d;exact d.elim
   |ex c R ds S2=>rw[m]at d;exact λb a A dx g M=>d b a A dx (f.toEZ.trans g) M
   |ok z S2=>rw[m]at d;exact λb a A v g l=>d b a A (f.after g) (N.trans g.xt) (L.trans g.lx) v l
inductive jI where
 |nx(ρ:gU)(S:gR)|rt(z:Z)(S:gR)|bk(ρ:gU)(S:gR)|ct(ρ:gU)(S:gR)|ex(c:Addr)(ns:List Str)(ds:List D)(S:gR)|bad
abbrev iI:=gU->gR->jI
noncomputable def toZ{b:Type}(r:RX b)(k:b->gR->jI):jI:=match r with
 |.ok a S=>k a S
 |.ex c ns ds S=>.ex c ns ds S
 |.bad=>.bad
def OK(r:jI)(k:iI):jI:=match r with
 |.nx a S=>k a S
 |r=>r
def i0(K:W.Frag)(B:Z0)(E:XK)(D:Ends)(h:Addr->Prop)(H:Hp):jI->Prop
 |.nx g S=>∀a b d f,Xt h H a d->RZ K B a b d f g S->D.nx f d
 |.bk g S=>∀a b d f,Xt h H a d->RZ K B a b d f g S->D.bk f d
 |.ct g S=>∀a b d f,Xt h H a d->RZ K B a b d f g S->D.ct f d
 |.rt z S=>∀a b d v,EZ K B a b d S->i6 K a b d v z->D.rt v d
 |.ex c ns ds S=>∀a b d i,EZ K B a b d S->XR K a d i ns ds->E (.ref c) i d
 |.bad=>False
variable{K:W.Frag}{B:Z0}{D:Ends}{A j:Addr->Prop}{lo:Lo}{H o:Hp}{s:jI}{C:St}{m:gU}
def i0.ext(h:i0 K B E D A H s)(x:Xt A H j o):i0 K B E D j o s:=by
 cases s with
 |nx m S=>exact λa l f b y r=>h a l f b (x.trans y) r
 |bk m S=>exact λa l f b y r=>h a l f b (x.trans y) r
 |ct m S=>exact λa l f b y r=>h a l f b (x.trans y) r
 |rt d S=>exact h
 |ex c g i S=>exact h
 |bad=>exact h
def i0.lZ{a:Type}{r:RX a}{k:a->gR->jI}(h:i0 K B E D A H<|toZ r k):gZ K B E A lo H C m r (λx j f o i=>i0 K B E D j o<|k x i):=by
 cases r with
 |ok x S=>exact λg d v q b l=>i0.ext h b
 |ex c t u S=>exact h
 |bad=>exact h
def ZS(X:Cx)(E:XK)(b:Nat)(a:Stmt)(g:iI):Prop:=∃t:TS,PS X a t/\
 ∀B:Z0,B.n=b->∀A lo H C m S (D:Ends),RZ X.K B A lo H C m S->i0 X.K B E D A H (g m S)->t D C H
def nu(X:Cx)(E:XK)(b:Nat)(a:List Stmt)(g:iI):Prop:=∃t:TS,lu X a t/\
 ∀B:Z0,B.n=b->∀A lo H C m S (D:Ends),RZ X.K B A lo H C m S->i0 X.K B E D A H (g m S)->t D C H
def oV:iI:=.nx
def il(a b:iI):iI:=λm S=>OK (a m S) b
def nZ(f:h8):iI:=λm S=>toZ (f m S) .rt
def iy(i:Nat)(f:h8):iI:=λm S=>toZ (f m S) λz a=>if i<m.length then .nx (m.set i<|some z) a else .bad
def ma(c:gU->gR->RX Bool)(a b:iI):iI:=λm S=>toZ (c m S) λk d=>if k=true then a m d else b m d
variable{b:Nat}{I:Stmt}{rest M L:List Stmt}{g u P O:iI}{c:Expr}{f:h8}{T:gU->gR->RX Bool}
def yy:nu X E b [] oV:=⟨_,BY,λB a A lo H C m S _ s h=>h A lo H C .refl s⟩
def mK(h:ZS X E b I g):nu X E b [I] g:=let⟨t,p,r⟩:=h;⟨t,BZ p,r⟩
def ji(Q:ZS X E b I g)(N:nu X E b rest u):nu X E b (I::rest) (il g u):=by
 obtain⟨V,G,y⟩:=Q;obtain⟨R,z,w⟩:=N;refine⟨_,BX G z,λB t A lo H C m S D s h=>y B t A lo H C m S _ s ?_⟩;unfold il at h;cases q:g m S with
 |nx a i=>rw[q]at h;exact λj r o l x v=>w B t j r o l a i D v (i0.ext h x)
 |bk a i=>rw[q]at h;exact h
 |ct a i=>rw[q]at h;exact h
 |rt d i=>rw[q]at h;exact h
 |ex c Y ds i=>rw[q]at h;exact h
 |bad=>rw[q]at h;exact h
def rV(q:ZE X E e f):ZS X E b (.Return (some e) pos) (nZ f):=by obtain⟨t,p,r⟩:=q;exact⟨_,BU p,λB Q A lo H C m S D s h=>r _ _ _ _ _ _ _ _ s<|gZ.mono (i0.lZ h) λz d a y R i N G w v l=>w d a y v i.toEZ l⟩
def jT(i:Nat){x:Str}{a:Pos}(hN:X.N.Nodup)(hi:X.N[i]?=some x)(N:Loc X.env.scope x)(R:ZE X E e f)(Q:swapsWith e (some<|.Name x a) pos.line X.env=pure false:=by rfl)(hf:X.hf x:=by first|exact .inl rfl|exact .inr rfl|assumption):
    ZS X E b (.Assign [.Name x a] e pos) (iy i f):=by
 obtain⟨t,p,r⟩:=R;refine⟨_,BV hN hi N p Q hf,λB hb A lo H C m S D s h=>r _ _ _ _ _ _ _ _ s<|gZ.mono (i0.lZ h) λz q l V S1 y x1 Y d v G=>?_⟩;by_cases w:i<m.length
 ·simp only[w,cB]at d;exact d q l V _ .refl (y.set w G)
 ·simp only[w,bC]at d;exact d.elim
def yx(z:ZT X E c T)(G:nu X E b M P)(a:nu X E b L O):ZS X E b (.If c M L pos) (ma T P O):=by
 obtain⟨V,t,l⟩:=z;obtain⟨ta,w,r⟩:=G;obtain⟨Y,v,q⟩:=a;refine⟨_,BS t w v,λB a A lo H C m S D s h=>l _ _ _ _ _ _ _ _ s<|gZ.mono (i0.lZ h) λk N y H1 S1 d R Q i=>?_⟩;cases k with
 |true=>exact oF (r _ a _ _ _ _ _ _ _ d i)
 |false=>exact oE (q _ a _ _ _ _ _ _ _ d i)
def rM(r:jI)(k:iI):jI:=match r with
 |.nx m S=>k m S
 |.ct m S=>k m S
 |.bk m S=>.nx m S
 |r=>r
def Qa{K:W.Frag}{B:Z0}{E:XK}{A:Addr->Prop}{H:Hp}{D:Ends}{r:jI}{k:iI}{N:St->Hp->Prop}(h:i0 K B E D A H<|rM r k)
    (hN:∀j i o a l q,Xt A H j o->RZ K B j i o a l q->i0 K B E D j o (k l q)->N a o):i0 K B E {D with nx:=N,ct:=N,bk:=D.nx} A H r:=by
 cases r with
 |nx m S=>exact λj i o a x s=>hN j i o a m S x s (i0.ext h x)
 |ct m S=>exact λj i o a x s=>hN j i o a m S x s (i0.ext h x)
 |bk m S=>exact h
 |rt d S=>exact h
 |ex c t v S=>exact h
 |bad=>exact h
end
def ZG(X:Cx)(i:Expr)(a:D->gU->Option gU):Prop:=∃g:TG,PG X i g/\
 ∀B e lo H f h S v d (Q:St->Hp->Prop),RZ X.K B e lo H f h S->Rep X.K e H v d->(∃c,a d h=some c/\∀b,RZ X.K B e lo H b c S->Q b H)->g v f H Q
def su(X:Cx)(i:List Expr)(a:List D->gU->Option gU):Prop:=∃g:n9,pe X i g/\
 ∀B e lo H f h S v d (Q:St->Hp->Prop),RZ X.K B e lo H f h S->gQ X.K e H v d->(∃c,a d h=some c/\∀b,RZ X.K B e lo H b c S->Q b H)->g v f H Q
def hV(i:Nat):D->gU->Option gU:=λd a=>if i<a.length then some (a.set i<|ic d)else none
def hN:List D->gU->Option gU:=λb a=>match b with
 |[]=>some a
 |_=>none
def hC(a:D->gU->Option gU)(b:List D->gU->Option gU):List D->gU->Option gU:=λe c=>match e with
 |d::r=>(a d c).bind (b r)
 |[]=>none
def hT(n:Nat)(a:List D->gU->Option gU):D->gU->Option gU:=λd b=>match d with
 |.tup ds=>if ds.length=n then a ds b else none
 |_=>none
def yh{b:Type}(r:Option b)(k:b->jI):jI:=match r with
 |some a=>k a
 |none=>.bad
def kL(a:D->gU->Option gU)(b:iI):List D->iI
 |[],e,S=>.nx e S
 |d::r,e,S=>yh (a d e) λc=>rM (b c S) (kL a b r)
section
variable{X:Cx}{E:XK}{b:Nat}{O l:Expr}{j:List Stmt}{M:Ev->R (List D)}{a:D->gU->Option gU}{L:iI}{pos:Pos}{e:Expr}{f:h8}
def nY(M:Ev->R (List D))(a:D->gU->Option gU)(L:iI):iI:=λc S=>toZ (ng (M<|j8 c) S) λd g=>kL a L d c g
def uR(i)(hN:X.N.Nodup)(hi:X.N[i]?=some x)(m:Loc X.env.scope x)(hf:X.hf x):ZG X (.Name x pos) (hV i):=by
 refine⟨_,uj hN hi m hf,λB o lo H n g S v d Q s k h=>?_⟩;obtain⟨c,e,q⟩:=h;unfold hV at e;by_cases z:i<g.length
 ·rw[ai z]at e;cases e;exact q _ (s.set z k)
 ·rw[ak z]at e;cases e
def QZ:su X [] hN:=by
 refine⟨_,BH,λB m lo H i k S v d Q s g h=>?_⟩;obtain⟨c,e,q⟩:=h;cases g with
 |nil=>cases e;exact⟨rfl,q _ s⟩
 |cons _ _=>cases e
def Dt{u}(z:ZG X e a)(y:su X es u)(x:(assignEach (e::es) X.env).map (·.2)=assign e X.env::(assignEach es X.env).map (·.2)):su X (e::es) (hC a u):=by
 obtain⟨J,w,r⟩:=z;obtain⟨I,t,p⟩:=y;refine⟨_,BG w t x,λB K lo H F G S v d Q s m h=>?_⟩;obtain⟨g,e,q⟩:=h;cases m with
 |nil=>cases e
 |cons o n=>obtain⟨c,C,A⟩:=az.mp e;exact⟨_,_,rfl,r _ _ _ _ _ _ _ _ _ _ s o ⟨c,C,λi k=>p _ _ _ _ _ _ _ _ _ _ k n ⟨g,A,q⟩⟩⟩
def QY{n u}(w:X.calm=true)(h:su X es u)(t:(assignEach es X.env).length=n)(g:(assignEach es X.env).findIdx? (·.1)=none):ZG X (.Tuple es k pos) (hT n u):=by
 obtain⟨G,r,p⟩:=h;refine⟨_,BF w r t g,λB I lo H C F S v d Q s o h=>?_⟩;obtain⟨c,e,q⟩:=h;unfold hT at e;cases d with
 |tup A=>
  by_cases z:A.length=n
  ·simp only[z,cB]at e;obtain⟨a,m,y,x,i⟩:=o.lg;exact⟨a,m,y,x,by rw[i.length];exact z,p _ _ _ _ _ _ _ _ _ _ s i ⟨c,e,q⟩⟩
  ·simp only[z,bC]at e;cases e
 |_=>cases e
def yw(hp:PassesOwn (model X.prog X.w) X.A X.env X.xe)(hc:X.calm=true)(hi:DI X E O l M)(hg:ZG X O a)(N:nu X E b j L)(hs:∀x,foldedSetIterable l X.env x=pure x):
    ZS X E b (.For O l j [] pos) (nY M a L):=by
 obtain⟨wi,pi,ri⟩:=hi;obtain⟨g,pg,rg⟩:=hg;obtain⟨tb,pb,rb⟩:=N;refine⟨_,BR hp hc pi pg pb hs,λB N al lo H σ U S D s h=>ri _ _ _ _ _ _ _ s.rs<|Aft.mono (gZ.toAft (k:=λn v F w T=>i0 X.K B E D v w<|kL a L n U T) s<|i0.lZ h) λn H1 s1 h1 J wk=>?_⟩;refine⟨λi m r A=>∃c o d z,RZ X.K B c o A r d z/\Wk X.K c A J n/\i0 X.K B E D c A (kL a L (n.drop i) d z)/\m=n.length - i,⟨_,al,lo,U,S,s.grow s1,wk,h1,rfl⟩,?_⟩
 rintro i m r A ⟨c,o,d,z,I,C,p,rfl⟩
 obtain⟨w1,w2⟩:=C c A .refl I.fresh;by_cases hi:i<n.length
 ·right;have ed:n[i]?=some n[i]:=au hi;obtain⟨go,Z⟩:=w1 i _ ed;rw[bZ hi]at p;refine⟨go,λt w=>∃c o d z,RZ X.K B c o w t d z/\Wk X.K c w J n/\i0 X.K B E D c w (kL a L (n.drop<|i+1) d z),λt w ⟨Q,K,u,S3,Y,z2,W⟩=>⟨n.length - (i+1),by omega,Q,K,u,S3,Y,z2,W,rfl⟩,λx H3 y=>?_⟩;obtain⟨rfl,rx⟩:=Z x H3 y;unfold kL at p;cases q:a n[i] d with
  |some u=>rw[q]at p;refine rg _ _ _ _ _ _ _ _ _ _ I rx ⟨u,q,λV s3=>rb _ N _ _ _ _ _ _ _ s3<|Qa (k:=kL a L<|n.drop<|i+1) p λv F w t G T x' s' h'=>⟨v,F,G,T,s',λP H4 x4=>C P H4<|x'.trans x4,h'⟩⟩
  |none=>rw[q]at p;exact p.elim
 ·left;have e:n.drop i=[]:=cu (by omega);rw[e]at p;exact⟨w2 i<|by omega,p c o A r .refl I⟩
def j9(n:Nat)(c:List Z):gU:=c.map some++List.replicate (n - c.length) none
noncomputable def jW:jI->RX Z
 |.rt z S=>.ok z S
 |.nx _ S=>.ok (.d .non) S
 |.ex c ns ds S=>.ex c ns ds S
 |_=>.bad
def Ow{c:Addr->Prop}{lo}(d:jt K H)(fr:∀a,H a=none->c a)(g:n8 K c lo H S)(r:iW K c lo H vs zs):RZ K ⟨H,c,lo,S.length⟩ c lo H (L2.start N vs) (j9 N.length zs) S where
 toEZ:=EZ.start (zs:=zs) d fr g
 len:=by unfold L2.start j9;simp[r.length]
 vr:=λi z h=>by
  unfold j9 at h;by_cases hi:i<zs.length
  ·rw[ag<|by simpa using hi,aB]at h;cases q:zs[i]? with
   |none=>rw[q]at h;cases h
   |some y=>rw[q]at h;cases h;obtain⟨v,m,k⟩:=r.get q;refine⟨v,?_,k⟩;unfold L2.start;rw[ag<|by simpa [r.length]using hi,aB,m];rfl
  ·rw[aC<|by simpa using hi,br]at h;split at h<;>cases h
variable{P:Program}{w:World}{K:W.Frag}{T:iw}{C:Heap}
def sY{x:Str}{m:Stmt}{f:Addr}{J:FuncData}{N v:List Str}{k:Nat}{g:Nat->iI}(F:iK K x x m f J)(S:i3 N v<|hY m)
    (j:∀(b:Nat) (i:Value) (A:Around) (d:List Env) (s:Shared) (H:Hp) (E:XK),iR k (iz (hZ P w) P w K T C N x (hY m) f i A d s H E).A->nu (iz (hZ P w) P w K T C N x (hY m) f i A d s H E) E b (jK m) (g b)):
    je P w K T C (k+1) f J v (mI v.length K λo S=>jW<|g S.length (j9 N.length o) S):=by
 refine F.wQ S (λI H Q E h=>h.1) (λi A d s H I Q E hr h=>?_);obtain⟨hl,Y,U,lo,o,n,fr,m,rv,h⟩:=h;obtain⟨t,p,r⟩:=j n.length i A d s H E hr;dsimp only at h;refine⟨t,p,r ⟨H,U,lo,n.length⟩ rfl U lo H (L2.start N I) (j9 N.length o) n _ (Ow Y fr m rv) ?_⟩;cases q:g n.length (j9 N.length o) n with
 |nx G u=>rw[q]at h;exact λB y H' V _ Z=>h B y H' .non Z.toEZ .non
 |rt z u=>rw[q]at h;exact h
 |ex c ns es u=>rw[q]at h;exact h
 |bk G u=>rw[q]at h;exact h.elim
 |ct G u=>rw[q]at h;exact h.elim
 |bad=>rw[q]at h;exact h.elim
variable{I:Stmt}
def qq(g:Ev->R (List D)):h8:=λd S=>(ng (g<|j8 d) S).bind λh c=>.ok (.loc c.length) (c++[.li<|h.map .d])
def Dr(m:DN X E e fn):ZE X E e (qq fn):=by obtain⟨t,p,r⟩:=m;refine⟨t,p,λB u lo H x y S Q s h=>r _ _ _ _ _ _ _ s.rs<|Aft.mono (gZ.toAft s<|gZ.split h) λq v i o p g d k=>?_⟩;have c:=s.grow i;have n:jO X.K (λb=>u b/\b≠p) (jS lo S.length p) (upd v p<|.lst g) p (.li<|q.map .d):=⟨g,ix,iW.mv (qo d) (nG c.st p)<|.ofD k⟩;exact o _ _ _ (c.new d kP n nofun) (qo d) (nG c.st p) _ ⟨p,by unfold jS;rw[ai rfl],rfl⟩
def Dv(i)(hN:X.N.Nodup)(hi:X.N[i]?=some x)(v:Loc X.env.scope x)(z:mh X E e fn)(y:swapsWith e (some<|.Name x pos') pos.line X.env=pure true)(hf:X.hf x):
    ZS X E b (.Assign [.Name x pos'] e pos) (iy i<|zD<|ig fn):=by
 obtain⟨t,_,p,r⟩:=z;refine⟨_,BW hN hi v p y hf,λB N n lo H J q S D s h=>r _ _ _ _ _ _ _ s.rs ?_⟩;have F:=gZ.toAft s (gZ.split<|i0.lZ h);refine Aft.mono (Aft.split F) λG Q m A p g d u=>?_;have k:=(s.grow m).grow (jG (K:=X.K) (o:=HO.lst g) d);have c:=A _ (jG (K:=X.K) (o:=HO.lst g) d) n lo _ k .refl .refl;dsimp only at c;by_cases w:i<q.length
 ·rw[ai w]at c;exact c _ _ _ _ .refl (k.set w<|show i6 X.K n lo _ (.ref p) (.d<|.lst G)from u.nH d ((s.grow m).fresh p d))
 ·rw[ak w]at c;exact c.elim
end
section
variable{X:Cx}{E:XK}{b:Nat}{e:Expr}{pos:Pos}{f:h8}
def rR(i:Nat)(f:h8):iI:=λa S=>match a[i]? with
 |some (some (.loc n))=>(match S[n]? with
  |some (.li _)=>toZ (f a S) λz d=>(match d[n]? with
   |some (.li c)=>if c.length<sizeLine then .nx a (d.set n<|.li<|c++[z])else .bad
   |_=>.bad)
  |_=>.bad)
 |_=>.bad
def RZ.cell{lo}(s:RZ K B al lo H σ ρ S){n}(g:lo n=some a)(h:S[n]?=some c):jO K al lo H a c:=by obtain⟨j,d,i⟩:=s.st.at' n a g;rw[h]at d;cases d;exact i
def Q5(i){d:Pos}(pa:PlainAttrs "list")(y:Slot "list" "append" "list.append")(I:typeOf (.builtin "list.append")=pure (.type "method_descriptor"))(he:ZE X E e f)
 (hN:X.N[i]?=some x:=by rfl)(hv:oa X.env.scope x:=by first|exact Or.inl rfl|exact Or.inr (Or.inl rfl)|exact Or.inr (Or.inr rfl))(hd:jc x:=by decide)
 (K:(x==("__classdict__":Str))=false:=by decide)
 (l:attributeBase (.Name x uh) "append" X.env (eval (.Name x uh) X.env)=eval (.Name x uh) X.env:=by rfl)
 (A:((backTo cpos (starEach [e] X.env)).all (λx=>!x.1)&&(backToKw cpos (keywordEach [] X.env)).all (λx=>x.1.isSome)
 &&decide ([e].length+([]:List Keyword).length+(if([]:List Keyword).isEmpty then 0 else 1)<30))=true:=by rfl)
 (k:(d.endLine==cpos.line)=true:=by rfl)(N:X.se e []:=by rfl)(g:(backTo cpos<|starEach [] X.env).any (·.1)=false:=by rfl)
 (J:swapsWith (.Call (.Attribute (.Name x uh) "append" d) [e] [] cpos) none pos.line X.env=pure false:=by rfl):
   ZS X E b (.Expr (.Call (.Attribute (.Name x uh) "append" d) [e] [] cpos) pos) (rR i f):=by
  obtain⟨t,p,r⟩:=he;refine⟨_,BQ (By pa y I tP (ui hN hv hd K) (mz p nQ N) l A k N g) J,λB L al lo H σ ρ S D s h=>?_⟩;unfold rR at h;split at h
  ·rename_i n q;split at h
   ·rename_i R q0;obtain⟨v,e1,a,O,rfl⟩:=s.vr i _ q;obtain⟨W,e2,e3⟩:=s.cell O q0;refine⟨_,e1,.inl ⟨rfl,W,.inl<|.inl e2⟩,r _ _ _ _ _ _ _ _ s<|gZ.mono (i0.lZ h) λz C lo1 Q S1 G x1 T m u Z=>?_⟩;split at m
    ·rename_i M q1;have j:=T n a O;obtain⟨F,g2,P⟩:=G.cell j q1;by_cases w:M.length<sizeLine
     ·rw[ai w]at m;have V:Xt C Q C (upd Q a (.lst (F++[u]))):=λb o _ L eb=>⟨L,by rw[gY λz=>G.st.na n a j (by rw[<-z];exact L)];exact eb⟩;obtain⟨Y,U⟩:=G.write j (o:=.lst (F++[u])) (c:=.li (M++[z])) kP (λq w=>by unfold jj at w;cases w) ⟨_,ix,iW.mv V .refl (P.append (.cons Z .nil))⟩ nofun;exact⟨a,F,u,rfl,rfl,g2,by rw[P.length];exact w,m _ _ _ _ U Y⟩
     ·rw[ak w]at m;exact m.elim
    ·exact m.elim
   ·exact h.elim
  ·exact h.elim
end
mutual
def kH:D->Bool
 |.lst _=>false
 |.tup ds=>rn ds
 |.exc _ _ _=>false
 |_=>true
def rn:List D->Bool
 |[]=>true
 |d::r=>kH d&&rn r
end
def rP(S:gR):Option Z->Sl
 |some (.d x)=>.sh x
 |some (.loc n)=>(match S[n]? with
  |some (.li a)=>(match kf a with
   |some b=>.sh (.lst b)
   |none=>.no)
  |_=>.no)
 |_=>.no
def vw(S:gR)(a:gU):Ev:=a.map (rP S)
variable{K:W.Frag}{B:Z0}{al:Addr->Prop}{lo:Lo}{H H':Hp}{σ:St}{ρ:gU}{S:gR}
def pz(al:Addr->Prop)(lo:Lo):Addr->Prop:=λa=>al a\/∃n,lo n=some a
def RZ.Ot(r:RZ K B al lo H σ ρ S):RS K (pz al lo) H (pz al lo) H σ (vw S ρ) where
 same:=.refl H
 tt:=r.tt
 fresh:=λa h=>.inl (r.fresh a h)
 sub:=λ_ h=>h
 pf:=λa h=>.inl (r.fresh a h)
 len:=by unfold vw;rw[aD];exact r.len
 sh:=λi d h=>by
  unfold vw at h;rw[aB]at h;obtain⟨z,c,b⟩:=aj.mp h;cases z with
  |none=>cases b
  |some z=>
   obtain⟨v,o,f⟩:=r.vr i z c;refine⟨v,o,?_⟩;cases z with
   |d x=>cases b;exact Rep.mv (.sub λ_ h=>.inl h) f
   |tk u=>cases b
   |loc n=>
    unfold rP at b;dsimp only at b;split at b
    ·rename_i s q;split at b
     ·rename_i g k;cases b;have:=qE k;subst this;obtain⟨a,e,rfl⟩:=f;obtain⟨t,m,l⟩:=r.cell e q;exact .lst (.inl ⟨.inr ⟨n,e⟩,.inl m⟩) (gQ.mv (.sub λ_ h=>.inl h) l.toD)
     ·cases b
    ·cases b
 ow:=λi g h=>by
  unfold vw at h;rw[aB]at h;obtain⟨z,c,b⟩:=aj.mp h;unfold rP at b;split at b;·cases b
  ·split at b;·split at b<;>cases b
   ·cases b
  ·cases b
 apart:=λi j g p a h _ _ _=>by
  unfold vw at h;rw[aB]at h;obtain⟨z,c,b⟩:=aj.mp h;unfold rP at b;split at b;·cases b
  ·split at b;·split at b<;>cases b
   ·cases b
  ·cases b
def Rep.kH(f:∀n a,lo n=some a->¬∃e,Rd H a<|.tup e){v d}(r:Rep K (pz al lo) H v d):P2.kH d=true->Rep K al H v d:=
 Rep.rec (motive_1:=λv d _=>P2.kH d=true->Rep K al H v d) (motive_2:=λv d _=>rn d=true->gQ K al H v d) (λ_=>.non) (λb _=>.bl b) (λb _=>.int b) (λb _=>.str b) (λb _=>.ty b) (λb _=>.ref b)
  (λp _ q h=>.tup (p.elim (λz=>.inl ⟨z.1.elim id λ⟨n,g⟩=>absurd ⟨_,.inl z.2⟩<|f n _ g,z.2⟩) .inr)<|q h) (λ_ _ _ h=>by cases h) (λ_ _ _ _ _ _ h=>by cases h) (λ_ _ h=>by cases h) (λ_=>.nil) (λ{_ d _ i} _ _ p q h=>by have c:(P2.kH d&&rn i)=true:=h;rw[aN]at c;exact .cons (p c.1) (q c.2)) r
def RZ.Bk(r:RZ K B al lo H σ ρ S):∀n a,lo n=some a->¬∃e,Rd H a (.tup e):=λn a f ⟨e,h⟩=>by
 obtain⟨c,_,q⟩:=r.st.at' n a f;cases c with
 |li i=>obtain⟨d,g,_⟩:=q;rcases h with h|⟨o,h⟩<;>(rw[g]at h;cases h)
 |ob C fs=>obtain⟨k,d,g,_⟩:=q;rcases h with h|⟨o,h⟩<;>(rw[g]at h;cases h)
 |dk b=>obtain⟨d,g,_⟩:=q;rcases h with h|⟨o,h⟩<;>(rw[g]at h;cases h)
 |dt b=>obtain⟨d,g,_⟩:=q;rcases h with h|⟨o,h⟩<;>(rw[g]at h;cases h)
 |ft b=>obtain⟨d,j,g,_⟩:=q;rcases h with h|⟨o,h⟩<;>(rw[g]at h;cases h)
 |no=>exact q
 |mk=>exact q
def zR(f:g7):h8:=λρ S=>match f (vw S ρ)with
 |.ok d=>if kH d=true then .ok (.d d) S else .bad
 |_=>.bad
variable{X:Cx}{E:XK}{b:Nat}{e:Expr}{pos:Pos}
def QV(h:DE X E e f):ZE X E e (zR f):=by
 obtain⟨t,p,r⟩:=h;refine⟨t,p,λB al lo H σ ρ S Q z h=>r _ _ _ _ _ _ _ z.Ot ?_⟩;unfold zR at h;cases q:f (vw S ρ)with
 |bad=>rw[q]at h;exact h.elim
 |ex c j k=>rw[q]at h;exact h.elim
 |ok d=>
  rw[q]at h;dsimp only at h;by_cases w:kH d=true
  ·rw[ai w]at h;exact λi a v g=>h al lo i (z.grow a) (.of a) .refl v (Rep.kH (z.grow a).Bk g w)
  ·rw[ak w]at h;exact h.elim
def qi(n:Nat)(d:D):Option Z->Option Z
 |some (.loc m)=>if m=n then ic d else h9 m
 |o=>o
def kE(n:Nat):Z->Bool
 |.loc m=>decide (m=n)
 |_=>false
def kh(n:Nat):Cell->Bool
 |.li zs=>zs.any (kE n)
 |.ob _ fs=>fs.any λp=>kE n p.2
 |.dk a=>a.any λp=>kE n p.2
 |.dt a=>a.any λp=>kE n p.2
 |.ft a=>a.any λp=>kE n p.2
 |.no=>false
 |.mk=>false
def tf(b i:Nat)(ρ:gU)(S:gR):Option (gU×gR):=match ρ[i]? with
 |some (some (.loc n))=>(match S[n]? with
  |some (.li a)=>(match kf a with
   |some c=>if b<=n/\(S.any<|kh n)=false then some (ρ.map<|qi n<|.lst c,S.set n .no)else none
   |none=>none)
  |_=>none)
 |some _=>some (ρ,S)
 |none=>none
variable{Dx:gU}{S':gR}
def i6.out{f:Addr->Prop}{c:Lo}{n:Nat}(x:Xt al H f H)(y:∀m a,m≠n->lo m=some a->c m=some a){v:V}{z:Z}(r:i6 K al lo H v z)(h:kE n z=false):i6 K f c H v z:=by
 cases z with
 |d d=>exact Rep.mv x r
 |loc m=>obtain⟨a,i,g⟩:=r;exact⟨a,y m a (by simpa [kE]using h) i,g⟩
 |tk j=>obtain⟨a,i,g,k⟩:=r;obtain⟨o,l⟩:=x a (.tup<|j.map kV) (λ_ h=>nomatch h) i g;exact⟨a,o,l,k⟩
def iW.out{d:Addr->Prop}{c:Lo}{n:Nat}(x:Xt al H d H)(y:∀m a,m≠n->lo m=some a->c m=some a){g:List V}{f:List Z}(r:iW K al lo H g f)(h:f.any (kE n)=false):iW K d c H g f:=by
 induction r with
 |nil=>exact .nil
 |cons a _ i=>rw[cG,gg]at h;exact .cons (a.out x y h.1) (i h.2)
def i4.out{g:Type}{d:Addr->Prop}{c:Lo}{n:Nat}(x:Xt al H d H)(y:∀m a,m≠n->lo m=some a->c m=some a){i:List<|g×V}{f:List<|g×Z}(r:i4 K al lo H i f)(h:(f.any λp=>kE n p.2)=false):i4 K d c H i f:=by
 induction r with
 |nil=>exact .nil
 |cons a _ j=>rw[cG,gg]at h;exact .cons (a.out x y h.1) (j h.2)
def jO.out{k:Addr->Prop}{i:Lo}{n:Nat}(x:Xt al H k H)(y:∀m a,m≠n->lo m=some a->i m=some a){a:Addr}{c:Cell}(r:jO K al lo H a c)(h:kh n c=false):jO K k i H a c:=by
 cases c with
 |li q=>obtain⟨l,f,d⟩:=r;exact⟨l,f,d.out x y h⟩
 |ob C fs=>obtain⟨p,g,f,d⟩:=r;exact⟨p,g,f,d.out x y h⟩
 |dk j=>obtain⟨g,f,d⟩:=r;exact⟨g,f,d.out x y h⟩
 |dt j=>obtain⟨g,f,d⟩:=r;exact⟨g,f,d.out x y h⟩
 |ft j=>obtain⟨g,o,f,d⟩:=r;exact⟨g,o,f,d.out x y h⟩
 |no=>exact r
 |mk=>exact r
def RZ.freeze(r:RZ K B al lo H σ ρ S)(h:tf B.n i ρ S=some (Dx,S')):∃t s,RZ K B t s H σ Dx S'/\Xt al H t H/\∀n,ρ[i]?=some (h9 n)->∀m a,m≠n->lo m=some a->s m=some a:=by
 unfold tf at h;split at h
 ·rename_i n q;split at h
  ·rename_i zs N;split at h
   ·rename_i ds T;split at h
    ·rename_i w;cases h;obtain⟨v,e1,a,G,rfl⟩:=r.vr i _ q;have:=qE T;subst this;obtain⟨vs,g1,g2⟩:=r.cell G N;have Q:n<S.length:=(ar.mp N).1;have x:Xt al H (λb=>al b\/b=a) H:=λb o _ l e=>⟨.inl l,e⟩;have hB:B.H a=none:=by
      rcases r.nw n a G with z|z;·exact absurd (r.bd n a z) (by omega)
      ·exact z.1
     refine⟨λb=>al b\/b=a,λm=>if m=n then none else lo m,?_,x,λn' e m b f l=>?_⟩;rotate_left;·rw[q]at e;cases e;dsimp only;rw[ak f];exact l
     have y:∀m b,m≠n->lo m=some b->(λm=>if m=n then none else lo m) m=some b:=λm b f h=>by dsimp only;rw[ak f];exact h
     have g:∀m b,(if m=n then none else lo m)=some b->m≠n/\lo m=some b:=λm b h=>by
      by_cases z:m=n;·rw[ai z]at h;cases h
      ·rw[ak z]at h;exact⟨z,h⟩
     have cl:∀c∈S,kh n c=false:=λc I=>by have:=bM.mp w.2 c I;simpa using this
     refine {fr:=r.fr,hf:=r.hf,tt:=r.tt,fresh:=λb l=>.inl<|r.fresh b l,st:=⟨λm b f=>?_,λm c f I L=>?_,λm b f l=>?_,λm O b h1 h2=>?_,λm b u l hu=>.inl<|r.st.tl ?_ b u l hu⟩,lx:=λm b f=>?_,nw:=λm b f=>r.nw m b (g m b f).2,bd:=r.bd,sz:=by rw[bp];exact r.sz,xt:=r.xt.trans x,sb:=λb l=>?_,len:=by rw[aD];exact r.len,vr:=λj z P=>?_}
     ·obtain⟨J,z2⟩:=g m b f;obtain⟨c,F,p⟩:=r.st.at' m b z2;exact⟨c,by rw[ax (cA J)];exact F,p.out x y (cl c (aM F))⟩
     ·by_cases z:n=m
      ·subst z;rw[aR Q]at f;cases f;exact absurd rfl I
      ·rw[ax z]at f;obtain⟨b,k⟩:=r.st.has m c f I L;exact⟨b,by show(if m=n then none else lo m)=some b;rw[ak<|cA z];exact k⟩
     ·obtain⟨J,z2⟩:=g m b f;rcases l with l|rfl;·exact r.st.na m b z2 l
      ·exact J (r.st.inj m n _ z2 G)
     ·exact r.st.inj m O b (g m b h1).2 (g O b h2).2
     ·by_cases z:n=0
      ·subst z;rw[aR Q]at m;cases m
      ·rw[ax z]at m;exact m
     ·have:=r.bd m b f;show(if m=n then none else lo m)=some b;rw[ak<|by omega];exact r.lx m b f
     ·rcases l with l|rfl;·exact r.sb b l
      ·exact .inr hB
     ·rw[aB]at P;obtain⟨o,F,p⟩:=aj.mp P;cases o with
      |none=>cases p
      |some M=>
       obtain⟨u,U,C⟩:=r.vr j M F;refine⟨u,U,?_⟩;cases M with
       |d x0=>cases p;exact Rep.mv x C
       |tk V=>cases p;obtain⟨R,j1,j2,Y⟩:=C;obtain⟨i1,i2⟩:=x R (.tup<|V.map kV) (λ_ h=>nomatch h) j1 j2;exact⟨R,i1,i2,Y⟩
       |loc m=>
        have p:(if m=n then some (Z.d<|.lst ds)else some (Z.loc m))=some z:=p;by_cases A:m=n
        ·rw[ai A]at p;cases p;obtain⟨b,D,rfl⟩:=C;rw[A,G]at D;cases D;exact .lst (.inl ⟨.inr rfl,.inl g1⟩) (gQ.mv x g2.toD)
        ·rw[ak A]at p;cases p;obtain⟨b,D,rfl⟩:=C;exact⟨b,by dsimp only;rw[ak A];exact D,rfl⟩
    ·cases h
   ·cases h
  ·cases h
 ·cases h;exact⟨al,lo,r,.refl,λ_ _ _ _ _ h=>h⟩
 ·cases h
end P2
namespace L2
open PySem PySem.Spec PyProof.Rows
section
variable{a:Type}[DecidableEq a]
def jZ(c:List<|a×V)(k:a):Option V:=(c.find? λd=>decide<|d.1=k).map (·.2)
def putK(c:List<|a×V)(k:a)(v:V):List (a×V):=
 if(c.any λd=>decide<|d.1=k)=true then c.map (λd=>if d.1=k then(d.1,v)else d)else c++[(k,v)]
def CU{p:a×V}(e:p.1=k):jZ (p::r) k=some p.2:=by simp[jZ,cX,e]
def CT{p:a×V}(e:¬p.1=k):jZ (p::r) k=jZ r k:=by simp[jZ,cX,e]
theorem CS(k):∀c:List (a×V),(c.any λd=>decide<|d.1=k)=(jZ c k).isSome
 |[]=>rfl
 |p::r=>by
  rw[cG];by_cases e:p.1=k;·simp only[CU e,aV e,Bool.true_or,Option.isSome_some]
  ·rw[CT e,aW e,Bool.false_or];exact CS k r
def wB(c:List<|a×V)(k:a)(v:V):(putK c k v).length<=c.length+1:=by
 unfold putK;split;·rw[aD];omega
 ·rw[aq,ao,fU];omega
def nr.Hx{u}(r:nr o u):o.isSome=u.isSome:=by
 cases o with
 |none=>cases u with
  |none=>rfl
  |some _=>exact(show False from r).elim
 |some _=>cases u with
  |none=>exact(show False from r).elim
  |some _=>rfl
def KV.any{c:List<|a×V}{f:List<|a×Value}(r:KV c f)(k:a):(c.any λd=>decide<|d.1=k)=f.any λd=>decide (d.1=k):=by
 unfold KV at r;induction r with
 |nil=>rfl
 |cons h t g=>rw[cG,cG,g,h.1]
def KV.xq(r:KV kvs vs)(k:a){u}(f:RelV y u):
    KV (kvs.map λc=>if c.1=k then(c.1,y)else c) (vs.map λc=>if c.1=k then(c.1,u)else c):=by
 unfold KV at r⊢;induction r with
 |nil=>exact .nil
 |@cons p q l j h t g=>
  rw[aE,aE];refine .cons ?_ g;obtain⟨d,i⟩:=h;by_cases e:p.1=k;·rw[ai e,ai<|d.symm.trans e];exact⟨d,f⟩
  ·rw[ak e,ak<|λz=>e<|d.trans z];exact⟨d,i⟩
def KV.put{c:List<|a×V}{d:List<|a×Value}(r:KV c d)(k:a){y:V}{u:Value}(f:RelV y u):KV (putK c k y) (stored d k u):=by
 unfold putK stored;rw[r.any k];by_cases e:(d.any λg=>decide<|g.1=k)=true;·rw[ai e,ai e];exact r.xq k f
 ·rw[ak e,ak e];exact Paired.snoc r ⟨rfl,f⟩
def KV.length(r:KV kvs vs):kvs.length=vs.length:=Paired.length r
end
def tJ{w u}(r:RelV (kV k) u):(jk P w).is k u=true:=by
 cases k with
 |inl i=>obtain⟨t,e⟩:=(show∃t,u=Value.int i t from r);subst e;exact Jg P w i t
 |inr x=>obtain⟨t,e⟩:=(show∃t,u=Value.str x t from r);subst e;exact Jh P w x t
theorem wg{w}:∀{a:List Key} {c},Vals (a.map kV) c->ItemsAre (jk P w) a c
 |[],_,r=>by rw[cg]at r;cases r;exact .nil
 |k::a,_,r=>by
  rw[aE]at r;cases r with
  |cons h t=>exact .cons (tJ h) (wg t)
abbrev KT(H:Hp):List (List Key×V)->List (List Key×Addr×Value)->Prop:=Paired λp q=>p.1=q.1/\H q.2.1=some (.tup<|p.1.map kV)/\RelV p.2 q.2.2
def KT.val(r:KT H kvs xs)(k):nr (jZ kvs k) ((atKey xs k).map (·.2)):=by
 induction r with
 |nil=>exact True.intro
 |@cons p q i a h t f=>
  obtain⟨d,_,g⟩:=h;by_cases e:p.1=k
  ·have c:q.1=k:=d.symm.trans e;have b:atKey (q::a) k=some q.2:=by simp[atKey,cX,c]
   rw[CU e,b];exact g
  ·have c:¬q.1=k:=λz=>e (d.trans z);have b:atKey (q::a) k=atKey a k:=by simp[atKey,cX,c]
   rw[CT e,b];exact f
def KT.xq(r:KT H kvs xs)(k:List Key){u}(f:RelV y u):
    KT H (kvs.map λc=>if c.1=k then(c.1,y)else c) (xs.map<|putAt k u):=by
 induction r with
 |nil=>exact .nil
 |@cons p q l j h t g=>
  rw[aE,aE];refine .cons ?_ g;obtain⟨a,d,i⟩:=h;unfold putAt;by_cases e:p.1=k;·rw[ai e,ai<|a.symm.trans e];exact⟨a,d,f⟩
  ·rw[ak e,ak<|λz=>e<|a.trans z];exact⟨a,d,i⟩
def KT.put(r:KT H kvs xs)(k:List Key){u}(d:H b=some (.tup<|k.map kV))(a:RelV y u):
    KT H (putK kvs k y) (storedH xs k b u):=by
 have e:(kvs.any λc=>decide<|c.1=k)=(atKey xs k).isSome:=by rw[CS,(r.val k).Hx,Option.isSome_map]
 unfold putK storedH;rw[e];by_cases q:(atKey xs k).isSome=true;·rw[ai q,ai q];exact r.xq k a
 ·rw[ak q,ak q];exact Paired.snoc r ⟨rfl,d,a⟩
def KT.keeps{H':Hp}(r:KT H kvs xs)(c:∀b a,H b=some (.tup a)->H' b=some (.tup a)):KT H' kvs xs:=
 Paired.wI r λ_ _ z=>⟨z.1,c _ _ z.2.1,z.2.2⟩
section
variable{P:Program}{w:World}{H:Hp}{h:Heap}{a:Addr}
def Cf{u}(ok:iL P w H h)(e:Rd H a u):iY P w H h a u:=e.ok ok
def zL(ok:iL P w H h)(e:Rd H a<|.dK kvs):kvs.length<=sizeLine/\(a==sysModules)=false/\∃c,KV kvs c/\h.DictOf (jk P w) a c:=
 show iY P w H h a (.dK kvs)from Cf ok e
def FK(ok:iL P w H h)(e:H a=some (.dK kvs)):kvs.length<=sizeLine/\(a==sysModules)=false/\∃c,KV kvs c/\h.DictOf (jk P w) a c:=zL ok (.inl e)
def wm{c:List Key}(ok:iL P w H h)(e:H a=some (.tup (c.map kV))):(tupleKind (jk P w)).is h c a:=by obtain⟨_,d,r,o,i,g,n,f⟩:=(show iY P w H h a (.tup<|c.map kV)from ok a _ e);exact⟨o,d.toArray,n,i,g,f,by simpa using wg r⟩
def vP(ok:iL P w H h)(e:Rd H a<|.dT kvs):kvs.length<=sizeLine/\(a==sysModules)=false/\
    ∃d,KT H kvs d/\h.DictOfH (tupleKind<|jk P w) a d:=by
 obtain⟨z,y,d,r,o,u,v,s,n,k,j,i⟩:=(show iY P w H h a (.dT kvs)from Cf ok e);refine⟨z,y,d,r,o,u,v,s,n,k,j,λx c=>?_,i⟩;have all:∀{l:List<|List Key×V} {m:List<|List Key×Addr×Value},KT H l m->∀x∈m,(tupleKind<|jk P w).is h x.1 x.2.1:=by
  intro l m q;induction q with
  |nil=>intro x c;exact nomatch c
  |@cons p q C A f t g=>
   intro x c;rcases aF.mp c with e|c
   ·subst e;exact wm ok (by rw[<-f.1];exact f.2.1)
   ·exact g x c
 exact all r x c
def vO(ok:iL P w H h)(e:H a=some (.dT kvs)):kvs.length<=sizeLine/\(a==sysModules)=false/\
    ∃c,KT H kvs c/\h.DictOfH (tupleKind<|jk P w) a c:=vP ok (.inl e)
end
def rX(H:Hp)(a:Addr)(y v:V)(H':Hp):Prop:=
 (∃c k,H a=some (.dK c)/\y=kV k/\c.length<sizeLine/\H'=upd H a (.dK<|putK c k v))\/
 ∃c k b,H a=some (.dT c)/\y=.ref b/\H b=some (.tup<|k.map kV)/\c.length<sizeLine/\H'=upd H a (.dT<|putK c k v)
def rX.t{H:Hp}{k:List Key}{v}(e:H a=some (.dT kvs))(d:H b=some (.tup<|k.map kV))(c:kvs.length<sizeLine):
    rX H a (.ref b) v (upd H a<|.dT<|putK kvs k v):=.inr ⟨kvs,k,b,e,rfl,d,c,rfl⟩
section
variable{X:Cx}{j:List<|Addr×Obj}{m:St}{H:Hp}{s:Shared}{a:Addr}{y v:V}{u r:Value}{o:Option V}{A:Around}{E:ia}
def Inv.big(I:Inv X j m H s):sysModules<s.heap.objs.size:=by have h:mainGlobals<s.heap.objs.size:=(I.mod.glob.keeps I.bk).lt;exact fL (by decide) h
def vH{c:Nat}(I:Inv X j m H s)(d:qB<|H a)(f:Heap.SameBut a s.heap h')(g:∃q,h'.get? a=some q)(new:iY X.prog X.w (upd H a ob) h' a ob):
    Inv X j m (upd H a ob) {s with heap:=h',toks:=c}:=
 I.write (x:=a) (e:=a) d (.inl rfl) (λb q h z=>(f.2 b h).trans z) g new
def FJ{w}{f:Heap}{c:List<|Key×V}(z:c.length<=sizeLine)(g:(a==sysModules)=false)(d:KV c vs)(dd:f.DictOf (jk P w) a vs):
    iY P w H' f a (.dK c):=⟨z,g,vs,d,dd⟩
def Fo{H':Hp}{Q:Unit->Shared->Prop}(R:A.units+1<cLine)(I:Inv X j m H s)(g:rX H a y v H')(G:RelV y u)(J:RelV v r)(h:∀F,Inv X j m H' F->Q () F):
    wpAny (model X.prog X.w) A (setItem (.ref a) u r) Q E s:=by
 rcases g with⟨f,k,e,C,l,D⟩|⟨f,k,b,e,C,N,l,D⟩
 ·subst C D;obtain⟨z,x,P,d,dd⟩:=FK I.hok e;have p:P.length<=sizeLine:=by rw[<-d.length];exact z
  have w:(putK f k v).length<=sizeLine:=by have:=wB f k v;omega
  refine wpAny_setItem_pairs (hsz:=p) (tJ G) dd λL i t=>h _ ?_;have T:∃q,L.get? a=some q:=let⟨q,_,_,n,_⟩:=i;⟨q,n⟩;exact vH I (by rw[e];exact True.intro) t T (FJ w x (d.put k J) i)
 ·subst C D;cases(show u=Value.ref b from G);obtain⟨z,x,O,d,dd⟩:=vO I.hok e;have p:O.length<=sizeLine:=by rw[<-Paired.length d];exact z
  have w:(putK f k v).length<=sizeLine:=by have:=wB f k v;omega
  refine wpAny_setItem_heap (hsz:=p) (eM R) (wm I.hok N) dd λL i t=>h _ ?_;obtain⟨q,es,ep,n,h2,Z,Y,_,U⟩:=i;refine vH I (by rw[e];exact True.intro) t ⟨q,n⟩ ⟨w,x,_,(d.put k N J).keeps λc ys M=>?_,q,es,ep,n,h2,Z,Y,U⟩;rw[gY<|Bj M e<|λz=>nomatch z];exact M
def vd(i:Expr):Prop:=∀c d,subscripted i false c d=operate [c,d] (getItem c d)
def Pd{c:Program}{w:World}{A:Around}{E:ia}{s:Shared}{q:Env}{f d:Expr}{pos:Pos}{T C:String}{Q:ia}
    (F:typeLookup (.type T) "__getitem__"=pure (some<|.builtin C))(D:vd d)
    (h:wpAny (model c w) A (eval f q) (λo n=>wpAny (model c w) A (eval d q) (λi g=>g.TypeIs o T/\wpAny (model c w) A (getItem o i) Q E g) E n) E s):
    wpAny (model c w) A (eval (.Subscript f d pos) q) Q E s:=by
 refine Subscript_ (aS h (λo n z=>aS z (λi g k=>?_) λ_ _ x=>x) λ_ _ x=>x);obtain⟨hT,k⟩:=k;unfold subscriptTail;refine aa ?_;rw[getitemInPython_of_ne hT.not_modules];refine aa (fV hT F ?_);have p:wpAny (model c w) A (subscripted d false o i) (λr l=>wpAny (model c w) A (letTemporaryGo f o r>>=λ_=>pure r) Q E l) E g:=by rw[D o i];exact wpAny_operating (aS k (λr l t=>aa<|wpAny_letTemporaryGo<|af t) λ_ _ x=>x)
 first
  |exact af (aa p)
  |exact aa (af<|aa p)
  |exact aa p
def Ox(f ty d:TE):TS:=λD m H=>d m H λv i=>f m i λx h=>ty m h λy g=>∃a c,x=.ref a/\rX g a y v c/\D.nx m c
variable{o i e f:Expr}{pos p F:Pos}{C ty B:TE}
def Lh(J:X.A.units+1<cLine)(M:PE X o C)(hi:PE X i ty)(G:PE X f B)(L:swapsWith f (some<|.Subscript o i p) pos.line X.env=pure false):
    PS X (.Assign [.Subscript o i p] f pos) (Ox C ty B):=by
 intro j s m H D I h;refine wpAny_Assign_Subscript (g8 (G j s m H _ I h) λr k c=>?_) L;obtain⟨v,U,Q,q,z⟩:=c;refine g8 (M j k m U _ Q z) λu d c=>?_;obtain⟨x,T,P,n,w⟩:=c;refine g8 (hi j d m T _ P w) λiv Z c=>?_;obtain⟨y,H3,O,l,a,R,ex,g,t⟩:=c;subst ex;obtain rfl:u=Value.ref a:=n;exact Fo J O g l q λY N=>⟨m,R,N,t⟩
end
def FX{w}(h:Heap)(a:sysModules<h.objs.size):iY P w H (h.push {cls:=.type "dict",data:=.dict #[]}) h.objs.size (.dT []):=
 ⟨bD _,beq_eq_false_iff_ne.mpr<|cA<|aO a,[],.nil,_,#[],0,aw _ rfl,⟨rfl,rfl,rfl⟩,rfl,rfl,List.nodup_nil⟩
def Ph:TE:=λ_ H Q=>∀p,H p=none->Q (.ref p) (upd H p<|.dT [])
section
variable{X:Cx}{pos:Pos}
def KH:PE X (.Dict [] [] pos) Ph:=λc s σ H Q I h=>wpAny_Dict_empty ⟨.ref s.heap.objs.size,_,I.laid (a:=s.heap.objs.size) (o:=.dT []) (t':=s.toks) (λ_ _ q=>ae _ q) (ah _)<|FX s.heap I.big,rfl,h _<|I.hok.fresh<|ah _⟩
end
structure M1(X:Cx)(o:Expr)(m:Str)(apos:Pos)(e:Expr)(cpos:Pos):Prop where
 base:attributeBase o m X.env (eval o X.env)=eval o X.env
 few:((backTo cpos (starEach [e] X.env)).all (λx=>!x.1)&&(backToKw cpos (keywordEach [] X.env)).all (λx=>x.1.isSome)
  &&decide (([e]:List Expr).length+([]:List Keyword).length+(if([]:List Keyword).isEmpty then 0 else 1)<30))=true
 line:(apos.endLine==cpos.line)=true
 trees:backTo cpos (starEach [e] X.env)=[(false,eval e X.env)]
structure M2(X:Cx)(o:Expr)(m:Str)(apos:Pos)(e f:Expr)(cpos:Pos):Prop where
 base:attributeBase o m X.env (eval o X.env)=eval o X.env
 few:((backTo cpos (starEach [e,f] X.env)).all (λx=>!x.1)&&(backToKw cpos (keywordEach [] X.env)).all (λx=>x.1.isSome)
  &&decide (([e,f]:List Expr).length+([]:List Keyword).length+(if([]:List Keyword).isEmpty then 0 else 1)<30))=true
 line:(apos.endLine==cpos.line)=true
 trees:backTo cpos (starEach [e,f] X.env)=[(false,eval e X.env),(false,eval f X.env)]
def yF(H:Hp)(a:Addr):Prop:=(∃c,Rd H a<|.dK c)\/∃c,Rd H a (.dT c)
def Ht(I:Inv X pins σ H s)(d:yF H a):
    s.TypeIs (.ref a) "dict"/\(∀b,Value.ref a=.ref b->∃ob,s.heap.get? b=some ob/\ob.dict=none)/\(a==sysModules)=false:=by
 rcases d with⟨c,e⟩|⟨c,e⟩
 ·obtain⟨_,f,j,_,dd⟩:=zL I.hok e;refine⟨dd.typeIs,λb q=>?_,f⟩;cases q;obtain⟨ob,_,_,h,g,_⟩:=dd;exact⟨ob,h,g.2.1⟩
 ·obtain⟨_,f,i,_,dd⟩:=vP I.hok e;refine⟨dd.typeIs,λb q=>?_,f⟩;cases q;obtain⟨ob,_,_,h,g,_⟩:=dd;exact⟨ob,h,g.2.1⟩
end L2
namespace P2
open PySem L2
section
variable{b:Type}[DecidableEq b]{K:W.Frag}{c:Addr->Prop}{lo:Lo}{H:Hp}
def valZ(a:List<|b×Z)(k:b):Option Z:=(a.find? λd=>decide<|d.1=k).map (·.2)
def jn(a:List<|b×Z)(k:b)(v:Z):List (b×Z):=
 if(a.any λd=>decide<|d.1=k)=true then a.map λd=>if d.1=k then(d.1,v)else d else a++[(k,v)]
def i4.val{f:List<|b×V}{d:List<|b×Z}(r:i4 K c lo H f d){k:b}{z:Z}(h:valZ d k=some z):∃v,jZ f k=some v/\i6 K c lo H v z:=by
 induction r with
 |nil=>cases h
 |@cons g v j l d a _ i=>
  unfold valZ at h;unfold jZ;rw[cX]at h⊢;by_cases e:g=k
  ·simp only[e,ej]at h⊢;cases h;exact⟨v,rfl,a⟩
  ·simp only[e,dO]at h⊢;exact i h
def i4.none{f:List<|b×V}{d:List<|b×Z}(r:i4 K c lo H f d){k:b}(h:valZ d k=Option.none):jZ f k=Option.none:=by
 induction r with
 |nil=>rfl
 |@cons g v j l d a _ i=>
  unfold valZ at h;unfold jZ;rw[cX]at h⊢;by_cases e:g=k
  ·simp only[e,ej]at h;cases h
  ·simp only[e,dO]at h⊢;exact i h
def i4.length(r:i4 K c lo H us zs):us.length=zs.length:=by
 induction r with
 |nil=>rfl
 |cons _ _ a=>rw[ao,ao,a]
def i4.any{f:List<|b×V}{d:List<|b×Z}(r:i4 K c lo H f d)(k:b):(f.any λa=>decide<|a.1=k)=d.any λa=>decide (a.1=k):=by
 induction r with
 |nil=>rfl
 |cons _ _ g=>rw[cG,cG,g]
def i4.put{h:List<|b×V}{f:List<|b×Z}(r:i4 K c lo H h f)(k:b){v:V}{z:Z}(q:i6 K c lo H v z):i4 K c lo H (putK h k v) (jn f k z):=by
 unfold putK jn;rw[r.any k];split
 ·rename_i g;clear g;induction r with
  |nil=>exact .nil
  |@cons i m j l f a _ d=>
   rw[aE,aE];by_cases e:i=k
   ·simp only[e,cB];exact .cons q d
   ·simp only[e,bC];exact .cons a d
 ·rename_i g;clear g;induction r with
  |nil=>exact .cons q .nil
  |cons a _ d=>exact .cons a d
end
def tL:D->Option Key
 |.int i=>some (.inl i)
 |.str x=>some (.inr x)
 |_=>none
def HV{v d}(r:Rep K al H v d)(h:tL d=some k):v=kV k:=by
 cases r with
 |int i=>cases h;rfl
 |str i=>cases h;rfl
 |_=>cases h
section
variable{X:Cx}{E:XK}{b:Nat}{o k e:Expr}{fo f:h8}{i:g7}{pos:Pos}
def wM:NT (.dT l):=λ_ h=>nomatch h
def kM:List D->Option (List Key)
 |[]=>some []
 |d::r=>(tL d).bind λk=>(kM r).map (k:: ·)
theorem wo:∀{c} {d} {a},gQ K al H c d->kM d=some a->c=a.map kV
 |_,_,_,.nil,h=>by cases h;rfl
 |_,_,_,.cons r q,h=>by obtain⟨k,l,j⟩:=az.mp h;obtain⟨a,g,rfl⟩:=aj.mp j;rw[HV r l,wo q g];rfl
def oX(fs:gU->gR->RX (List Z)):h8:=λρ S=>(fs ρ S).bind λc d=>match(kf c).bind kM with
 |some a=>if a.length<=sizeLine then .ok (.tk a) d else .bad
 |none=>.bad
def rS(fo i f:h8):iI:=λρ S=>toZ (f ρ S) λv g=>toZ (fo ρ g) λz d=>toZ (i ρ d) λy c=>match z,y with
 |.loc n,.tk k=>(match c[n]? with
  |some (.dt a)=>if a.length<sizeLine then .nx ρ (c.set n<|.dt<|jn a k v)else .bad
  |_=>.bad)
 |_,_=>.bad
def qr:h8:=λ_ S=>.ok (.loc S.length) (S++[.dt []])
variable{j:List Expr}{i:h8}{fs:gU->gR->RX (List Z)}
def Dq{m}(z:ZA X E j fs):ZE X E (.Tuple j m pos) (oX fs):=by
 obtain⟨I,w,u,_⟩:=z;refine⟨_,BB w,λB al lo H σ ρ S Q s h=>u _ _ _ _ _ _ _ _ s<|gZ.mono (gZ.split h) λx l d M L n m G a v t=>?_⟩;split at a
 ·rename_i q C;obtain⟨J,F,D⟩:=az.mp C;have:=qE F;subst this;have c:=t.toD;have A:=wo c D;subst A;split at a
  ·rename_i y;refine⟨by rw[aD];exact y,λp g=>?_⟩;have r:=n.grow (jG (K:=X.K) (o:=.tup<|q.map kV) g);exact a l d _ r (Xt.of<|jG (K:=X.K) (o:=.tup<|q.map kV) g) .refl (.ref p) ⟨p,n.fresh p g,ix,rfl⟩
  ·exact a.elim
 ·exact a.elim
def Dn:ZE X E (.Dict [] [] pos) qr:=by
 refine⟨_,KH,λB al lo H σ ρ S Q s h=>λp a=>?_⟩;have g:jO X.K (λb=>al b/\b≠p) (jS lo S.length p) (upd H p<|.dT []) p (.dt []):=⟨[],ix,.nil⟩;have c:=s.new a wM g nofun;have d:jS lo S.length p S.length=some p:=by unfold jS;rw[ai rfl]
 exact h _ _ _ c (qo a) (nG s.st p) _ ⟨p,d,rfl⟩
def Q6(hu:X.A.units+64<cLine)(ho:ZE X E o fo)(hk:ZE X E k i)(hv:ZE X E e f)(hs:swapsWith e (some<|.Subscript o k pos') pos.line X.env=pure false):
    ZS X E b (.Assign [.Subscript o k pos'] e pos) (rS fo i f):=by
 obtain⟨to,po,Y⟩:=ho;obtain⟨tk,pk,rk⟩:=hk;obtain⟨tv,pv,U⟩:=hv;refine⟨_,Lh (by omega) po pk pv hs,λB A al lo H σ ρ S D s h=>U _ _ _ _ _ _ _ _ s<|gZ.mono (i0.lZ h) λy Ei ID H0 S0 T x0 y0 h0 p r0=>Y _ _ _ _ _ _ _ _ T<|gZ.mono (i0.lZ h0) λz kA lo1 H1 S1 R P L h1 v1 r1=>rk _ _ _ _ _ _ _ _ R<|gZ.mono (i0.lZ h1) λJ l v C S2 r O F g u V=>?_⟩;split at g
 ·rename_i n m;split at g
  ·rename_i x q;split at g
   ·rename_i hl;obtain⟨a,hn,rfl⟩:=r1;obtain⟨c,ha,hc,rfl⟩:=V;have d:=F _ _ hn;obtain⟨G,g1,I⟩:=r.cell d q;have t:i6 X.K l v C p y:=(r0.mv P L).mv O F;have N:Xt l C l (upd C a (.dT (putK G m p))):=λb o _ A eb=>⟨A,by rw[gY λz=>r.st.na n a d (by rw[<-z];exact A)];exact eb⟩;obtain⟨Q,M⟩:=r.write d (o:=.dT (putK G m p)) (c:=.dt (jn x m y)) wM (λq w=>by unfold jj at w;cases w) ⟨_,ix,i4.mv N .refl (I.put m t)⟩ nofun;exact⟨a,_,rfl,.t g1 hc (by rw[I.length];exact hl),g _ _ _ _ M Q⟩
   ·exact g.elim
  ·exact g.elim
 ·exact g.elim
end
def C0(K:W.Frag)(f:h8):TE:=λσ H Q=>∃B al lo ρ S,RZ K B al lo H σ ρ S/\gZ K B (λ_ _ _=>False) al lo H σ ρ (f ρ S) (λz c a H' _=>∀v,i6 K c a H' v z->Q v H')
def C1(K:W.Frag)(f:gU->gR->RX Bool):TT:=λσ H Q=>∃B al lo ρ S,RZ K B al lo H σ ρ S/\gZ K B (λ_ _ _=>False) al lo H σ ρ (f ρ S) (λb _ _ H' _=>Q b H')
def ZE.w(h:ZE X (λ_ _ _=>False) e f):PE X e (C0 X.K f):=by obtain⟨t,p,r⟩:=h;intro c s σ H Q I g;obtain⟨B,al,lo,ρ,S,d,a⟩:=g;exact p c s σ H Q I (r B al lo H σ ρ S Q d a)
def vh(X:Cx)(a:List Expr)(f:gU->gR->RX Bool):Prop:=PF X a (C1 X.K f)
def mJ:gU->gR->RX Bool:=λ_ S=>.ok true S
def Ds:vh X [] mJ:=λc s σ H Q I h=>by obtain⟨B,al,lo,ρ,S,d,a⟩:=h;exact BE c s σ H Q I (a al lo H d .refl .refl)
def ZI(X:Cx)(E:XK)(g a:Expr)(f:gU->gR->RX (List D)):Prop:=∃d:TI,PI X g a d/\
 ∀B al lo H σ ρ S (R:It->Hp->Prop),RZ X.K B al lo H σ ρ S->gZ X.K B E al lo H σ ρ (f ρ S) (λi c h H' _=>∀J,Wk X.K c H' J i->R J H')->d σ H R
def oW(f:h8):gU->gR->RX (List D):=λρ S=>(f ρ S).bind λz a=>match z with
 |.d (.lst ds)=>.ok ds a
 |_=>.bad
section
variable{X:Cx}{E:XK}{P e:Expr}{f:h8}
def Du(n:ZE X E e f):ZI X E P e (oW f):=by
 obtain⟨t,p,r⟩:=n;refine⟨_,BI p,λB al lo H σ ρ S R s h=>r _ _ _ _ _ _ _ _ s<|gZ.mono (gZ.split h) λz c g k A m x w i v j=>?_⟩;split at i
 ·rename_i u;have d:Rep X.K c k v (.lst u):=j;obtain⟨a,l,q,o,y⟩:=d.mX;subst q;exact⟨a,rfl,⟨l,o⟩,i c g k m .refl .refl _<|C5 j⟩
 ·exact i.elim
def mS(a:List Nat)(ρ:gU):gU:=none::a.map λi=>(ρ[i]?).getD none
def Ov(s:RZ K B kA lo1 H1 σ ρ S1)(l:EZ K B qD rl H2 S2)(x:Xt kA H1 qD H2)(y:Lx lo1 rl)(ci):RZ K B qD rl H2 (ju 1 ci σ) (mS ci ρ) S2 where
 toEZ:=l
 len:=by unfold ju mS;simp
 vr:=λj z h=>by
  unfold mS at h;cases j with
  |zero=>cases h
  |succ k=>
   rw[fC,aB]at h;cases q:ci[k]? with
   |none=>rw[q]at h;cases h
   |some i=>
    rw[q]at h;have a:(ρ[i]?).getD none=some z:=Option.some.inj h;cases w:ρ[i]? with
    |none=>rw[w]at a;cases a
    |some o=>rw[w]at a;have c:o=some z:=a;subst c;obtain⟨v,g,d⟩:=s.vr i z w;refine⟨v,?_,d.mv x y⟩;unfold ju;show(none::(ci.map λi=>(σ[i]?).getD none))[k+1]?=_;rw[fC,aB,q];show some ((σ[i]?).getD none)=_;rw[g];rfl
def md(c:gU->gR->RX Bool)(e:h8)(a:gU)(g:Nat):List D->gR->RX Z
 |[],S=>.ok (.loc g) S
 |d::r,S=>match c (a.set 0<|ic d) S with
  |.ok b j=>if b=true then(match e (a.set 0 (ic d)) j with
   |.ok z i=>(match i[g]? with
    |some (.li h)=>if h.length<sizeLine then md c e a g r (i.set g<|.li<|h++[z])else .bad
    |_=>.bad)
   |_=>.bad)else md c e a g r j
  |_=>.bad
def n0(d:gU->gR->RX (List D))(h:List Nat)(c:gU->gR->RX Bool)(e:h8):h8:=λρ S=>(d ρ S).bind λg a=>md c e (mS h ρ) a.length g (a++[.li []])
variable{A I:Expr}{F:List Expr}{l:Scope}{pos N:Pos}{O:gU->gR->RX (List D)}{M:gU->gR->RX Bool}{L:h8}{cl:List<|Str×Addr}{Nc:List Str}{ci:List Nat}{x:Str}
def QS(hc:X.calm=true)(hi:ZI X E (.Name x N) A O)(hg:∀Y R r C,PG (X.comp l ([x]++Nc) cl Y R r C) (.Name x N)<|pJ 0)(hf:∀Y R r C,vh (X.comp l ([x]++Nc) cl Y R r C) F M)
 (he:∀Y R r C,ZE (X.comp l ([x]++Nc) cl Y R r C) (λ_ _ _=>False) I L)
 (U:closureFor l X.env=pure cl)(T:l.kind=.function)(V:lX l)(G:kN l)(k4:ke X cl Nc ci)
 (hsub:∀x c,cl.lookup x=some c->X.env.cells.lookup x=some c)(hhas:∀x,((relabel l X.env).names.lookup x=some .cell\/(relabel l X.env).names.lookup x=some .free)->∃c,cl.lookup x=some c)
 (lU:∀x∈Nc,(relabel l X.env).names.lookup x=some .cell\/(relabel l X.env).names.lookup x=some .free)
 (hs:∀x,foldedSetIterable A X.env x=pure x):ZE X E (.ListComp I [⟨.Name x N,A,F,0⟩] l pos) (n0 O ci M L):=by
  obtain⟨wi,pi,ri⟩:=hi;refine⟨_,Bz (Nt:=[x]) (tn:=1) (te:=C0 X.K L) (tc:=C1 X.K M) (g:=pJ 0) hc pi hg hf (λY R r C=>(he Y R r C).w) U T V G k4 rfl hsub hhas lU hs,λB al lo H σ ρ S Q s h=>ri _ _ _ _ _ _ _ _ s<|gZ.mono (gZ.split h) λn kA t H1 S1 s1 x1 y1 h1 J wk=>?_⟩;intro p hp;have hcl:jO X.K (λb=>kA b/\b≠p) (jS t S1.length p) (upd H1 p<|.lst []) p (.li []):=⟨[],ix,.nil⟩;have e0:=s1.toEZ.new hp kP hcl nofun;have Ha:jS t S1.length p S1.length=some p:=by unfold jS;rw[ai rfl]
  refine⟨λi m H2=>∃k d S2,EZ X.K B k d H2 S2/\Xt kA H1 k H2/\Lx t d/\d S1.length=some p/\gZ X.K B E kA t H1 σ ρ (md M L (mS ci ρ) S1.length (n.drop i) S2) (λz kz rj H' _=>∀v,i6 X.K kz rj H' v z->Q v H')/\m=n.length - i,⟨_,_,_,_,e0,qo hp,nG s1.st p,Ha,h1,rfl⟩,?_⟩
  rintro i m H2 ⟨k,d,S2,e2,x2,y2,n2,a,rfl⟩ _
  obtain⟨w1,w2⟩:=wk k H2 x2 e2.fresh;have EW:=Ov s1 e2 x2 y2 ci;by_cases hi:i<n.length
  ·right;have ed:n[i]?=some n[i]:=au hi;obtain⟨go,yl⟩:=w1 i _ ed;refine⟨go,λv r y=>?_⟩;obtain⟨rfl,rx⟩:=yl v r y;rw[bZ hi]at a;unfold md at a;have c1:RZ X.K B k d r ((ju 1 ci σ).set 0 (some v)) ((mS ci ρ).set 0 (some (.d n[i]))) S2:=EW.set (by unfold mS;simp) rx;refine⟨⟨by rw[bp,ou],λj hj=>ax<|by omega⟩,B,k,d,_,S2,c1,?_⟩;cases qc:M ((mS ci ρ).set 0 (some<|.d n[i])) S2 with
   |bad=>rw[qc]at a;exact a.elim
   |ex c ns es S3=>rw[qc]at a;exact a.elim
   |ok b S3=>
    rw[qc]at a;intro yU A9 H4 c3 x3 y3;dsimp only at a;cases b with
    |false=>rw[ak aA]at a⊢;exact⟨n.length - (i+1),by omega,yU,A9,S3,c3.toEZ,x2.trans x3,y2.trans y3,y3 _ _ n2,a,rfl⟩
    |true=>
     rw[ai rfl]at a⊢;refine⟨B,yU,A9,_,S3,c3,?_⟩;cases qe:L ((mS ci ρ).set 0 (some<|.d n[i])) S3 with
     |bad=>rw[qe]at a;exact a.elim
     |ex c ns es S4=>rw[qe]at a;exact a.elim
     |ok z S4=>
      rw[qe]at a;dsimp only at a;split at a
      ·rename_i zs q4;split at a
       ·rename_i hz;intro Z IE H5 c4 x4 y4 u ru;have n4:=y4 _ _ (y3 _ _ n2);obtain⟨ws,g1,g2⟩:=c4.cell n4 q4;have xx:Xt Z H5 Z (upd H5 p (.lst (ws++[u]))):=λb o _ hb eb=>⟨hb,by rw[gY λz=>c4.st.na _ p n4 (by rw[<-z];exact hb)];exact eb⟩;obtain⟨e5,x5⟩:=c4.toEZ.write n4 (o:=.lst (ws++[u])) (c:=.li (zs++[z])) kP (λq w=>by unfold jj at w;cases w) ⟨_,ix,iW.mv xx .refl (g2.append (.cons ru .nil))⟩ nofun;exact⟨ws,g1,by rw[g2.length];exact hz,n.length - (i+1),by omega,Z,IE,_,e5,((x2.trans x3).trans x4).trans x5,(y2.trans y3).trans y4,n4,a,rfl⟩
       ·exact a.elim
      ·exact a.elim
  ·left;rw[cu<|by omega]at a;exact⟨w2 i<|by omega,a k d H2 ⟨e2,s1.len,λi z e=>let⟨v,k1,k2⟩:=s1.vr i z e;⟨v,k1,k2.mv x2 y2⟩⟩ x2 y2 _ ⟨p,n2,rfl⟩⟩
def Dl(i nm)(R:X.calm=true)(hi:ZI X E (.Name x N) A O)(J:∀s k t C,PG (X.comp l ([x]++[y]) [(y,c)] s k t C) (.Name x N)<|pJ 0)(hf:∀s k t C,vh (X.comp l ([x]++[y]) [(y,c)] s k t C) F M)
 (Q:∀s k t C,ZE (X.comp l ([x]++[y]) [(y,c)] s k t C) (λ_ _ _=>False) I L)
 (g:l.kind=.function)(j:lX l)(a:kN l)
 (hN:X.N[i]?=some y)(G:X.env.kindOf y=some .cell)(r:X.env.cells.lookup y=some c)(h:closureFor l X.env=pure [(y,c)])(n:(relabel l X.env).names=nm)
 (o:∀p∈nm,(p.2=.cell\/p.2=.free)->p.1=y)(m:nm.lookup y=some .cell\/nm.lookup y=some .free)
 (v:∀x,foldedSetIterable A X.env x=pure x):ZE X E (.ListComp I [⟨.Name x N,A,F,0⟩] l pos) (n0 O [i] M L):=by
  refine QS (cl:=[(y,c)]) (Nc:=[y]) (ci:=[i]) R hi J hf Q h g j a (.cons hN (.inl G) (by rw[r];simp[List.lookup]) .nil) (λz d q=>?_) (λz q=>?_) (λz u=>?_) v
  ·by_cases w:z=y;·subst w;simp[List.lookup]at q;rw[r,q]
   ·have:(z==y)=false:=by simpa using w
    simp[List.lookup,this]at q
  ·rw[n]at q;have:z=y:=q.elim (λq=>o _ (aY q)<|.inl rfl) λq=>o _ (aY q) (.inr rfl);subst this;exact⟨c,by simp[List.lookup]⟩
  ·rw[aJ]at u;subst u;rw[n];exact m
def rE(n:Nat):Option Z->Bool
 |some z=>kE n z
 |none=>false
def n6(f:h8):h8:=λρ S=>match f ρ S with
 |.ok z a=>(match z with
  |.loc n=>(match a[n]? with
   |some (.li g)=>(match kf g with
    |some d=>if S.length<=n/\a.any (kh n)=false/\ρ.any (rE n)=false then .ok (.d<|.lst d) (a.set n .no)else .bad
    |none=>.bad)
   |_=>.bad)
  |_=>.bad)
 |.ex c ns d a=>.ex c ns d a
 |.bad=>.bad
def PZ{n d}(h:rE n o=false):qi n d o=o:=by
 cases o with
 |none=>rfl
 |some z=>
  cases z with
  |d x=>rfl
  |tk c=>rfl
  |loc m=>
   have a:decide (m=n)=false:=h;have:m≠n:=by simpa using a
   show(if m=n then some (Z.d d)else some (Z.loc m))=_;rw[ak this]
def yv(he:ZE X E e f):ZE X E e (n6 f):=by
 obtain⟨t,p,r⟩:=he;refine⟨t,p,λB al lo H σ ρ S Q s h=>r _ _ _ _ _ _ _ _ s ?_⟩;unfold n6 at h;cases q:f ρ S with
 |bad=>rw[q]at h;exact h.elim
 |ex c ns o R=>rw[q]at h;exact h
 |ok z R=>
  rw[q]at h;intro kA V H1 g x1 y1 v rv;dsimp only at h;split at h
  ·rename_i n;split at h
   ·rename_i zs q0;split at h
    ·rename_i o qd;split at h
     ·rename_i w;obtain⟨w1,w2,w3⟩:=w;obtain⟨a,hn,rfl⟩:=rv;have U:RZ X.K B kA V H1 (σ++[some (.ref a)]) (ρ++[h9 n]) R:=⟨g.toEZ,by rw[aq,aq,g.len];rfl,λi z d=>by
       by_cases hi:i<ρ.length
       · rw[ag hi]at d;obtain⟨u,j,G⟩:=g.vr i z d;exact⟨u,by rw[ag (by rw[<-g.len];exact hi)];exact j,G⟩
       · rw[aC<|by omega]at d;have e0:i - ρ.length=0:=by
          have:=(ar.mp d).1;simp at this;omega
         rw[e0]at d;cases d;refine⟨.ref a,?_,a,hn,rfl⟩;rw[aC (by rw[<-g.len];omega),<-g.len,e0];rfl⟩
      have k:(ρ++[some<|Z.loc n])[ρ.length]?=some (h9 n):=by simp
      have fz:tf B.n ρ.length (ρ++[h9 n]) R=some ((ρ++[some<|Z.loc n]).map (qi n<|.lst o),R.set n .no):=by unfold tf;rw[k];dsimp only;rw[q0];dsimp only;rw[qd];dsimp only;rw[ai ⟨aI s.sz w1,w2⟩]
      obtain⟨J,y,T,x2,y2⟩:=U.freeze fz;have Y:∀i z,ρ[i]?=some (some z)->((ρ++[some<|Z.loc n]).map (qi n<|.lst o))[i]?=some (some z):=λi z d=>by have hi:=(ar.mp d).1;rw[aB,ag hi,d];have:=bM.mp w3 (some z) (aM d);show some (qi n (.lst o)<|some z)=_;rw[PZ<|by simpa using this]
      have s3:RZ X.K B J y H1 σ ρ (R.set n .no):=⟨T.toEZ,g.len,λi z d=>by obtain⟨u,j,G⟩:=T.vr i z (Y i z d);have hi:=(ar.mp d).1;rw[ag (by rw[<-g.len];exact hi)]at j;exact⟨u,j,G⟩⟩
      have C:((ρ++[some<|Z.loc n]).map (qi n<|.lst o))[ρ.length]?=some (gX o):=by rw[aB,k];show some (if n=n then some (Z.d<|.lst o)else some (Z.loc n))=_;rw[ai rfl]
      obtain⟨u,j,G⟩:=T.vr _ _ C;rw[g.len,aC<|ah _,gB]at j;cases j;refine h J y H1 s3 (x1.trans x2) (λm b hm=>?_) _ G;obtain⟨c,g1,_⟩:=s.st.at' m b hm;have hm2:=(ar.mp g1).1;exact y2 n k m b (by omega) (y1 m b hm)
     ·exact h.elim
    ·exact h.elim
   ·exact h.elim
  ·exact h.elim
end
open PySem.Spec PySem.Calls PySem.W
open PyProof.Rows hiding St K
def kJ(h:Heap)(d:Addr)(a:Array DictEntry)(c:Nat):Prop:=∃o,h.get? d=some o/\o.ExactDict/\o.data=.dict a c
def kJ.at'{h':Heap}{d}(x:kJ h d es ep)(e:∀o,h.get? d=some o->h'.get? d=some o):kJ h' d es ep:=let⟨o,a,r⟩:=x;⟨o,e _ a,r⟩
def kJ.lt{d}(x:kJ h d es ep):d<h.objs.size:=let⟨_,a,_⟩:=x;Heap.lt_size a
def kJ.typeIs{s:Shared}{d}(x:kJ s.heap d es ep):s.TypeIs (.ref d) "dict":=let⟨o,a,c,_⟩:=x;⟨o,a,c.1⟩
section
variable{prog:Program}{w:World}{A:Around}{E:ia}{s:Shared}{c d:Addr}{i ep:Nat}{es:Array DictEntry}
def Oa{Q:ia}(h:(d==sysModules)=false)(g:kJ s.heap d es ep)
 (j:Q (.ref s.heap.objs.size) {s with heap:=s.heap.push {cls:=.type "dict_keyiterator",data:=.fields #[.ref d,.int 0 0,.int es.size 0,.int ep 0]}}):wpAny (model prog w) A (pyIter (.ref d)) Q E s:=by obtain⟨o,f,k,a⟩:=id g;have hT:=g.typeIs;refine eU hT fM (bA fM hT PySem.F.entry_dict_iter ?_ (PySem.F.args_dict_iter_1 _));unfold Builtin.«dict.__iter__»;refine aa ?_;unfold Builtin.Dict.dictSlotNone;refine aa (wpAny_notOrdered_dict hT ?_);show wpAny _ _ (pure<|Value.ref d) _ _ s;refine af ?_;show wpAny _ _ (Builtin.Dict.showsAll d>>=_) _ _ s;unfold Builtin.Dict.showsAll;rw[ak (by rw[h];exact aA)];refine aa (af ?_);refine aa (dP f a ?_);refine aa (fW f a ?_);refine aa (aT<|af ⟨_,rfl,"dict_keyiterator",_,⟨_,aw _ rfl,rfl⟩,PySem.F.slot_dict_keyiterator_next.lookup,?_⟩);simpa [rawInt]using j
def N9{Q:Option Value->Shared->Prop}(a:s.heap.IsKeyIter c d i es.size ep)(p:kJ s.heap d es ep)(j:i<es.size)
 (t:∀n,n.IsKeyIter c d (i+1) es.size ep->Heap.SameBut c s.heap n->Q (some es[i].key) {s with heap:=n}):wpAny (model prog w) A (pyNext<|.ref c) Q E s:=by
  obtain⟨o,m,r,l⟩:=id a;obtain⟨u,h,q,k⟩:=id p;unfold pyNext
  refine aa (dw (bH (name:=Str.ofString "__next__") a.typeIs bQ
   (bA bQ a.typeIs dy ?_ (dq _))))
  refine aa (af ?_);refine aa ?_;refine aa ?_;first|refine aa (cj a.typeIs<|af ?_)|refine aa (cH a.typeIs<|af ?_)
  refine aa (di m l ?_);have g:Builtin.Dict_items.ownsTuple "dict_keyiterator"=false:=by decide
  simp only[g,bc,bC];show wpAny _ _ (if(Value.ref d==Value.none)=true then _ else _) _ _ s;rw[ak<|show¬((Value.ref d==Value.none)=true)from aA];refine aa (af ?_);refine aa (dP h k ?_);rw[ak<|by simp];refine aa (af ?_);refine aa (fW h k ?_);rw[ak<|by simp];refine af ?_;simp only[show¬((i:Int)<0)from by omega,bC,bo,aH j];refine aa ?_;first|refine aa (cj a.typeIs<|af ?_)|refine aa (cH a.typeIs<|af ?_)
  refine aa (wpAny_isOneOf_keyiter a.typeIs ?_);show wpAny _ _ (setField (.ref c) 1 (rawInt<|(i:Int)+1)>>=_) _ _ s;refine aa (bN m l (by simp) ?_)
  have f:(s.heap.update c (Obj.mapFields (·.setIfInBounds 1 (rawInt<|(i:Int)+1)))).IsKeyIter c d (i+1) es.size ep:=
   ⟨_,ba _ m<|bE<|bb l _,(c7 ..).trans r,by rw[bb l];simp[rawInt]⟩
  refine aa (bU ?_);refine aa (wpAny_isOneOf_keyiter (s:={s with heap:=s.heap.update c (Obj.mapFields (·.setIfInBounds 1 (rawInt<|(i:Int)+1)))}) f.typeIs ?_);show wpAny _ _ (pure es[i].key) _ _ _;exact af (af ⟨_,rfl,af<|t _ f<|bf ..⟩)
def N8{Q:Option Value->Shared->Prop}(r:A.handled=none)(f:s.heap.IsKeyIter c d i es.size ep)(q:kJ s.heap d es ep)(k:es.size<=i)
 (u:∀p,Heap.ExtBut c s.heap p->Q none {s with heap:=p}):wpAny (model prog w) A (pyNext<|.ref c) Q E s:=by
  obtain⟨o,l,x,n⟩:=id f;obtain⟨v,h,t,j⟩:=id q;unfold pyNext
  refine aa (dw (bH (name:=Str.ofString "__next__") f.typeIs bQ
   (bA bQ f.typeIs dy ?_ (dq _))))
  refine aa (af ?_);refine aa ?_;refine aa ?_;first|refine aa (cj f.typeIs<|af ?_)|refine aa (cH f.typeIs<|af ?_)
  refine aa (di l n ?_);have g:Builtin.Dict_items.ownsTuple "dict_keyiterator"=false:=by decide
  simp only[g,bc,bC];show wpAny _ _ (if(Value.ref d==Value.none)=true then _ else _) _ _ s;rw[ak<|show¬((Value.ref d==Value.none)=true)from aA];refine aa (af ?_);refine aa (dP h j ?_);rw[ak<|by simp];refine aa (af ?_);refine aa (fW h j ?_);rw[ak<|by simp];refine af ?_;simp only[show¬((i:Int)<0)from by omega,bC,bo,bV k];refine aa ?_;first|refine aa (cj f.typeIs<|af ?_)|refine aa (cH f.typeIs<|af ?_)
  show wpAny _ _ (setField (.ref c) 0 .none>>=_) _ _ s;refine aa (bN l n (by simp) ?_);show wpAny _ _ (newExc (.type "StopIteration") []>>=_) _ _ _;refine aa ?_;simp only[newExc,newTuple];refine aa (aT ?_ (by size_fits));refine aa (m:=firstArgMember _ _) (gh (a:=Value.none) (by first|rfl|(simp only[firstArgMember];rfl)) ?_);refine aT ?_ (by size_fits);simp only[raiseNew];refine aa (wpAny_handled ?_);rw[show A.in1.handled=none from r];refine aa (af<|wpAny_throw ?_);refine aa (d5 (T:="StopIteration") (b:=true) ⟨_,aw _ rfl,rfl⟩ gi ?_);exact af (u _<|((bf ..).extBut.push _).push _)
def Og(q:A.handled=none)(I d)(l:d≠I)(es:Array DictEntry)(ep):
    Walks prog w A I [I,d] [I] es.size (λi v=>∃e,es[i]?=some e/\v=e.key) (λi h=>h.IsKeyIter I d i es.size ep/\kJ h d es ep) where
 sub:=λb f=>by simp at f;simp[f]
 frame:=λ_ _ _ a p=>⟨a.1.at λo e=>p I (by simp) o e,a.2.at' λo e=>p d (by simp) o e⟩
 item:=λi s Q E hi a k=>by refine N9 a.1 a.2 hi λn j g=>?_;exact k _ n s.toks ⟨es[i],by simp[hi],rfl⟩ ⟨j,a.2.at' λo e=>g.extBut d o l e⟩ λb o f e=>g.extBut b o (λh=>f<|by simp[h]) e
 done:=λs Q E a k=>N8 q a.1 a.2 (ah _) λn m=>k n s.toks λb o f e=>m b o (λh=>f<|by simp[h]) e
 self:=λ_ _ _ _ a k=>wpAny_pyIter_keyiter a.1 k
def Of(lo:(d==sysModules)=false):KdlSrc prog w "dict" d d es.size (λi v=>∃e,es[i]?=some e/\v=e.key) (λh=>kJ h d es ep) where
 type:=λ_ a=>a.typeIs
 there:=λ_ a=>⟨a.lt,a.lt⟩
 keep:=λ_ _ a g=>a.at' λo e=>g d (.inl rfl) o e
 notList:=by decide
 notTuple:=by decide
 hint:=λ_ _ _ _ a f=>kdl_hint_dict a.typeIs f
 iter:=λ_ _ j a=>⟨_,_,(λ_ _ f=>Oa lo a f),Og j _ d (aO a.lt) es ep,⟨⟨_,aw _ rfl,rfl,rfl⟩,a.at' λo e=>ae _ e⟩⟩
def Ob(h:ItemsOf (λi v=>∃e,es[i]?=some e/\v=e.key) acc es.size):acc.toList=es.toList.map (·.key):=by
 apply eV;intro j;rw[aU,aB,aU];by_cases f:j<es.size
 ·have a:j<acc.size:=by rw[h.1];exact f
  obtain⟨e,k,g⟩:=h.2 j acc[j] (by simp[a]);rw[k];simp[a,g]
 ·rw[bV<|by rw[h.1];omega,bV<|by omega];rfl
def N7{Q:List Value->Shared->Prop}(u:A.handled=none)(lo:(d==sysModules)=false)(p:kJ s.heap d es ep)(q:es.size<=sizeLine)
 (x:∀k tk,(∀b o,s.heap.get? b=some o->k.get? b=some o)->s.heap.objs.size<=k.objs.size->Q (es.toList.map (·.key)) {s with heap:=k,toks:=tk}):wpAny (model prog w) A (collect<|.ref d) Q E s:=by have g:=p.lt;unfold collect;refine aa (gj<|bY eD ?_);rw[bT eE _];show wpAny _ A.in1 (newList []>>=λl=>again<|.builtin "list.__iadd__" ⟨[l,.ref d],[]⟩) _ _ s;refine aa (aT ?_);refine af ⟨d7 cQ _,bY fD ?_⟩;rw[bT cQ _];show wpAny _ A.in1 (Builtin.List.listExtendWith (.ref s.heap.objs.size) (.ref d)<|.ref s.heap.objs.size) _ _ _;have f:(s.heap.push {cls:=.type "list",data:=.seq ([]:List Value).toArray}).get? s.heap.objs.size=some {cls:=.type "list",data:=.seq #[]}:=aw _ rfl;refine kdl_extend (prog:=prog) (w:=w) (A:=A) (R:=λr n=>match r with|.ok (.ret v)=>wpAny (model prog w) A (match v with|.ref a=>(do let o<-load a;match o.data with|.seq xs _=>pure xs.toList|_=>unsupported "internal:collect")|_=>unsupported "internal:collect") Q E n|.ok _=>False|.error e=>E e n) (s:={s with heap:=s.heap.push {cls:=.type "list",data:=.seq ([]:List Value).toArray}}) (Of (es:=es) (ep:=ep) lo) u (p.at' λo e=>ae _ e) _ (cc g) (cc g) _ 0 f (λk tk m y t j h=>?_) q;show wpAny _ A (load s.heap.objs.size>>=_) _ _ _;refine aa (wpAny_load j ?_);show wpAny _ _ (pure m.toList) _ _ _;rw[Ob h];exact af (x k tk (λb o e=>t b o (aO<|Heap.lt_size e)<|ae _ e)<|bJ<|Heap.lt_size j)
def O6{G:Array Value->Prop}{Q:ia}(C:A.handled=none)
 (j:∀(B:Around) (x:List Value->Shared->Prop),B.handled=none->(∀f tk,(∀b o,s.heap.get? b=some o->f.get? b=some o)->s.heap.objs.size<=f.objs.size->x us {s with heap:=f,toks:=tk})->wpAny (model prog w) B (collect<|.ref l) x E s)
 (u:us.length<=sizeLine)(L:us.length<2->G us.toArray)
 (J:2<=us.length->∀t:Shared,(∀b o,s.heap.get? b=some o->t.heap.get? b=some o)->sj prog w G us t)
 (k:∀(out:Array Value) p (f:Heap) tk e,out.size=us.length->G out->s.heap.objs.size<=p->(∀b o,s.heap.get? b=some o->f.get? b=some o)->f.get? p=some (seqObj "list" out e)->Q (.ref p) {s with heap:=f,toks:=tk}):wpAny (model prog w) A (call (.builtin "sorted") [.ref l]) Q E s:=by
  refine call_function_entry kind_sorted plain_sorted entry_sorted (args_sorted1 _) ?_;unfold Builtin.«sorted»;refine aa (m:=checkCount "sorted" 1 1 _) (af ?_);apply aa;refine j _ _ C λg tk r h=>?_;apply aa;refine wpAny_newList ?_ u;have a:(g.push<|seqObj "list" us.toArray 0).get? g.objs.size=some (seqObj "list" us.toArray 0):=aw _ rfl
  have kp:∀b o,s.heap.get? b=some o->b≠g.objs.size/\(g.push<|seqObj "list" us.toArray 0).get? b=some o:=λb o q=>⟨aO<|ay (Heap.lt_size q) h,ae _<|r b o q⟩
  refine aa (bU<|bA slot_list_sort ⟨_,a,rfl⟩ entry_list_sort (CG (s:={s with heap:=g.push<|seqObj "list" us.toArray 0,toks:=tk}) a u L (λI t y=>J I t λb o q=>y b o (kp b o q).1 (kp b o q).2) λout z F=>⟨_,rfl,?_⟩)<|args_list_sort _);refine af ⟨_,rfl,?_⟩;have M:=dz a (λ_=>(#[]:Array Value));have n:∀b o,b≠g.objs.size->(g.push<|seqObj "list" us.toArray 0).get? b=some o->(sortedHeap (g.push<|seqObj "list" us.toArray 0) g.objs.size us out).get? b=some o:=λb o v q=>by show((((((g.push<|seqObj "list" us.toArray 0).update g.objs.size (Obj.mapSeq λ_=>(#[]:Array Value))).push (seqObj "tuple" us.toArray 0)).push (seqObj "list" #[] 0)).update g.objs.size (Obj.mapSeq λ_=>out))).get? b=some o;rw[cI _ _ _ _ v];refine ae _ (ae _ ?_);rw[cI _ _ _ _ v];exact q
  have new:∃e,(sortedHeap (g.push<|seqObj "list" us.toArray 0) g.objs.size us out).get? g.objs.size=some (seqObj "list" out e):=by exact⟨_,dz (ae (seqObj "list" #[] 0)<|ae (seqObj "tuple" us.toArray 0) M)<|λ_=>out⟩
  obtain⟨e,D⟩:=new;exact k out g.objs.size _ tk e z F h (λb o q=>n b o (kp b o q).1 (kp b o q).2) D
end
def kD:Key->D
 |.inl i=>.int i
 |.inr x=>.str x
def ko(a:List<|List Key):List D:=a.map λk=>.tup (k.map kD)
theorem xu:∀k:List Key,gQ K al H (k.map kV) (k.map kD)
 |[]=>.nil
 |.inl i::r=>.cons (.int i) (xu r)
 |.inr x::r=>.cons (.str x) (xu r)
theorem Cj{al:Addr->Prop}{H:Hp}(d:∀b f,H b=some (.tup f)->al b):∀{a} {c},L2.KT H a c->gQ K al H (c.map λx=>V.ref x.2.1) (ko<|a.map Prod.fst)
 |[],_,.nil=>.nil
 |_::_,_,.cons h t=>.cons (.tup (.inl ⟨d _ _ h.2.1,h.2.1⟩)<|xu _) (Cj d t)
theorem CY:∀a:List (List Key×Addr×Value),Vals (a.map λx=>V.ref x.2.1) (a.map λx=>Value.ref x.2.1)
 |[]=>.nil
 |_::r=>.cons rfl (CY r)
theorem kt_len:∀{a} {c},L2.KT H a c->a.length=c.length
 |[],_,.nil=>rfl
 |_::_,_,.cons _ t=>by rw[ao,ao,kt_len t]
def Oe{w}{h:Heap}{d}(dd:h.DictOfH (tupleKind (jk P w)) d xs):∃a c,kJ h d a c/\a.toList.map (·.key)=xs.map λx=>Value.ref x.2.1:=by obtain⟨o,a,c,j,i,g,f,_⟩:=dd;refine⟨a,c,⟨o,j,i,g⟩,?_⟩;rw[f,bw];rfl
section
variable{X:Cx}{E:XK}{e o k:Expr}{m C ty:TE}{F pos:Pos}
def KW(hc:X.calm=true)(Z:PE X e m)(hg:Gl X "sorted")(hm:X.mg "sorted"=none)
    (hs:X.se e [])(U:X.bk pos []):
    PE X (.Call (.Name "sorted" F) [e] [] pos) (λσ H Q=>m σ H λx0 c=>∃x,[x0]=[x]/\∃(l:Addr) (a:List<|List Key×V) (al:Addr->Prop),x=.ref l/\c l=some (.dT a)/\(∀b O,c b=some (.tup O)->al b)/\lT (ko<|a.map Prod.fst)=true/\a.length<64/\∀p f,c p=none->gQ X.K al c f (jq<|ko<|a.map Prod.fst)->Q (.ref p) (upd c p<|.lst f)):=by
 intro j s σ H Q I h;refine b8 (oI I hg hm zf ?_ (by decide) (by decide));have D7:PA X [e] (ye m yf):=mz Z nQ hs;refine cK (g8 (D7 pos j s σ H (λv c=>∃x,v=[x]/\∃(l:Addr) (a:List<|List Key×V) (al:Addr->Prop),x=.ref l/\c l=some (.dT a)/\(∀b O,c b=some (.tup O)->al b)/\lT (ko<|a.map Prod.fst)=true/\a.length<64/\∀p f,c p=none->gQ X.K al c f (jq<|ko<|a.map Prod.fst)->Q (.ref p) (upd c p<|.lst f)) I h) λus s1 T=>?_) hs U;obtain⟨v,c,M,r1,q1⟩:=T;obtain⟨x,rfl,l,a,al,rfl,hl,ha,Y,GC,q⟩:=q1;obtain⟨u,rfl,ru⟩:=vals1 r1;obtain rfl:u=Value.ref l:=ru;obtain⟨z,hd,g,y,dd⟩:=vO M.hok hl;obtain⟨es,ep,R,ek⟩:=Oe dd;obtain⟨sg,D⟩:=v9 Y;have N:=Cj (K:=X.K) ha y;have P:=CY g;have hlen:=(kt_len y);have lk:(ko<|a.map Prod.fst).length=a.length:=by unfold ko;simp
 have lx:(g.map λx=>Value.ref x.2.1).length=g.length:=aD ..;have le:es.size=g.length:=by have:=cn List.length ek;simpa using this
 have it:=HB M D N P;generalize ko (a.map Prod.fst)=ds at Y D N it q lk;have J:(g.map λx=>Value.ref x.2.1).length<64:=by omega
 have sl:=cU;refine O6 (A:=X.A) (us:=g.map λx=>Value.ref x.2.1) (G:=λout=>∃f,Vals f out.toList/\gQ X.K al c f (jq ds)) (M.ok.hd hc) (λB Q' hB h'=>N7 hB hd R (by omega)<|by rw[ek];exact h') (by omega) (λh2=>⟨g.map λx=>V.ref x.2.1,by simpa using P,?_⟩) (λh2 t kp B=>?_) λout p h' tk e ho hG hp kp Z=>?_
 ·have:jq ds=ds:=by
   match ds,lk with
   |[],_=>rfl
   |[d],_=>rfl
   |_::_::r,w=>simp at w;omega
  rw[this];exact N
 ·have:=CF (prog:=X.prog) (w:=X.w) (s:=t) (it.keep kp) Y h2 J B;refine aS this (λκ t' hk=>⟨hk.1,aS hk.2 (λr R4 n=>⟨n.1,n.2.1,n.2.2.1,?_⟩) λ_ _ x=>x⟩) λ_ _ x=>x;obtain⟨p,g1,g2,g3⟩:=n.2.2.2;have L:=AF g1;refine⟨p.toList.map λi=>(g.map λx=>V.ref x.2.1).getD i .non,?_,?_⟩;·rw[g2];exact CZ P _ λi hi=>by have:=L i hi;omega
  ·rw[<-g3];exact Cm N _ L
 ·obtain⟨f,hw,n⟩:=hG;have lw:f.length<=sizeLine:=by
   have:=hw.length;simp only[av]at this;omega
  have I2:Inv X j σ (upd c p<|.lst f) {s1 with heap:=h',toks:=tk}:=
   M.laid (t':=tk) kp hp (show iY X.prog X.w _ _ _ (.lst f)from⟨lw,out.toList,e,hw,by rw[gk];exact Z⟩)
  exact⟨.ref p,_,I2,rfl,q p f (M.hok.fresh hp) n⟩
def Ib(I:Inv X pins σ H s){c:List Key}(h:jA X.K H b (c.map kV)):(tupleKind (jk X.prog X.w)).is s.heap c b:=by obtain⟨a,r,⟨o,g,f,n,d⟩,_⟩:=I.tuple h;exact⟨o,a.toArray,n,g,f,d,by simpa using wg r⟩
def KG(O:X.A.units+1<cLine)(T:PE X o C)(hi:PE X k ty)(P:vd k):PE X (.Subscript o k pos) (λσ H Q=>C σ H λx t=>ty σ t λy i=>∃a b d g v,x=.ref a/\y=.ref b/\Rd i a (.dT d)/\jA X.K i b (g.map kV)/\jZ d g=some v/\Q v i):=by intro c s σ H Q I h;refine Pd PySem.F.slot_dict_getitem.lookup P (g8 (T c s σ H _ I h) λu A f=>?_);obtain⟨x,t,Y,G,L⟩:=f;refine g8 (hi c A σ t _ Y L) λM s2 f=>?_;obtain⟨y,i,r,D,a,b,d,g,v,ex,V,e,U,l,J⟩:=f;subst ex V;obtain rfl:u=Value.ref a:=G;obtain rfl:M=Value.ref b:=D;obtain⟨z,hd,w,n,dd⟩:=vP r.hok e;refine⟨dd.typeIs,?_⟩;obtain⟨Z,N,j⟩:=nr.some_of (v:=v) (o:=(atKey w g).map (·.2)) (by rw[<-l];exact n.val g);obtain⟨p,R,q⟩:=aj.mp N;refine wpAny_getItem_heap (eM O) (Ib r U) dd R ?_;rw[q];exact⟨v,i,r.tok _,j,J⟩
def n3(fo:h8):h8:=λρ S=>(fo ρ S).bind λz c=>match z with
 |.loc n=>(match c[n]?,c[0]? with
  |some (Cell.dt a),some Cell.mk=>if lT (ko<|a.map Prod.fst)=true/\a.length<64 then .ok (.d<|.lst<|jq<|ko<|a.map Prod.fst) c else .bad
  |_,_=>.bad)
 |_=>.bad
def nh(fo d:h8):h8:=λρ S=>(fo ρ S).bind λz f=>(d ρ f).bind λy c=>match z,y with
 |.loc n,.d (.tup ds)=>(match kM ds,c[n]? with
  |some k,some (.dt a)=>(match valZ a k with
   |some z=>.ok z c
   |none=>.bad)
  |_,_=>.bad)
 |_,_=>.bad
variable{b:Nat}{a c:Expr}{rest:List Expr}{fo j f L J:h8}
def i4.keys{d:Type}{K:W.Frag}{al:Addr->Prop}{lo:Lo}{H:Hp}{h:List<|d×V}{g:List<|d×Z}(r:i4 K al lo H h g):h.map Prod.fst=g.map Prod.fst:=by
 induction r with
 |nil=>rfl
 |cons a _ i=>rw[aE,aE,i]
def Dp(V:X.calm=true)(U:Gl X "sorted")(T:X.mg "sorted"=none)(P:ZE X E o fo)
    (O:starEach [o] X.env=(false,eval o X.env)::starEach [] X.env)(t:X.bk pos []):ZE X E (.Call (.Name "sorted" F) [o] [] pos) (n3 fo):=by
 obtain⟨to,M,G⟩:=P;refine⟨_,KW V M U T O t,λB al lo H σ ρ S Q s h=>G _ _ _ _ _ _ _ _ s<|gZ.mono (gZ.split h) λz g i H1 S1 l x1 y1 d v D=>⟨v,rfl,?_⟩⟩;split at d
 ·rename_i n;split at d
  ·rename_i N q I;split at d
   ·rename_i w;obtain⟨a,R,rfl⟩:=D;obtain⟨A,Z,u⟩:=l.cell R q;refine⟨a,A,g,rfl,Z,λb y Y=>l.st.tl I b _ Y (.inl ⟨y,rfl⟩),by rw[u.keys];exact w.1,by rw[u.length];exact w.2,λp ws r x=>?_⟩;rw[u.keys]at x;exact d g i _ (l.grow<|jG r) (.of<|jG (K:=X.K) r) .refl _ (show i6 X.K g i _ (.ref p) (.d<|.lst _)from x.nH r (l.fresh p r))
   ·exact d.elim
  ·exact d.elim
 ·exact d.elim
def Dm(hu:X.A.units+64<cLine)(Z:ZE X E o fo)(hk:ZE X E k j)(Y:vd k):ZE X E (.Subscript o k pos) (nh fo j):=by
 obtain⟨to,P,I⟩:=Z;obtain⟨tk,R,M⟩:=hk;refine⟨_,KG (by omega) P R Y,λB al lo H σ ρ S Q s h=>I _ _ _ _ _ _ _ _ s<|gZ.mono (gZ.split h) λz kA T H1 S1 A x1 y1 h1 v D=>M _ _ _ _ _ _ _ _ A<|gZ.mono (gZ.split h1) λy g l r S2 p x2 t d u G=>?_⟩;split at d
 ·rename_i n ds;split at d
  ·rename_i V U N q;split at d
   ·rename_i z0 O;obtain⟨a,hn,rfl⟩:=D;obtain⟨b,vs,rfl,hb,i⟩:=Rep.lg (show Rep X.K g r u (.tup ds)from G);have ev:=wo i N;subst ev;obtain⟨x,g1,g2⟩:=p.cell (t _ _ hn) q;obtain⟨w,e1,e2⟩:=g2.val O;exact⟨a,b,x,V,w,rfl,rfl,.inl g1,hb,e1,d g l r p .refl .refl w e2⟩
   ·exact d.elim
  ·exact d.elim
 ·exact d.elim
end
def nA:D->D->R D
 |.tup (x::xs),.tup (y::a)=>if(x::xs).length+(y::a).length<=sizeLine then .ok (.tup<|(x::xs)++(y::a))else .bad
 |_,_=>.bad
def wW:jz X E (binaryOp .Add) nA:=by
 refine⟨_,J4,λal H x y t s Q fr n m h=>?_⟩;unfold nA at h;split at h
 ·rename_i d u v r;split at h
  ·rename_i z;obtain⟨a,l,rfl,q,j⟩:=n.lg;obtain⟨b,k,rfl,o,i⟩:=m.lg;have f:=j.length;have c:=i.length;refine⟨a,b,l,k,rfl,rfl,q,o,λe=>by rw[e]at f;simp at f,by rw[f,c];exact z,λe=>by rw[e]at c;simp at c,λ_ p g=>h _ (jG g) _ ((j.append i).yi g (fr p g))⟩
  ·exact h.elim
 ·exact h.elim
end P2
namespace P2
open PySem
def jQ(a:Array Nat):Prop:=a.toList.Pairwise (· < ·)
def jQ.lt(h:jQ xs)(a:i<j)(c:j<xs.size):xs[i]<xs[j]:=by have:=eR.mp h i j (by simpa using fL a c) (by simpa using c) a;simpa using this
theorem vp(xs j)(h:jQ xs):∀a lo hi,lo<=hi->hi<=xs.size->hi - lo<=a->(∀i,(c:i<xs.size)->i<lo->xs[i]<j)->(∀i,(c:i<xs.size)->hi<=i->j<=xs[i])->
 SetTable.below.go xs j a lo hi<=xs.size/\(∀i,(c:i<xs.size)->i<SetTable.below.go xs j a lo hi->xs[i]<j)/\∀i,(c:i<xs.size)->SetTable.below.go xs j a lo hi<=i->j<=xs[i]
 |0,lo,hi,q,k,p,g,f=>by
  have e:lo=hi:=by omega
  subst e;show lo<=xs.size/\_;exact⟨k,g,f⟩
 |a+1,lo,hi,q,k,p,g,f=>by
  unfold SetTable.below.go;by_cases m:lo<hi
  ·rw[ai m];have l:(lo+hi)/2<xs.size:=by omega
   have r:xs.getD ((lo+hi)/2) j=xs[(lo+hi)/2]:=by simp[Array.getD,l]
   dsimp only;rw[r];by_cases d:xs[(lo+hi)/2]<j
   ·rw[ai d];refine vp xs j h a _ hi (by omega) k (by omega) (λi c n=>?_) f;by_cases e:i=(lo+hi)/2;·subst e;exact d
    ·exact fL (h.lt (show i<(lo+hi)/2 by omega) l) d
   ·rw[ak d];refine vp xs j h a lo _ (by omega) (by omega) (by omega) g λi c o=>?_;by_cases e:i=(lo+hi)/2;·subst e;omega
    ·have:=h.lt (show(lo+hi)/2<i by omega) c;omega
  ·rw[ak m];have e:lo=hi:=by omega
   subst e;exact⟨k,g,f⟩
def sF(h:jQ xs)(j):SetTable.below xs j<=xs.size/\(∀i,(a:i<xs.size)->i<SetTable.below xs j->xs[i]<j)/\∀i,(a:i<xs.size)->SetTable.below xs j<=i->j<=xs[i]:=
 vp xs j h xs.size 0 xs.size (bD _) (ah _) (ah _) (λi _ h=>absurd h<|cm _) λi a h=>absurd a (fN.mpr h)
def Ey(h:jQ xs)(hi:i<xs.size):SetTable.below xs (xs[i]+1)=i+1:=by
 obtain⟨j,d,c⟩:=sF h (xs[i]+1);generalize SetTable.below xs (xs[i]+1)=b at*;rcases dQ b (i+1)with q|q|q;·have:=c i hi (by omega);omega
 ·exact q
 ·have a:i+1<xs.size:=by omega
  have g:=d (i+1) a q;have f:xs[i]<xs[i+1]:=h.lt (show i<i+1 by omega) a;omega
def Ez(h:jQ xs):SetTable.below xs 0=0:=by
 obtain⟨d,a,c⟩:=sF h 0;generalize SetTable.below xs 0=b at*;cases b with
 |zero=>rfl
 |succ b=>exact absurd (a 0 (by omega)<|by omega) (cm _)
def Oq(h:jQ xs)(n:xs[SetTable.below xs j]?≠some j):jQ (SetTable.insertAt xs (SetTable.below xs j) j):=by
 obtain⟨s,p,o⟩:=sF h j;generalize r:SetTable.below xs j=b at*;have d:∀i,(c:i<xs.size)->b<=i->j<xs[i]:=λi c l=>by
  rcases gD j xs[i]with q|q;·exact q
  ·have t:=o b (by omega) (ah _);have:xs[b]<=xs[i]:=by
    by_cases e:b=i;·subst e;exact ah _
    ·exact bJ (h.lt (show b<i by omega) c)
   exact absurd (by rw[aH<|show b<xs.size by omega];exact cn some (by omega)) n
 unfold jQ;have e:(SetTable.insertAt xs b j).toList=xs.toList.take b++j::xs.toList.drop b:=by unfold SetTable.insertAt;simp[gm];exact dR (by rw[cL,av];exact ah _)
 rw[e];refine List.pairwise_append.mpr ⟨fZ (List.take_sublist _ _) h,dF.mpr ⟨λy a=>?_,fZ (List.drop_sublist _ _) h⟩,λx g y a=>?_⟩
 ·obtain⟨i,hi,rfl⟩:=bK a;rw[List.getElem_drop];rw[cL,av]at hi;simpa using d (b+i) (by omega) (by omega)
 ·obtain⟨i,hi,rfl⟩:=bK g;rw[cw,av]at hi;have f:=p i (by omega) (by omega);rw[List.getElem_take];rcases aF.mp a with rfl|a;·simpa using f
  ·obtain⟨k,m,rfl⟩:=bK a;rw[List.getElem_drop];rw[cL,av]at m;have:=d (b+k) (by omega) (by omega);have q:xs[i]<xs[b+k]:=by omega
   simpa using q
structure vf(bt:Bool)(t:SetTable):Prop where
 led:t.led=!bt
 mD:t.plain=true->jQ t.place
 mq:t.plain=true->t.dummies=#[]
open L2 PySem.Spec PySem.Calls PySem.W
open PyProof.Rows hiding St K
def vK:Value->Key
 |.int i _=>.inl i
 |.str x _=>.inr x
 |_=>.inl 0
def Qk{v}(h:RelV (kV k) v):vK v=k:=by
 cases k with
 |inl i=>obtain⟨t,rfl⟩:=(show∃t,v=Value.int i t from h);rfl
 |inr x=>obtain⟨t,rfl⟩:=(show∃t,v=Value.str x t from h);rfl
def OG{v}(h:RelV (kV k) v):v.scannable=true:=by
 cases k with
 |inl i=>obtain⟨t,rfl⟩:=(show∃t,v=Value.int i t from h);rfl
 |inr x=>obtain⟨t,rfl⟩:=(show∃t,v=Value.str x t from h);rfl
section
variable{f:Program}{w:World}{A:Around}{R:Result->Shared->Prop}{I:Addr}{K H:List Addr}{G:Array GenState->Array GenState->Prop}{n:Nat}{P:Nat->Value->Prop}{St:Nat->Shared->Prop}
def OP(W:WalksS f w A.in1 I K H G n P St)(S:Addr)(C:S∉K){J:Nat->Shared->Prop}(mv:∀i s a,St i s->Moved H G s a->J i s->J i a)
    (step:∀i v s (Q:Bool->Shared->Prop) E,i<n->P i v->J i s->(∀r x tk,s.toks<=tk->Heap.SameBut S s.heap x->J (i+1) {s with heap:=x,toks:=tk}->Q r {s with heap:=x,toks:=tk})->wpAny (model f w) A.in1 (setAdd S v) Q E s):
    ∀(k i:Nat) (s:Shared),n - i=k->i<=n->St i s->J i s->(∀a,Moved (S::H) G s a->J n a->R (.ok<|.ret .none) a)->codeAny (model f w) A (.builtin "set.update.loop" ⟨[.ref S,.ref I],[]⟩) R s:=by
 have g:∀b∈H,b∈S::H:=λb t=>bu _ t;intro k;induction k with
 |zero=>
  intro i s N hi c L D;have z:i=n:=by omega
  subst z;refine bY dr ?_;rw[bT cq _];show wpAny _ A.in1 (pyNext (.ref I)>>=_) _ _ s;refine aa (W.done s _ _ c λa d=>?_);show wpAny _ A.in1 (ret Value.none) _ _ a;exact af (D a (d.mono g)<|mv _ _ _ c d L)
 |succ k M=>
  intro i s N hi c L D;have j:i<n:=by omega
  refine bY dr ?_;rw[bT cq _];show wpAny _ A.in1 (pyNext (.ref I)>>=_) _ _ s;refine aa (W.item i s _ _ j c λv a O m d=>?_);show wpAny _ A.in1 (holding [v] (setAdd S v)>>=_) _ _ a;refine aa (bU<|step i v a _ _ j O (mv _ _ _ c d L) λr x tk l p F=>?_);refine af ⟨d7 cq _,M (i+1) _ (by omega) j (W.frame _ a _ _ m l λb t o e=>?_) F λy q u=>?_⟩;·rw[p.2 b (λh:b=S=>C<|by rw[<-h];exact t)];exact e
  ·refine D y (Moved.trans W.gtrans ((d.mono g).then_heap l λb o t e=>?_) q) u;rw[p.2 b (λh:b=S=>t<|by rw[h];exact bP)];exact e
def Je{a:Type}{val:Nat->a}{i:Nat}{c:List a}(d:∀x,x∈c↔x∈(List.range i).map val)(x:a):x∈val i::c↔x∈(List.range<|i+1).map val:=by rw[List.range_succ,bO,bx,aF,d x];show x=val i\/_↔_\/x∈[val i];rw[aJ];exact or_comm
variable{E:ia}{s:Shared}
abbrev lD(w:World):Obj:={cls:=.type "set",dict:=none,data:=.set #[] 0 (.fresh 0 0<|!(w.params.followText "set-order"))}
def E8(a:Value){Q₁:ia}(h:Q₁ (.ref s.heap.objs.size) {s with heap:=s.heap.push<|lD w}):
    codeAny (model f w) A (.call (.builtin "set.__new__") ⟨[.type "set",a],[]⟩) (wants Q₁ E) s:=by
 refine codeAny_of_tree ?_;show wpAny _ A.in1 (do checkBuiltinCall "set.__new__" ⟨[.type "set",a],[]⟩;again (.builtin "set.__new__" ⟨[.type "set",a],[]⟩)) _ _ s;refine aa (gh (PySem.F.newCall_set_1 a)<|af ⟨d7 f3 _,bY PySem.F.entry_set_new ?_⟩);rw[bT f3 _];unfold Builtin.«set.__new__» Builtin.Frozenset.newClass;have c:=sub_set_self;obtain⟨j,g,d,tk,i⟩:=s;dsimp only
 wp_walk
 refine fE (af ?_);dsimp only;simp only[newObj];refine aa (wpAny_alloc<|af ?_);exact af h
def ET{l:Addr}{a:Array Value}{F:Heap->Prop}{Q:ia}(hh:A.handled=none)(hl:s.heap.IsList l a)
    (u:∀{I:Addr} {K H:List Addr} {G:Array GenState->Array GenState->Prop} {St:Nat->Shared->Prop} {R:Result->Shared->Prop} {z:Shared},WalksS f w A.in1.in1.in1 I K H G a.size (λi v=>a[i]?=some v) St->s.heap.objs.size∉K->St 0 z->z.heap.get? s.heap.objs.size=some (lD w)->
      (∀b o,s.heap.get? b=some o->z.heap.get? b=some o)->(∀b∈H,s.heap.objs.size<b)->(∀i s,St i s->∀b∈H,∀o L m,s.heap.get? b=some o->o.data=.seq L m->o.cls=.type "tuple"->False)->(∀C,Moved (s.heap.objs.size::H) G z C->F C.heap->R (.ok<|.ret .none) C)->
      codeAny (model f w) A.in1.in1 (.builtin "set.update.loop" ⟨[.ref s.heap.objs.size,.ref I],[]⟩) R z)
    (h:∀(g:Heap) (tk:Nat),F g->(∀b o,b<s.heap.objs.size->s.heap.get? b=some o->g.get? b=some o)->Q (.ref s.heap.objs.size) {s with heap:=g,toks:=tk}):
    wpAny (model f w) A (call (.type "set") [.ref l]) Q E s:=by
 obtain⟨c,tl,RK⟩:=PySem.F.called_set.mro;have RI:=PySem.F.called_set.made;have hsub:=PySem.F.called_set.sub;refine wpAny_call (codeAny_of_tree ?_);show wpAny _ _ (callAny (.type "set") _) _ _ _;refine af ⟨Code.quiet_builtin _<|by decide+kernel,bY PySem.F.entry_type_call ?_⟩;rw[Around.under_plain (weight_type_call_type "set" [.ref l] []) rfl];have h1:=PySem.F.called_set.notType;have h2:=PySem.F.called_set.canCreate;have Rz:=PySem.F.typeCall_set_1 (.ref l);repeat(any_goals(first|assumption|wp_step))
 refine dM (E8 (.ref l) (E:=E) (Q₁:=λJ p=>J=.ref s.heap.objs.size/\p={s with heap:=s.heap.push<|lD w}) ⟨rfl,rfl⟩) λr p hr=>?_;cases r with
 |error e=>exact hr
 |ok fl=>
  cases fl with
  |ret J=>
   obtain⟨rfl,rfl⟩:=hr;have hS:(s.heap.push<|lD w).get? s.heap.objs.size=some (lD w):=aw _ rfl;have hT:Shared.TypeIs {s with heap:=s.heap.push<|lD w} (.ref s.heap.objs.size) "set":=⟨_,hS,rfl⟩;have RE:=PySem.F.called_set.init.lookup;have Rx:=PySem.F.called_set.init.bind (.ref s.heap.objs.size);repeat(any_goals(first|assumption|wp_step))
   refine dM (d9 (R:=wants (λr k=>r=.none/\∃g tk,k={s with heap:=g,toks:=tk}/\F g/\
    (∀b o,b<s.heap.objs.size->s.heap.get? b=some o->g.get? b=some o)) E) PySem.F.called_set.init.plain PySem.F.entry_set_init (check_set_init_1 hT ?_)) λD k d=>?_
   ·obtain⟨ol,N,Z,nl,Y⟩:=hl;obtain⟨RY,t,R0,j⟩:=ol;simp only at Z Y;subst Z;subst Y;have M:(s.heap.push<|lD w).get? l=some {cls:=.type "list",dict:=t,data:=.seq a nl,slots:=j}:=ae _ N;have RO:=PySem.F.sub_list_set;have RN:=PySem.F.sub_list_frozenset;have RL:(Value.type "list"==Value.type "dict")=false:=by decide
    have V:(s.heap.push<|lD w).IsList l a:=⟨_,M,rfl,nl,rfl⟩;unfold Builtin.«set.__init__» noKeywords Builtin.Frozenset.updateFrom;generalize GI:pyIter=PI
    wp_walk
    subst GI;refine eS V ?_;refine aa (gj ?_);have U:l<s.heap.objs.size:=Heap.lt_size N;have G0:A.in1.in1.in1.handled=none:=by simp[hh]
    have T:l≠(s.heap.push<|lD w).objs.size:=by rw[bI];exact aO (bL U)
    have GJ:s.heap.objs.size∉[(s.heap.push<|lD w).objs.size,l]:=by rw[bI];simp only[aF,aJ,cx,fm,not_or];exact⟨aO<|cb _,cc U⟩
    refine u ((Walks.list G0 _ l T a).toS) GJ ⟨⟨_,aw _ rfl,rfl,rfl⟩,(V.push _)⟩ (ae _ hS) (λb o e=>ae _<|ae _ e) (λb q=>?hw) ?hnt ?hR;case hw=>rw[aJ]at q;rw[q,bI];exact cb _
    case hnt=>intro i s3 Hg b q o L m ho hd hc;rw[aJ]at q;subst q;obtain⟨⟨o',O,Ay,_⟩,_⟩:=Hg;rw[ho]at O;cases O;rw[hc]at Ay;exact absurd Ay (by simp)
    case hR=>
     intro C hm x;obtain⟨g,g',d',P1,Kr⟩:=C;have eg:g'=s.gens:=hm.gens;have ed:d'=s.drawn:=hm.drawn;have eo:Kr=s.os:=hm.os;subst eg;subst ed;subst eo;show wpAny _ _ _ _ _ _;refine af ?_;show wpAny _ _ (ret Value.none) _ _ _;refine af ⟨rfl,g,P1,rfl,x,λb o q e=>?_⟩
     ·have GQ:b≠s.heap.objs.size:=aO q;have GR:b≠(s.heap.push<|lD w).objs.size:=by
       rw[bI];exact aO (bL q)
      exact hm.heap b o (by simp only[aF,aJ,cx,fm,not_or];exact⟨GQ,GR⟩) (ae _<|ae _ e)
   ·cases D with
    |error e=>exact d
    |ok y=>
     cases y with
     |ret r=>
      obtain⟨rfl,g,tk,rfl,x,G6⟩:=d;repeat(any_goals(first|assumption|wp_step))
      exact h _ _ x G6
     |_=>exact d.elim
  |_=>exact hr.elim
def l6:Slot "set_iterator" "__next__" "set_iterator.__next__":=
 .of (owner:="set_iterator") (n:="__next__") (by rw[typeLookup_type,builtinLookup_eq_fast];kernel_rfl) (by decide+kernel) (by decide+kernel) (by decide+kernel)
  (by first|exact .inl (by decide+kernel)|exact .inr (by decide+kernel)) (by rw[gp];kernel_rfl)
def sS:entryFor table "set_iterator.__next__"=some Builtin.«set_iterator.__next__»:=entryFor_of_tree (by kernel_rfl)
def Bx:Manifest.owners.lookup (String.ofList ['r','o','t','a','r','e','t','i','_','t','e','s'].reverse)=some Manifest.sig_set_iterator:=by kernel_rfl
def sx(a):argsOk "set_iterator.__next__" ⟨[a],[]⟩:=by unfold argsOk;rw[signature?_of (id:="set_iterator.__next__") (n:=['_','_','t','x','e','n','_','_']) (o:=['r','o','t','a','r','e','t','i','_','t','e','s']) (by kernel_rfl) Bx];kernel_rfl
def F8:entryFor table "set.__iter__"=some Builtin.«frozenset.__iter__»:=
 entryFor_alias (id':="frozenset.__iter__") (by kernel_rfl) rfl (by decide+kernel) (by kernel_rfl)
theorem xi{a:Type}:∀(l:List a) i (h:i<l.length),(l[i]::l.eraseIdx i).Perm l
 |x::l,0,_=>.refl _
 |x::l,i+1,h=>by
  have hi:i<l.length:=by simpa using h
  show(l[i]::x::l.eraseIdx i).Perm (x::l);exact(List.Perm.swap _ _ _).trans (List.Perm.cons x<|xi l i hi)
def uL{Q:Bool->Shared->Prop}(h:Q (w.params.followText "set-order") s):wpAny (model f w) A setsByText Q E s:=by unfold setsByText;exact aa (fE<|af h)
def wp_choose{n}{Q:Nat->Shared->Prop}(a:n≠0)(h:∀i d,i<n->Q i {s with drawn:=d}):wpAny (model f w) A (choose src n) Q E s:=λg p c=>by show Sem.wp _ _ (.choose src n .pure) _ _ _ _;rw[Sem.wp_choose];refine⟨a,?_⟩;exact h _ _ (dG _<|Nat.pos_of_ne_zero a)
theorem C8{g:Type}:∀n (xs:List g) {s:Shared} {Q:List g->Shared->Prop},xs.length=n->(∀c d,c.Perm xs->Q c {s with drawn:=d})->wpAny (model f w) A (drawOrder n xs) Q E s
 |0,xs,s,Q,a,h=>by have e:xs=[]:=fF.mp a;subst e;unfold drawOrder;exact af (h [] s.drawn<|.refl _)
 |n+1,[],s,Q,a,h=>by simp at a
 |n+1,x::xs,s,Q,a,h=>by unfold drawOrder;refine aa (wp_choose (by simp) λi d hi=>?_);rw[au hi];dsimp only;refine aa (C8 n ((x::xs).eraseIdx i) (by rw[gq,ai hi];omega) λc d2 j=>af ?_);refine h _ d2 ?_;exact(List.Perm.cons _ j).trans (xi (x::xs) i hi)
def jP(h:Heap)(c:Addr)(first:Value)(i:Nat)(a:Addr)(n d:Nat):Prop:=∃o,h.get? c=some o/\o.cls=.type "set_iterator"/\o.data=.fields #[first,.int i 0,.ref a,.int n 0,.int d 0]
def j3(h:Heap)(a:Addr)(c:Array<|Int×Value)(d:Nat)(t:SetTable):Prop:=∃o,h.get? a=some o/\o.ExactSet/\o.data=.set c d t/\t.fits c.size=true
def j3.at'{h':Heap}{t}(x:j3 h a es ep t)(k:∀o,h.get? a=some o->h'.get? a=some o):j3 h' a es ep t:=let⟨o,c,r⟩:=x;⟨o,k o c,r⟩
def jP.at'{h':Heap}{n}(x:jP h it first i a n ep)(k:∀o,h.get? it=some o->h'.get? it=some o):jP h' it first i a n ep:=let⟨o,c,r⟩:=x;⟨o,k o c,r⟩
def jP.typeIs{s:Shared}{n}(x:jP s.heap it first i a n ep):s.TypeIs (.ref it) "set_iterator":=let⟨o,c,d,_⟩:=x;⟨o,c,d⟩
variable{y a:Addr}{i z:Nat}{C:Array<|Int×Value}{t:SetTable}
def Cv{Q:Option (Value×Nat)->Shared->Prop}(p:w.params.followText "set-order"=false)(k:j3 s.heap a C z t)(g:(!t.plain&&decide (C.size>1))=false)(d:t.led=true)
 (h:Q (match C[SetTable.below t.place slot]?,t.place[SetTable.below t.place slot]? with|some (_,x),some j=>some (x,j+1)|_,_=>none) s):wpAny (model f w) A (setNext a slot i z) Q E s:=by obtain⟨o,l,_,m,hf⟩:=k;unfold setNext;refine aa (bG l m hf ?_);dsimp only;refine aa (uL ?_);rw[p];refine aL (λc=>absurd c aA) (λ_=>?_);refine aL (λc=>absurd (show(!t.plain&&decide (C.size>1))=true from c) (by rw[g];exact aA)) (λ_=>?_);refine aa ?_;show wpAny _ _ (if(!t.led&&!C.isEmpty)=true then _ else _) _ _ _;rw[d];refine aL (λc=>absurd (show false=true from c) aA) (λ_=>af ?_);exact af h
def Cw{Q:Option (Value×Nat)->Shared->Prop}(j:w.params.followText "set-order"=true)(k:j3 s.heap a C z t)
 (h:Q (((pickOrder (w.params.setOrder a z) C)[i]?).map λe=>(e.2,slot)) s):wpAny (model f w) A (setNext a slot i z) Q E s:=by obtain⟨o,d,_,g,hf⟩:=k;unfold setNext;refine aa (bG d g hf ?_);dsimp only;refine aa (uL ?_);rw[j];refine aL (λ_=>?_) (λc=>absurd rfl c);refine aL (λc=>absurd c<|by simp) (λ_=>?_);refine aa ?_;unfold setWalk;refine aa (bG d g hf ?_);dsimp only;refine aa (uL ?_);rw[j];refine aL (λ_=>?_) (λc=>absurd rfl c);refine aa (fE<|af ?_);exact af h
def AN{slot nx:Nat}{x:Value}{Q:Option Value->Shared->Prop}(c:jP s.heap y (.int slot 0) i a C.size z)(v:j3 s.heap a C z t)
    (D:∀(B:Around) (M:ia) (u:Option (Value×Nat)->Shared->Prop),u (some (x,nx)) s->wpAny (model f w) B (setNext a slot i z) u M s)
    (L:∀r,jP r y (.int nx 0) (i+1) a C.size z->Heap.SameBut y s.heap r->Q (some x) {s with heap:=r}):wpAny (model f w) A (pyNext<|.ref y) Q E s:=by
 obtain⟨o,l,J,h⟩:=id c;obtain⟨N,j,F,p,m⟩:=id v;unfold pyNext
 refine aa (dw (bH (name:=Str.ofString "__next__") c.typeIs l6
  (bA l6 c.typeIs sS ?_ (sx _))))
 show wpAny _ _ (fieldsOf (.ref y)>>=_) _ _ s;refine aa (di l h ?_);show wpAny _ _ (setEntries a>>=_) _ _ s;refine aa (cJ j p m ?_);refine aL (λq=>absurd q<|by simp) (λ_=>?_);show wpAny _ _ (setNext a (Int.toNat slot) (Int.toNat i) (Int.toNat z)>>=_) _ _ s;rw[bo,bo,bo];refine aa (D _ _ _ ?_);show wpAny _ _ (setField (.ref y) 0 (rawInt nx)>>=_) _ _ s;refine aa (bN l h (by simp) ?_);have g:=ba (Obj.mapFields (·.setIfInBounds 0 (rawInt nx))) l (bE<|bb h _);have d:(Obj.mapFields (·.setIfInBounds 0 (rawInt nx)) o).data=.fields #[rawInt nx,.int i 0,.ref a,.int C.size 0,.int z 0]:=by rw[bb h];simp
 show wpAny _ _ (setField (.ref y) 1 (rawInt<|(i:Int)+1)>>=_) _ _ _;refine aa (bN g d (by simp) ?_);have k:=ba (Obj.mapFields (·.setIfInBounds 1 (rawInt<|(i:Int)+1))) g (bE<|bb d _);show wpAny _ _ (pure _) _ _ _;exact af ⟨_,rfl,af<|L _ ⟨_,k,(c7 ..).trans ((c7 ..).trans J),by rw[bb d];simp[rawInt]⟩<|(bf ..).trans (bf ..)⟩
def AM{c:Nat}{Q:Option Value->Shared->Prop}(x:A.handled=none)(d:jP s.heap y (.int c 0) i a C.size z)(u:j3 s.heap a C z t)
    (v:∀(B:Around) (J:ia) (r:Option (Value×Nat)->Shared->Prop),r none s->wpAny (model f w) B (setNext a c i z) r J s)
    (F:∀q,Heap.ExtBut y s.heap q->Q none {s with heap:=q}):wpAny (model f w) A (pyNext<|.ref y) Q E s:=by
 obtain⟨o,l,M,p⟩:=id d;obtain⟨L,g,D,j,h⟩:=id u;unfold pyNext
 refine aa (dw (bH (name:=Str.ofString "__next__") d.typeIs l6
  (bA l6 d.typeIs sS ?_ (sx _))))
 show wpAny _ _ (fieldsOf (.ref y)>>=_) _ _ s;refine aa (di l p ?_);show wpAny _ _ (setEntries a>>=_) _ _ s;refine aa (cJ g j h ?_);refine aL (λk=>absurd k<|by simp) (λ_=>?_);show wpAny _ _ (setNext a (Int.toNat c) (Int.toNat i) (Int.toNat z)>>=_) _ _ s;rw[bo,bo,bo];refine aa (v _ _ _ ?_);show wpAny _ _ (setField (.ref y) 2 .none>>=_) _ _ s;refine aa (bN l p (by simp) ?_);show wpAny _ _ (newExc (.type "StopIteration") []>>=_) _ _ _;refine aa ?_;simp only[newExc,newTuple];refine aa (aT ?_ (by size_fits));refine aa (m:=firstArgMember _ _) (gh (a:=Value.none) (by first|rfl|(simp only[firstArgMember];rfl)) ?_);refine aT ?_ (by size_fits);simp only[raiseNew];refine aa (wpAny_handled ?_);rw[show A.in1.handled=none from x];refine aa (af<|wpAny_throw ?_);refine aa (d5 (T:="StopIteration") (b:=true) ⟨_,aw _ rfl,rfl⟩ gi ?_);exact af (F _<|((bf ..).extBut.push _).push _)
def Hz{p:Addr}{D:Obj}{x:Array Value}{m q:Nat}{tk:Tok}{e:Int×Value}{Q:Option Value->Shared->Prop}(L:s.heap.get? p=some D)(l:D.data=.seq x m)(c:jP s.heap y (.ref p) i a C.size z)(F:j3 s.heap a C z t)
    (J:x[i]?=some (.int q tk))(N:C[q]?=some e)
    (T:∀v,jP v y (.ref p) (i+1) a C.size z->Heap.SameBut y s.heap v->Q (some e.2) {s with heap:=v}):wpAny (model f w) A (pyNext<|.ref y) Q E s:=by
 obtain⟨o,u,O,k⟩:=id c;obtain⟨U,g,M,j,h⟩:=id F;unfold pyNext
 refine aa (dw (bH (name:=Str.ofString "__next__") c.typeIs l6
  (bA l6 c.typeIs sS ?_ (sx _))))
 show wpAny _ _ (fieldsOf (.ref y)>>=_) _ _ s;refine aa (di u k ?_);show wpAny _ _ (setEntries a>>=_) _ _ s;refine aa (cJ g j h ?_);refine aL (λd=>absurd d<|by simp) (λ_=>?_);show wpAny _ _ (seqItems? (.ref p)>>=_) _ _ s;refine aa (eN L l ?_);dsimp only;rw[show(Int.toNat (i:Int))=i from bo i,J];show wpAny _ _ (setNextDrawn a (Int.toNat q) (Int.toNat z)>>=_) _ _ s;rw[bo,bo];refine aa ?_;unfold setNextDrawn;refine aa (bG g j h ?_);dsimp only;refine aL (λd=>absurd d<|by simp) (λ_=>?_);rw[N];refine af ?_;show wpAny _ _ (setField (.ref y) 1 (rawInt<|(i:Int)+1)>>=_) _ _ s;refine aa (bN u k (by simp) ?_);have r:=ba (Obj.mapFields (·.setIfInBounds 1 (rawInt<|(i:Int)+1))) u (bE<|bb k _);show wpAny _ _ (pure _) _ _ _;exact af ⟨_,rfl,af<|T _ ⟨_,r,(c7 ..).trans O,by rw[bb k];simp[rawInt]⟩<|bf ..⟩
def Hy{Q:Option Value->Shared->Prop}(J:A.handled=none)(F:s.heap.get? p=some op)(g:op.data=.seq pl m)(c:jP s.heap y (.ref p) i a C.size z)(x:j3 s.heap a C z t)
 (D:pl[i]?=none)(M:∀v,Heap.ExtBut y s.heap v->Q none {s with heap:=v}):wpAny (model f w) A (pyNext<|.ref y) Q E s:=by
  obtain⟨o,k,O,d⟩:=id c;obtain⟨N,h,L,q,l⟩:=id x;unfold pyNext
  refine aa (dw (bH (name:=Str.ofString "__next__") c.typeIs l6
   (bA l6 c.typeIs sS ?_ (sx _))))
  show wpAny _ _ (fieldsOf (.ref y)>>=_) _ _ s;refine aa (di k d ?_);show wpAny _ _ (setEntries a>>=_) _ _ s;refine aa (cJ h q l ?_);refine aL (λu=>absurd u<|by simp) (λ_=>?_);show wpAny _ _ (seqItems? (.ref p)>>=_) _ _ s;refine aa (eN F g ?_);dsimp only;rw[show(Int.toNat (i:Int))=i from bo i,D];show wpAny _ _ (setField (.ref y) 0 (rawInt 0)>>=_) _ _ s;refine aa (bN k d (by simp) ?_);have j:=ba (Obj.mapFields (·.setIfInBounds 0 (rawInt 0))) k (bE<|bb d _);have r:(Obj.mapFields (·.setIfInBounds 0 (rawInt 0)) o).data=.fields #[rawInt 0,.int i 0,.ref a,.int C.size 0,.int z 0]:=by rw[bb d];simp
  show wpAny _ _ (setField (.ref y) 2 .none>>=_) _ _ _;refine aa (bN j r (by simp) ?_);show wpAny _ _ (newExc (.type "StopIteration") []>>=_) _ _ _;refine aa ?_;simp only[newExc,newTuple];refine aa (aT ?_ (by size_fits));refine aa (m:=firstArgMember _ _) (gh (a:=Value.none) (by first|rfl|(simp only[firstArgMember];rfl)) ?_);refine aT ?_ (by size_fits);simp only[raiseNew];refine aa (wpAny_handled ?_);rw[show A.in1.handled=none from J];refine aa (af<|wpAny_throw ?_);refine aa (d5 (T:="StopIteration") (b:=true) ⟨_,aw _ rfl,rfl⟩ gi ?_);exact af (M _<|(((bf ..).trans (bf ..)).extBut.push _).push _)
end
def CC:Slot "set_iterator" "__iter__" "set_iterator.__iter__":=
 .of (owner:="set_iterator") (n:="__iter__") (by rw[typeLookup_type,builtinLookup_eq_fast];kernel_rfl) (by decide+kernel) (by decide+kernel) (by decide+kernel)
  (by first|exact .inl (by decide+kernel)|exact .inr (by decide+kernel)) (by rw[gp];kernel_rfl)
def Ga:entryFor table "set_iterator.__iter__"=some Builtin.«dict_keyiterator.__iter__»:=
 entryFor_alias (id':="dict_keyiterator.__iter__") (by kernel_rfl) rfl (by decide+kernel) (by kernel_rfl)
def Eo(a):argsOk "set_iterator.__iter__" ⟨[a],[]⟩:=by unfold argsOk;rw[signature?_of (id:="set_iterator.__iter__") (n:=['_','_','r','e','t','i','_','_']) (o:=['r','o','t','a','r','e','t','i','_','t','e','s']) (by kernel_rfl) Bx];kernel_rfl
def we{w}{s:Shared}{n}{Q:ia}(c:jP s.heap it first i a n ep)(h:Q (.ref it) s):wpAny (model prog w) A (pyIter<|.ref it) Q E s:=by refine eU c.typeIs CC (bA CC c.typeIs Ga ?_ (Eo _));show wpAny _ _ (ret<|.ref it) _ _ s;exact af ⟨_,rfl,"set_iterator",_,c.typeIs,l6.lookup,h⟩
theorem BK{d:Type}(f):∀a k (left:List d) out,left.length=a->(pickOrder.go f a k left out).toList.Perm (out.toList++left)
 |0,k,left,out,c=>by have e:left=[]:=fF.mp c;subst e;show out.toList.Perm (out.toList++[]);rw[aZ]
 |a+1,k,left,out,c=>by unfold pickOrder.go;have hi:f k%left.length<left.length:=dG _ (by omega);rw[au hi];dsimp only;refine(BK f a (k+1) _ _<|by rw[gq,ai hi];omega).trans ?_;rw[Array.toList_push,dc];exact List.Perm.append_left _ (xi left _ hi)
def xj{c:Type}(f:Nat->Nat)(a:Array c):(pickOrder f a).toList.Perm a.toList:=by have:=BK f a.size 0 a.toList #[] (by simp);simpa [pickOrder]using this
def slotAt(a:Array Nat)(i:Nat):Nat:=if i=0 then 0 else a.getD (i - 1) 0+1
def y7(h:jQ place):∀i,i<=place.size->SetTable.below place (slotAt place i)=i
 |0,_=>Ez h
 |i+1,hi=>by
  have e:slotAt place (i+1)=place[i]+1:=by unfold slotAt;rw[ak<|by omega,eK];simp[Array.getD,show i<place.size by omega]
  rw[e];exact Ey h (by omega)
section
variable{f:Program}{w:World}{A:Around}{E:ia}{s:Shared}{a:Addr}{C:Nat}{c:Array<|Int×Value}{t:SetTable}
def C4(D:A.handled=none)(g:w.params.followText "set-order"=false)(I)(ne:a≠I)(k:jQ t.place)(J:t.place.size=c.size)(n:(!t.plain&&decide (c.size>1))=false)(j:t.led=true):
    Walks f w A I [I,a] [I] c.size (λi v=>(c.toList.map Prod.snd)[i]?=some v) (λi h=>jP h I (.int (slotAt t.place i) 0) i a c.size C/\j3 h a c C t) where
 sub:=λb g=>by simp at g;simp[g]
 frame:=λ_ _ _ d z=>⟨d.1.at' λo e=>z I (by simp) o e,d.2.at' λo e=>z a (by simp) o e⟩
 item:=λi s Q E hi d p=>by
  have y:i<t.place.size:=by omega
  refine AN (slot:=slotAt t.place i) (nx:=slotAt t.place<|i+1) (x:=c[i].2) d.1 d.2 (λB G F q=>Cv g d.2 n j ?_) λu m l=>?_
  ·rw[y7 k i<|by omega,aH hi,aH y];have e:slotAt t.place (i+1)=t.place[i]+1:=by
    unfold slotAt;rw[ak<|by omega,eK];simp[Array.getD,y]
   rw[e]at q;exact q
  ·exact p _ u s.toks (by rw[aB,aU,aH hi];rfl) ⟨m,d.2.at' λo e=>l.extBut a o ne e⟩ λb o g e=>l.extBut b o (λh=>g<|by simp[h]) e
 done:=λs Q E d p=>by refine AM D d.1 d.2 (λB G F q=>Cv g d.2 n j ?_) λu r=>p u s.toks λb o g e=>r b o (λh=>g<|by simp[h]) e;rw[y7 k c.size<|by omega,bV<|ah _];exact q
 self:=λi s Q E d p=>we d.1 p
def Qs(y:A.handled=none)(g:w.params.followText "set-order"=true)(I:Addr)(ne:a≠I):
    Walks f w A I [I,a] [I] c.size (λi v=>((pickOrder (w.params.setOrder a C) c).toList.map Prod.snd)[i]?=some v) (λi h=>jP h I (.int (0:Nat) 0) i a c.size C/\j3 h a c C t) where
 sub:=λb g=>by simp at g;simp[g]
 frame:=λ_ _ _ d u=>⟨d.1.at' λo e=>u I (by simp) o e,d.2.at' λo e=>u a (by simp) o e⟩
 item:=λi s Q E hi d l=>by
  have m:(pickOrder (w.params.setOrder a C) c).size=c.size:=by have:=(xj (w.params.setOrder a C) c).length_eq;simpa using this
  have r:i<(pickOrder (w.params.setOrder a C) c).size:=by omega
  refine AN (slot:=0) (nx:=0) (x:=(pickOrder (w.params.setOrder a C) c)[i].2) d.1 d.2 (λB D z q=>Cw g d.2 ?_) λp k j=>?_
  ·rw[aH r];exact q
  ·exact l _ p s.toks (by rw[aB,aU,aH r];rfl) ⟨k,d.2.at' λo e=>j.extBut a o ne e⟩ λb o g e=>j.extBut b o (λh=>g<|by simp[h]) e
 done:=λs Q E d l=>by
  have m:(pickOrder (w.params.setOrder a C) c).size=c.size:=by have:=(xj (w.params.setOrder a C) c).length_eq;simpa using this
  refine AM y d.1 d.2 (λB D z q=>Cw g d.2 ?_) λp n=>l p s.toks λb o g e=>n b o (λh=>g<|by simp[h]) e;rw[bV<|by omega];exact q
 self:=λi s Q E d l=>we d.1 l
def Qr(P:A.handled=none)(I p)(ne:a≠I)(O:p≠I){d:List Nat}(k:d.Perm<|List.range c.size):
    Walks f w A I [I,a,p] [I] c.size (λi v=>(d.map λq=>(c.getD q (0,.none)).2)[i]?=some v) (λi h=>jP h I (.ref p) i a c.size C/\j3 h a c C t/\∃j m,h.get? p=some j/\j.data=.seq (d.map λ(i:Nat)=>rawInt i).toArray m) where
 sub:=λb r=>by simp at r;simp[r]
 frame:=λ_ _ _ g G=>⟨g.1.at' λo e=>G I (by simp) o e,g.2.1.at' λo e=>G a (by simp) o e,let⟨j,m,x,u⟩:=g.2.2;⟨j,m,G p (by simp) j x,u⟩⟩
 item:=λi s Q E hi g z=>by
  obtain⟨F,D,j,m,x,u⟩:=g;have N:d.length=c.size:=by have:=k.length_eq;simpa using this
  have n:i<d.length:=by omega
  have M:d[i]<c.size:=by have:=k.mem_iff.mp (d4 n);simpa using this
  refine Hz (q:=d[i]) (tk:=0) (e:=c[d[i]]) x u F D (by simp[n,rawInt]) (aH M) λL y l=>?_;exact z _ L s.toks (by rw[aB,au n];simp[Array.getD,M]) ⟨y,D.at' λo e=>l.extBut a o ne e,j,m,l.extBut p j O x,u⟩ λb o r e=>l.extBut b o (λh=>r<|by simp[h]) e
 done:=λs Q E g z=>by
  obtain⟨F,D,j,m,x,u⟩:=g;have N:d.length=c.size:=by have:=k.length_eq;simpa using this
  exact Hy P x u F D (by simp[N]) λL J=>z L s.toks λb o r e=>J b o (λh=>r<|by simp[h]) e
 self:=λi s Q E g z=>we g.1 z
def K2{g:List Nat}(d:g.Perm<|List.range c.size):(g.map λq=>(c.getD q (0,.none)).2).Perm (c.toList.map Prod.snd):=by
 refine(d.map _).trans ?_;have:(List.range c.size).map (λq=>(c.getD q (0,.none)).2)=c.toList.map Prod.snd:=by
  apply fA;·simp
  ·intro i h j;have:i<c.size:=by simpa using h
   simp[Array.getD,this]
 rw[this]
def OO{Q:ia}(Z:j3 s.heap a c C t)(tok:vf (w.params.followText "set-order") t)(hn:c.size<=sizeLine)
    (U:∀(V:Heap) (d:Drawn) (L:Addr) (fp:List Addr) (J:List Value) (St:Nat->Heap->Prop),L∈fp->s.heap.objs.size<=L->(∀b∈fp,(b=a\/s.heap.objs.size<=b)/\b<V.objs.size)->J.Perm (c.toList.map Prod.snd)->
      (∀B:Around,B.handled=none->Walks f w B L fp [L] c.size (λi v=>J[i]?=some v) St)->St 0 V->(∀b o,s.heap.get? b=some o->V.get? b=some o)->Q (.ref L) {s with heap:=V,drawn:=d}):
    wpAny (model f w) A (pyIter<|.ref a) Q E s:=by
 obtain⟨o,G,hex,R,hf⟩:=id Z;have hT:s.TypeIs (.ref a) "set":=⟨o,G,hex.1⟩;have n:a<s.heap.objs.size:=Heap.lt_size G;have M:t.place.size=c.size:=by simp only[SetTable.fits,aN,dg]at hf;exact hf.1
 refine eU hT f6 (bA f6 hT F8 ?_ (PySem.F.args_set_iter_1 _));unfold Builtin.«frozenset.__iter__»;refine aa (m:=Builtin.Frozenset.slot0 _ _) (af ?_);refine aa ?_;unfold Builtin.Frozenset.sizeOf;refine aa (cJ G R hf<|af ?_);refine aa ?_;unfold setDrawn;refine aa (bG G R hf ?_);dsimp only;refine aa (uL<|af ?_);have p:∀(h:(!(w.params.followText "set-order")&&(!t.plain&&decide (c.size>1)))=false),wpAny (model f w) A.in1 (setEpoch a>>=λe=>newFields "set_iterator" [rawInt 0,rawInt 0,.ref a,rawInt c.size,rawInt e]>>=λv=>ret v) (λfin s'=>∃v,fin=.done (.ret v)/\∃T,∃x,s'.TypeIs v T/\typeLookup (.type T) "__next__"=pure (some x)/\Q v s') E s:=λh=>by
  refine aa (wpAny_setEpoch_of G R hf ?_);refine aa (aT ?_);have j:jP (s.heap.push {cls:=.type "set_iterator",data:=.fields [rawInt 0,rawInt 0,.ref a,rawInt c.size,rawInt C].toArray}) s.heap.objs.size (.int (0:Nat) 0) 0 a c.size C:=⟨_,aw _ rfl,rfl,rfl⟩;refine af ⟨_,rfl,"set_iterator",_,jP.typeIs (s:={s with heap:=_}) j,l6.lookup,?_⟩;have ne:a≠s.heap.objs.size:=aO n;have u:j3 (s.heap.push {cls:=.type "set_iterator",data:=.fields [rawInt 0,rawInt 0,.ref a,rawInt c.size,rawInt C].toArray}) a c C t:=Z.at' λo e=>ae _ e;have D:∀b∈[s.heap.objs.size,a],(b=a\/s.heap.objs.size<=b)/\b<(s.heap.push {cls:=.type "set_iterator",data:=.fields [rawInt 0,rawInt 0,.ref a,rawInt c.size,rawInt C].toArray}).objs.size:=λb k=>by
   rw[bI];rcases aF.mp k with rfl|k;·exact⟨.inr<|ah _,cb _⟩
   ·rw[aJ.mp k];exact⟨.inl rfl,bL n⟩
  cases k:w.params.followText "set-order" with
  |true=>exact U _ s.drawn _ _ _ _ (.head _) (ah _) D ((xj (w.params.setOrder a C) c).map _) (λB z=>Qs z k _ ne) ⟨j,u⟩ λb o e=>ae _ e
  |false=>
   rw[k]at h;have I:t.led=true:=by rw[tok.led,k];rfl
   by_cases P:t.plain=true;·exact U _ s.drawn _ _ _ _ (.head _) (ah _) D (.refl _) (λB z=>C4 (t:=t) z k _ ne (tok.mD P) M (by simpa using h) I) ⟨j,u⟩ λb o e=>ae _ e
   ·have h1:c.size<=1:=by
     have He:t.plain=false:=by simpa using P
     rw[He]at h;simpa using h
    have Y:jQ t.place:=by
     unfold jQ;match hx:t.place.toList with
     |[]=>exact .nil
     |[x]=>exact fw _ _
     |x::y::r=>have:=cn List.length hx;rw[av]at this;simp at this;omega
    exact U _ s.drawn _ _ _ _ (.head _) (ah _) D (.refl _) (λB z=>C4 (t:=t) z k _ ne Y M (by simpa using h) I) ⟨j,u⟩ λb o e=>ae _ e
 refine aL (λO=>?_) (λO=>?_)
 ·refine aa (C8 c.size (List.range c.size) (by simp) λF d q=>?_);have hl:F.length=c.size:=by have:=q.length_eq;simpa using this
  refine aa (wpAny_newTuple ?_ (by rw[aD,hl];exact hn));have Hb:(s.heap.push<|seqObj "tuple" (F.map λ(i:Nat)=>rawInt i).toArray 0).get? a=some o:=ae _ G;refine aa (wpAny_setEpoch_of (s:={s with heap:=s.heap.push<|seqObj "tuple" (F.map λ(i:Nat)=>rawInt i).toArray 0,drawn:=d}) Hb R hf ?_);refine aa (aT ?_);have l:(s.heap.push<|seqObj "tuple" (F.map λ(i:Nat)=>rawInt i).toArray 0).objs.size=s.heap.objs.size+1:=size_push' ..;generalize hg:s.heap.push (seqObj "tuple" (F.map λ(i:Nat)=>rawInt i).toArray 0)=g at*;have P:g.get? s.heap.objs.size=some (seqObj "tuple" (F.map λ(i:Nat)=>rawInt i).toArray 0):=by rw[<-hg];exact aw _ rfl
  have kp:∀b o,s.heap.get? b=some o->g.get? b=some o:=λb o e=>by rw[<-hg];exact ae _ e
  have j:jP (g.push {cls:=.type "set_iterator",data:=.fields [.ref s.heap.objs.size,rawInt 0,.ref a,rawInt c.size,rawInt C].toArray}) g.objs.size (.ref s.heap.objs.size) 0 a c.size C:=⟨_,aw _ rfl,rfl,rfl⟩;refine af ⟨_,rfl,"set_iterator",_,jP.typeIs (s:={s with heap:=_,drawn:=d}) j,l6.lookup,?_⟩;refine U _ d g.objs.size [g.objs.size,a,s.heap.objs.size] _ _ (.head _) (by rw[l];exact dI _) (λb k=>?_) (K2 q) (λB z=>Qr z _ _ (by rw[l];exact aO (bL n)) (by rw[l];exact aO (cb _)) q) ⟨j,Z.at' λo e=>ae _ (kp a o e),_,0,ae _ P,rfl⟩ λb o e=>ae _ (kp b o e);rw[bI,l];simp only[aF,cx,fm]at k;rcases k with rfl|rfl|rfl;·rw[l];exact⟨.inr<|dI _,cb _⟩
  ·exact⟨.inl rfl,bL<|bL n⟩
  ·exact⟨.inr<|ah _,bL<|cb _⟩
 ·have N:(!(w.params.followText "set-order")&&(!t.plain&&decide (c.size>1)))=false:=Bool.eq_false_iff.mpr O;exact aa (af<|p N)
def EF:bootBuiltins "set"=some (.type "set"):=by decide+kernel
def ON{Q:Bool->Shared->Prop}(hT:s.TypeIs (.ref r) "set")(h:Q false s):wpAny (model f w) A (Builtin.List.listLengthHint<|.ref r) Q E s:=by
 unfold Builtin.List.listLengthHint;refine aa (fV hT PySem.F.slot_set_len.lookup ?_);generalize g:("set.__len__":String)=Hn
 wp_delta
 rw[show splitId Hn=some ("set","__len__")from by subst g;decide+kernel];subst g;refine aa (d5 (T:="set") (b:=true) hT (by rw[gp];kernel_rfl) ?_);refine aL (λd=>absurd d<|by decide) (λ_=>?_);refine aL (λ_=>?_) (λd=>absurd (by decide+kernel) d);refine aa (fJ hT ?_);exact af h
def OM{Q:List Value->Shared->Prop}(hh:A.handled=none)(hr:j3 s.heap a c C t)(tok:vf (w.params.followText "set-order") t)(hn:c.size<=sizeLine)
 (hQ:∀(h':Heap) tk d (us:List Value),us.Perm (c.toList.map Prod.snd)->(∀b o,s.heap.get? b=some o->h'.get? b=some o)->s.heap.objs.size<=h'.objs.size->Q us {s with heap:=h',toks:=tk,drawn:=d}):wpAny (model f w) A (collect<|.ref a) Q E s:=by
  obtain⟨o,Z,G,hd,hf⟩:=id hr;have D:a<s.heap.objs.size:=Heap.lt_size Z;unfold collect;refine aa (gj<|bY eD ?_);rw[bT eE _];show wpAny _ A.in1 (newList []>>=λl=>again<|.builtin "list.__iadd__" ⟨[l,.ref a],[]⟩) _ _ s;refine aa (aT ?_);refine af ⟨d7 cQ _,bY fD ?_⟩;rw[bT cQ _];show wpAny _ A.in1 (Builtin.List.listExtendWith (.ref s.heap.objs.size) (.ref a)<|.ref s.heap.objs.size) _ _ _;have v:(s.heap.push {cls:=.type "list",data:=.seq ([]:List Value).toArray}).get? s.heap.objs.size=some {cls:=.type "list",data:=.seq #[]}:=aw _ rfl;have x:(s.heap.push {cls:=.type "list",data:=.seq ([]:List Value).toArray}).objs.size=s.heap.objs.size+1:=bI ..;have L:∀b o,s.heap.get? b=some o->(s.heap.push {cls:=.type "list",data:=.seq ([]:List Value).toArray}).get? b=some o:=λb o e=>ae _ e;generalize s.heap.push {cls:=.type "list",data:=.seq ([]:List Value).toArray}=g at*;have Y:j3 g a c C t:=hr.at' λo e=>L a o e;have GK:Shared.TypeIs {s with heap:=g} (.ref a) "set":=⟨o,L a o Z,G.1⟩;unfold Builtin.List.listExtendWith;refine aa (fJ (T:="set") GK ?_);have h1:Builtin.List.listSameRef (.ref s.heap.objs.size) (.ref a)=false:=by simp[Builtin.List.listSameRef,cc D]
  rw[ak<|by rw[h1];decide];refine aa (OO (s:={s with heap:=g}) Y tok hn λO d it fp r St RD GZ hfp q W R V=>?_);have p:=V _ _ v;have I:s.heap.objs.size∉fp:=λM=>by
   rcases(hfp _ M).1 with z|z;·exact absurd z (cc D)
   ·exact absurd (show g.objs.size<=s.heap.objs.size from z) (by rw[x];exact Nat.not_succ_le_self _)
  have GL:Shared.TypeIs {s with heap:=O,drawn:=d} (.ref a) "set":=⟨o,V a o<|L a o Z,G.1⟩;refine aa (bU<|ON GL ?_);refine aL (λ_=>?_) (λq5=>absurd (by decide) q5);refine aa (gA ?_);refine aa ?_;show wpAny _ _ (updateSeq s.heap.objs.size (·.push .none)>>=λ_=>updateSeq s.heap.objs.size (·.pop)) _ _ _;refine aa (wpAny_updateSeq p rfl ?_);have n:=ba (Obj.mapSeq (·.push Value.none)) p rfl;refine wpAny_updateSeq (hz:=by seq_fits) n rfl ?_;have u:=ba (Obj.mapSeq (·.pop)) n rfl
  have y:∀b o,b≠s.heap.objs.size->O.get? b=some o->((O.update s.heap.objs.size (Obj.mapSeq (·.push Value.none))).update s.heap.objs.size (Obj.mapSeq (·.pop))).get? b=some o:=
   λb o N e=>(bB _ _<|cA N).trans ((bB _ _<|cA N).trans e)
  have W1:=W A.in1 hh;have P:St 0 ((O.update s.heap.objs.size (Obj.mapSeq (·.push Value.none))).update s.heap.objs.size (Obj.mapSeq (·.pop))):=W1.frame 0 _ _ R λb N o e=>y b o (λh=>I<|h▸N) e;refine af ⟨d7 PySem.F.plain_extend_loop _,codeAny_extend_loopS W1.toS hn _ I _ c.size 0 _ #[] _ rfl (bD _) P u (ItemsOf.nil _) λU i c' M J m=>?_⟩;show wpAny _ A (load s.heap.objs.size>>=_) _ _ U;refine aa (wpAny_load J ?_);show wpAny _ _ (pure i.toList) _ _ _;have lp:r.length=c.size:=by have:=q.length_eq;simpa using this
  have ea:i.toList=r:=by
   apply eV;intro j;rw[aU];by_cases hj:j<c.size
   ·have h3:j<i.size:=by rw[m.1];exact hj
    rw[m.2 j i[j] (by simp[h3])];simp[h3]
   ·rw[bV<|by rw[m.1];omega,dZ<|by omega]
  rw[ea];rw[Moved.eq_with M];refine af (hQ U.heap U.toks d r q (λb o e=>M.heap b o (λk=>?_)<|y b o (aO<|Heap.lt_size e)<|V b o<|L b o e)<|bJ<|Heap.lt_size J);rcases aF.mp k with e'|k;·exact absurd (Heap.lt_size e) (by rw[e'];exact bj _)
  ·have e2:=aJ.mp k;have F:g.objs.size<=it:=GZ;exact absurd (Heap.lt_size e) (by rw[e2];exact fN.mpr (aI (by rw[x];exact dI _) F))
def O7{Gd:List Value->Prop}{G:Array Value->Prop}{Q:ia}(L:A.handled=none)
 (u:∀(B:Around) (D:List Value->Shared->Prop),B.handled=none->(∀n tk d h,Gd h->(∀b o,s.heap.get? b=some o->n.get? b=some o)->s.heap.objs.size<=n.objs.size->D h {s with heap:=n,toks:=tk,drawn:=d})->wpAny (model f w) B (collect<|.ref l) D E s)
 (F:∀h,Gd h->h.length<=sizeLine)(R:∀h,Gd h->h.length<2->G h.toArray)
 (P:∀h,Gd h->2<=h.length->∀t:Shared,(∀b o,s.heap.get? b=some o->t.heap.get? b=some o)->sj f w G h t)
 (k:∀(out:Array Value) p (n:Heap) tk e d,out.size<=sizeLine->G out->s.heap.objs.size<=p->(∀b o,s.heap.get? b=some o->n.get? b=some o)->n.get? p=some (seqObj "list" out e)->Q (.ref p) {s with heap:=n,toks:=tk,drawn:=d}):wpAny (model f w) A (call (.builtin "sorted") [.ref l]) Q E s:=by
  refine call_function_entry kind_sorted plain_sorted entry_sorted (args_sorted1 _) ?_;unfold Builtin.«sorted»;refine aa (m:=checkCount "sorted" 1 1 _) (af ?_);apply aa;refine u _ _ L λg tk d h y x r=>?_;have j:=F h y;apply aa;refine wpAny_newList ?_ j;have i:(g.push<|seqObj "list" h.toArray 0).get? g.objs.size=some (seqObj "list" h.toArray 0):=aw _ rfl
  have kp:∀b o,s.heap.get? b=some o->b≠g.objs.size/\(g.push<|seqObj "list" h.toArray 0).get? b=some o:=λb o q=>⟨aO<|ay (Heap.lt_size q) r,ae _<|x b o q⟩
  refine aa (bU<|bA slot_list_sort ⟨_,i,rfl⟩ entry_list_sort (CG (s:={s with heap:=g.push<|seqObj "list" h.toArray 0,toks:=tk,drawn:=d}) i j (R h y) (λO t I=>P h y O t λb o q=>I b o (kp b o q).1 (kp b o q).2) λout J N=>⟨_,rfl,?_⟩)<|args_list_sort _);refine af ⟨_,rfl,?_⟩;have T:=dz i (λ_=>(#[]:Array Value));have v:∀b o,b≠g.objs.size->(g.push<|seqObj "list" h.toArray 0).get? b=some o->(sortedHeap (g.push<|seqObj "list" h.toArray 0) g.objs.size h out).get? b=some o:=λb o z q=>by show((((((g.push<|seqObj "list" h.toArray 0).update g.objs.size (Obj.mapSeq λ_=>(#[]:Array Value))).push (seqObj "tuple" h.toArray 0)).push (seqObj "list" #[] 0)).update g.objs.size (Obj.mapSeq λ_=>out))).get? b=some o;rw[cI _ _ _ _ z];refine ae _ (ae _ ?_);rw[cI _ _ _ _ z];exact q
  have new:∃e,(sortedHeap (g.push<|seqObj "list" h.toArray 0) g.objs.size h out).get? g.objs.size=some (seqObj "list" out e):=by exact⟨_,dz (ae (seqObj "list" #[] 0)<|ae (seqObj "tuple" h.toArray 0) T)<|λ_=>out⟩
  obtain⟨e,M⟩:=new;exact k out g.objs.size _ tk e d (by rw[J];exact j) N r (λb o q=>v b o (kp b o q).1 (kp b o q).2) M
end
def dd:List Key->List Key
 |[]=>[]
 |k::r=>if(r.any λj=>decide<|j=k)=true then dd r else k::dd r
theorem BC{f:Type}[DecidableEq f]:∀{d c:List f},d.Nodup->c.Nodup->(∀x,x∈d↔x∈c)->d.Perm c
 |[],c,_,_,h=>by
  cases c with
  |nil=>exact .refl _
  |cons y r=>exact absurd ((h y).mpr (.head _)) (by simp)
 |a::l,c,m,g,h=>by
  have n:=(h a).mp (.head _);obtain⟨k,j⟩:=bX.mp m;refine(List.Perm.cons a<|BC j (g.erase a) λx=>?_).trans (gr n).symm;rw[g.mem_erase_iff];constructor
  ·intro i;exact⟨λe=>k<|by rw[<-e];exact i,(h x).mp (.tail _ i)⟩
  ·rintro ⟨p,o⟩
   rcases aF.mp ((h x).mpr o)with e|e;·exact absurd e p
   ·exact e
def HM{d}(h:tL d=some k):kD k=d:=by
 cases d with
 |int i=>cases h;rfl
 |str x=>cases h;rfl
 |_=>cases h
theorem AR:∀{c} {a},kM c=some a->a.map kD=c
 |[],_,h=>by cases h;rfl
 |d::r,_,h=>by obtain⟨k,i,g⟩:=az.mp h;obtain⟨a,f,rfl⟩:=aj.mp g;rw[aE,HM i,AR f]
def tF(h:∀d∈ds,iD d=some sg):lT ds=true:=by
 cases ds with
 |nil=>rfl
 |cons d r=>show((iD d).isSome&&r.all λe=>iD e==iD d)=true;rw[h d<|.head _,aN];exact⟨rfl,dj.mpr λe a=>by rw[h e<|.tail _ a];simp⟩
def xX{ds:List D}(h:ds.Perm es)(a:∀d∈es,iD d=some sg):jq ds=jq es:=
 Cn ((nW _).trans (h.trans (nW _).symm)) (λd c=>a d<|h.mem_iff.mp<|(nW _).mem_iff.mp c) (uF λd c=>a d<|h.mem_iff.mp c) (uF a)
def O3{a:List D}(h:a.length<2):jq a=a:=by
 match a,h with
 |[],_=>rfl
 |[d],_=>rfl
 |_::_::r,w=>simp at w;omega
variable{X:Cx}{E:XK}{e:Expr}{N:TE}{f:g7}{O M pos L:Pos}
def KZ{C:V->Hp->VK->Prop}(G:PE X e N)(F:Gl X "sorted")(D:X.mg "sorted"=none)(n:Gl X "set")(m:X.mg "set"=none)
 (hC:∀a j σ c x u Q,Inv X a σ c j->RelV x u->C x c Q->wpAny (model X.prog X.w) X.A (call (.type "set") [u]) (λv p=>wpAny (model X.prog X.w) X.A (call (.builtin "sorted") [v]) (EP X a σ Q) X.xe p) X.xe j)
 (r:X.se e [])(l:X.bk L [])
 (g:starEach [.Call (.Name "set" M) [e] [] L] X.env=(false,eval (.Call (.Name "set" M) [e] [] L) X.env)::starEach [] X.env)(i:X.bk pos []):
   PE X (.Call (.Name "sorted" O) [.Call (.Name "set" M) [e] [] L] [] pos) (λσ H Q=>N σ H λt c=>∃x,[t]=[x]/\C x c Q):=by
  intro a s σ H Q I h;refine b8 (oI I F D zf ?_ (by decide) (by decide));refine cK ?_ g i;rw[g];show wpAny _ _ (spliced<|(false,eval (.Call (.Name "set" M) [e] [] L) X.env)::backTo pos (starEach [] X.env)) _ _ s;refine dD ?_;refine b8 (oI I n m EF ?_ (by decide) (by decide));have o:PA X [e] (ye N yf):=mz G nQ r;refine c6 (g8 (o L a s σ H (λd c=>∃x,d=[x]/\C x c Q) I h) λP j k=>?_) r l;obtain⟨d,c,J,y,A⟩:=k;obtain⟨x,rfl,q⟩:=A;obtain⟨u,rfl,w⟩:=vals1 y;exact aS (hC _ _ _ _ _ _ _ J w q) (λv p z=>eT z) λ_ _ z=>z
def O8{Q:VK}(hc:X.calm=true)(z:Inv X pins σ H1 s2){t}(R:j3 s2.heap a es ep t)(tok:vf (X.w.params.followText "set-order") t)(hz:es.size<=sizeLine)
 {Gd:Value->Prop}{dv}(n:∀d∈DD,iD d=some sg)(j:∀c:List Value,c.Perm (es.toList.map Prod.snd)->(∀v∈c,Gd v)/\(c.map dv).Perm DD/\c.length<64)
 (h:∀c:List Value,(∀v∈c,Gd v)->Vals (c.map rv) c/\gQ X.K al H1 (c.map rv) (c.map dv))(V:∀t':Shared,(∀b o,s2.heap.get? b=some o->t'.heap.get? b=some o)->∀c:List Value,(∀v∈c,Gd v)->j0 t'.heap c (c.map dv))
 (q:∀p g,H1 p=none->gQ X.K al H1 g (jq DD)->Q (.ref p) (upd H1 p<|.lst g)):wpAny (model X.prog X.w) X.A (call (.builtin "sorted") [.ref a]) (EP X pins σ Q) X.xe s2:=by
  have sl:=cU
  refine O7 (A:=X.A) (s:=s2) (Gd:=λc=>c.Perm<|es.toList.map Prod.snd) (G:=λout=>∃g,Vals g out.toList/\gQ X.K al H1 g (jq DD)) (z.ok.hd hc)
   (λB Q' hB hq=>OM hB R tok hz λF T d c m e2 s2=>hq F T d c m e2 s2)
   (λc m=>by have:=(j c m).2.2;omega) (λc m F=>?_) (λc m F t' kp B=>?_) λout p h3 C Gb d RP hG k D Y=>?_
  ·obtain⟨P,J,_⟩:=j c m;obtain⟨g1,Z⟩:=h c P;refine⟨c.map rv,by simpa using g1,?_⟩;rw[<-xX J n,O3 (by rw[aD];exact F)];exact Z
  ·obtain⟨P,J,U⟩:=j c m;have:=CF (prog:=X.prog) (w:=X.w) (s:=t') (V t' kp c P) (tF λd hd=>n d<|J.mem_iff.mp hd) F U B;refine aS this (λκ t1 hk=>⟨hk.1,aS hk.2 (λr t2 y=>⟨y.1,y.2.1,y.2.2.1,?_⟩) λ_ _ x=>x⟩) λ_ _ x=>x;obtain⟨I,g1,Z,g3⟩:=y.2.2.2;have u:=AF g1;rw[aD]at u;have fo:∀v∈outs c I,Gd v:=λv hv=>by
    unfold outs at hv;obtain⟨i,hi,rfl⟩:=aP.mp hv;have l:=u i hi;rw[aX,au l,fx];exact P _ (d4 l)
   obtain⟨v1,v2⟩:=h _ fo;refine⟨(outs c I).map rv,by rw[Z];exact v1,?_⟩;rw[<-xX J n,<-g3];have e9:(outs c I).map dv=outD (c.map dv) I:=by unfold outs outD;rw[bw];refine bW λi hi=>?_;have l:=u i hi;show dv (c.getD i .none)=(c.map dv).getD i .non;rw[aX,aX,aB,au l];rfl
   rw[<-e9];exact v2
  ·obtain⟨g,hw,y⟩:=hG;have lw:g.length<=sizeLine:=by
    have:=hw.length;simp only[av]at this;omega
   have new:iY X.prog X.w (upd H1 p<|.lst g) h3 p (.lst g):=⟨lw,out.toList,Gb,hw,by rw[gk];exact Y⟩
   have I3:Inv X pins σ (upd H1 p<|.lst g) {s2 with heap:=h3,toks:=C,drawn:=d}:=
    Inv.call (s:=s2) (g':=s2.gens) (t':=C) (d':=d) (ch:=[]) z (Un.laid D k<|z.hok.fresh k) (z.hok.laid D k new) z.bare (λb hb=>by simp at hb)
   exact⟨.ref p,_,I3,rfl,q p g (z.hok.fresh k) y⟩
theorem BP(a:List Int):∀k,k<=a.length->preSum (λi=>a.getD i 0) k=(a.take k).sum
 |0,_=>rfl
 |k+1,d=>by
  have c:=BP a k (by omega);have e:a.take (k+1)=a.take k++[a.getD k 0]:=by rw[List.take_succ,aX,au<|show k<a.length by omega];rfl
  rw[e,List.sum_append,<-c];simp[preSum]
def kR:gP
 |[.lst ds]=>match q8 ds with
  |some a=>.ok (.int a.sum)
  |none=>.bad
 |_=>.bad
def sG:bootBuiltins "sum"=some (.builtin "sum"):=by decide+kernel
def sH(P:X.calm=true):ni X E (.builtin "sum") kR:=by
 refine⟨λj H Q=>∃(l:Addr) (a:List Int),j=[.ref l]/\jx X.K H l (a.map V.int)/\Q (.int a.sum) H,?_,λal H j ds Q fr y h=>?_⟩
 ·intro x s σ H j Y Q I r h;obtain⟨l,a,rfl,p,q⟩:=h;obtain⟨u,rfl,C⟩:=vals1 r;obtain rfl:u=Value.ref l:=C;obtain⟨c,w,n,Z⟩:=I.list p;have hi:=AJ w;have d:=w.length;rw[aD]at d;have g:l<s.heap.objs.size:=by obtain⟨o,F,_⟩:=n.isList;exact Heap.lt_size F
  refine call_sum_walkG (eS n.isList ?_);refine⟨s.heap.objs.size,[s.heap.objs.size,l],[s.heap.objs.size],c.toArray.size,λi v=>c.toArray[i]?=some v,_,λi=>a.getD i 0,rfl,Walks.list (A:=X.A.in1) (I.ok.hd P) _ l (aO g) c.toArray,⟨⟨_,aw _ rfl,rfl,rfl⟩,n.isList.push _⟩,λb t=>?_,λi v D=>?_,λh' tk t' k=>?_⟩
  ·show b<(s.heap.push _).objs.size;rw[bI];rcases aF.mp t with rfl|t;·exact cb _
   ·rw[aJ.mp t];exact bL g
  ·exact PyProof.Rows.IntsAre.int_at hi i v (by simpa using D)
  ·rw[show c.toArray.size=a.length by rw[aK];exact d.symm,BP a a.length<|ah _,dR<|ah _];refine⟨.int _,H,I.kept (t':=tk) λb o e=>k b o (λJ=>?_)<|ae _ e,⟨_,rfl⟩,q⟩;rw[aJ.mp J]at e;exact absurd (Heap.lt_size e) (bj _)
 ·unfold kR at h;split at h
  ·rename_i T;split at h
   ·rename_i a G;have e:=AH G;subst e;obtain⟨v,rfl,z⟩:=gQ.one y;obtain⟨l,U,rfl,p,m⟩:=z.mX;have R:=Ci m;subst R;exact⟨l,a,rfl,p,h H (.refl H) _<|.int _⟩
   ·exact h.elim
  ·exact h.elim
end P2
set_option maxHeartbeats 1000000
namespace P2
open PySem
namespace yO
def G:Nat->Nat
 |0=>0
 |n+1=>5*G n+1
theorem uk:∀n,5^n=4*G n+1
 |0=>rfl
 |n+1=>by rw[cE,uk n];show _=4*(5*G n+1)+1;omega
theorem yD:∀n,G n%2=n%2
 |0=>rfl
 |n+1=>by have:=yD n;show(5*G n+1)%2=_;omega
theorem uX(a):∀b,G (a+b)=G a+5^a*G b
 |0=>by show G a=G a+5^a*0;omega
 |b+1=>by
  show 5*G (a+b)+1=G a+5^a*(5*G b+1);rw[uX a b,uk a,gs,gs,gH];have e:(4*G a+1)*(5*G b)=5*((4*G a+1)*G b):=by rw[Nat.mul_left_comm]
  rw[e];omega
def vE(h:c%2=1):Nat.Coprime (2^k) c:=by apply Nat.Coprime.pow_left;show Nat.gcd 2 c=1;rw[Nat.gcd_rec,h];rfl
theorem yC:∀k b,2^k∣G b->2^k∣b
 |0,b,_=>by rw[Nat.pow_zero];exact Nat.one_dvd b
 |k+1,b,h=>by
  have i:2∣G b:=Nat.dvd_trans ⟨2^k,by rw[cE,fO]⟩ h;have j:=yD b;have a:b=b/2+b/2:=by have:G b%2=0:=Nat.mod_eq_zero_of_dvd i;omega
  generalize b/2=c at a;subst a;rw[uX,uk]at h;have e:G c+(4*G c+1)*G c=2*(G c*(2*G c+1)):=by rw[gu,Nat.one_mul,gs,gs,gH,eY,Nat.mul_left_comm (G c) 2<|G c];omega
  rw[e,cE,fO (2^k) 2]at h;have g:2^k∣G c*(2*G c+1):=Nat.dvd_of_mul_dvd_mul_left (by decide) h;have f:=yC k c (dS (vE<|by omega) g);obtain⟨d,rfl⟩:=f;exact⟨d,by rw[cE];rw[<-Nat.two_mul,fO (2^k) 2,eY]⟩
def stp(N i:Nat):Nat:=(i*5+1)%N
def l7(N:Nat):Nat->Nat->Nat
 |0,x=>x
 |n+1,x=>stp N (l7 N n x)
theorem uI(a:x<N):∀d,l7 N d x=(x+G d*(4*x+1))%N
 |0=>by show x=(x+0*_)%N;rw[Nat.zero_mul,Nat.add_zero,Nat.mod_eq_of_lt a]
 |d+1=>by
  show(l7 N d x*5+1)%N=(x+(5*G d+1)*(4*x+1))%N;rw[uI a d,Nat.add_mod,Nat.mul_mod,Nat.mod_mod,<-Nat.mul_mod,<-Nat.add_mod]
  congr 1
  rw[gu,gu,eY 5,Nat.one_mul];omega
def Pb(c:x<2^k)(g:a<b)(l:b<2^k):l7 (2^k) a x≠l7 (2^k) b x:=λe=>by
 rw[uI c,uI c]at e;obtain⟨d,rfl⟩:∃d,b=a+d:=⟨b - a,by omega⟩;rw[uX]at e;have f:2^k∣(x+(G a+5^a*G d)*(4*x+1)) - (x+G a*(4*x+1)):=Nat.dvd_of_mod_eq_zero (Nat.sub_mod_eq_zero_of_mod_eq e.symm);have j:(x+(G a+5^a*G d)*(4*x+1)) - (x+G a*(4*x+1))=5^a*G d*(4*x+1):=by rw[gu];omega
 rw[j]at f;have i:2^k∣5^a*G d:=dS (vE<|by omega) f;have h:2^k∣G d:=Nat.Coprime.dvd_of_dvd_mul_left (vE<|by rw[uk];omega) i;have m:=Nat.le_of_dvd (by omega) (yC k d h);omega
theorem tQ:∀{l m:List Nat},l.Nodup->(∀x∈l,x∈m)->l.length<=m.length
 |[],m,_,_=>bD _
 |a::l,m,h,s=>by obtain⟨g,f⟩:=bX.mp h;have d:=s a (.head _);have:=tQ (l:=l) (m:=m.erase a) f λx c=>(gw (λe=>g (by rw[<-e];exact c))).mpr (s x (.tail _ c));rw[eZ d]at this;have:=List.length_pos_of_mem d;rw[ao];omega
def wK(n):(List.range n).Nodup:=List.nodup_range
def Pa(f:x<2^k)(i:e<2^k):∃d,d<2^k/\l7 (2^k) d x=e:=by
 have g:((List.range<|2^k).map λd=>l7 (2^k) d x).Nodup:=by refine eW _ (R:=λa b=>a<b/\b<2^k) (λa b h=>Pb f h.1 h.2) ?_;refine fb (λ{a b} o l h=>⟨h,bz.mp l⟩) fQ
 have lt:∀d,l7 (2^k) d x<2^k:=λd=>by rw[uI f];exact dG _ (Nat.two_pow_pos k)
 by_cases h:e∈(List.range<|2^k).map λd=>l7 (2^k) d x
 ·obtain⟨d,j,n⟩:=aP.mp h;exact⟨d,bz.mp j,n⟩
 ·exfalso;have:=tQ (m:=(List.range<|2^k).erase e) g λy c=>by
   have:y≠e:=λw=>h (by rw[<-w];exact c);refine(gw this).mpr (bz.mpr ?_);obtain⟨d,_,rfl⟩:=aP.mp c;exact lt d
  rw[eZ<|bz.mpr i,aD,df]at this;have:=Nat.two_pow_pos k;omega
def jv(a:Nat):Nat->Nat×Nat->Nat×Nat
 |0,q=>q
 |n+1,q=>SetTable.leap a (jv a n q).1 (jv a n q).2
theorem A5(mask q):∀n,(jv mask n q).2=q.2/32^n
 |0=>by show q.2=q.2/1;rw[Nat.div_one]
 |n+1=>by show(jv mask n q).2/32=_;rw[A5 mask q n,Nat.div_div_eq_div_mul,cE]
def Iu(mask q):∀n,(jv mask (n+1) q).1<mask+1:=λn=>dG _ (dm _)
theorem A4{q:Nat×Nat}(a:q.2<2^64):∀d,(jv mask (13+d) q).1=l7 (mask+1) d (jv mask 13 q).1
 |0=>rfl
 |d+1=>by
  show(SetTable.leap mask (jv mask (13+d) q).1 (jv mask (13+d) q).2).1=stp (mask+1) (l7 (mask+1) d (jv mask 13 q).1);have z:(jv mask (13+d) q).2=0:=by rw[A5,Nat.div_eq_of_lt];refine ay a ?_;rw[Nat.pow_add];exact aI (show 2^64<=32^13 by decide) (Nat.le_mul_of_pos_right _<|Nat.pow_pos<|by decide)
  rw[A4 a d,z];rfl
def A6(a:mask+1=2^k){q:Nat×Nat}(c:q.2<2^64)(g:e<=mask):∃m,13<=m/\m<=13+mask/\(jv mask m q).1=e:=by obtain⟨d,h,f⟩:=Pa (k:=k) (x:=(jv mask 13 q).1) (e:=e) (by rw[<-a];exact Iu mask q 12) (by omega);exact⟨13+d,by omega,by omega,by rw[A4 c,a];exact f⟩
open SetTable
def hL(t:SetTable):Nat->Probe->Probe
 |0,p=>p
 |n+1,p=>hL t n (t.advance p)
theorem mQ(t):∀a b p,hL t (a+b) p=hL t b (hL t a p)
 |0,b,p=>by rw[Nat.zero_add];rfl
 |a+1,b,p=>by rw[Nat.succ_add];exact mQ t a b (t.advance p)
def Eh(t n p):hL t (n+1) p=t.advance (hL t n p):=mQ t n 1 p
def blk(a:Nat)(q:Nat×Nat)(d:Option Nat):Probe:={j:=q.1,more:=runEnd a q.1 - q.1,i:=q.1,perturb:=q.2,dummy:=d}
def xy(mask i):runEnd mask i - i<=9:=by unfold runEnd;split<;>omega
def xw{a i:Nat}(h:i<=a):runEnd a i<=a:=by unfold runEnd;split<;>omega
def xv(mask i):i<=runEnd mask i:=by unfold runEnd;split<;>omega
theorem vi(t):∀k (p:Probe),k<=p.more->hL t k p={p with j:=p.j+k,more:=p.more - k}
 |0,p,_=>rfl
 |k+1,p,h=>by
  have a:p.more>0:=by omega
  show hL t k (t.advance p)=_;have e:t.advance p={p with j:=p.j+1,more:=p.more - 1}:=by unfold advance;rw[ai a]
  rw[e,vi t k _<|by show k<=p.more - 1;omega];show({p with j:=p.j+1+k,more:=p.more - 1 - k}:Probe)=_;rw[show p.j+1+k=p.j+(k+1)by omega,show p.more - 1 - k=p.more - (k+1)by omega]
def sv(t)(p:Probe):hL t (p.more+1) p=blk t.mask (leap t.mask p.i p.perturb) p.dummy:=by rw[Eh,vi t p.more p<|ah _];unfold advance;rw[ak<|by show¬p.more - p.more>0;omega];rfl
theorem yT(t):∀m q d,∃n,n<=10*m/\hL t n (blk t.mask q d)=blk t.mask (jv t.mask m q) d
 |0,q,d=>⟨0,ah _,rfl⟩
 |m+1,q,d=>by
  obtain⟨n,c,a⟩:=yT t m q d;have:=xy t.mask (jv t.mask m q).1;refine⟨n+((blk t.mask (jv t.mask m q) d).more+1),?_,?_⟩;·show n+(runEnd t.mask (jv t.mask m q).1 - (jv t.mask m q).1+1)<=_;omega
  ·rw[mQ,a,sv];rfl
def yS{t:SetTable}(c:t.mask+1=2^k){p:Probe}(a:p.perturb<2^64)(i:p.more<=9)(f:e<=t.mask):∃n,n<10*turns t.mask/\(hL t n p).j=e:=by have d:(leap t.mask p.i p.perturb).2<2^64:=cy (Nat.div_le_self _ _) a;obtain⟨m,o,l,h⟩:=A6 c d f;obtain⟨n,j,g⟩:=yT t m (leap t.mask p.i p.perturb) p.dummy;refine⟨p.more+1+n,by unfold turns;omega,?_⟩;rw[mQ,sv,g];exact h
structure lr(t:SetTable)(p:Probe):Prop where
 b:p.perturb<2^64
 r:p.more<=9
 j:p.j+p.more<=t.mask
 d:p.dummy=none
def BO(t:SetTable)(h:Int):lr t (t.probeStart h) where
 b:=by unfold probeStart;show SetTable.bits h<2^64;unfold SetTable.bits;omega
 r:=by unfold probeStart;exact xy _ _
 j:=by unfold probeStart;show SetTable.bits h%(t.mask+1)+(runEnd t.mask (SetTable.bits h%(t.mask+1)) - SetTable.bits h%(t.mask+1))<=t.mask;have f:SetTable.bits h%(t.mask+1)<t.mask+1:=dG _ (dm _);have c:=xw (show SetTable.bits h%(t.mask+1)<=t.mask by omega);have a:=xv t.mask (SetTable.bits h%(t.mask+1));omega
 d:=by unfold probeStart;rfl
def lr.Eg{t:SetTable}{p:Probe}(h:lr t p):lr t (t.advance p):=by
 obtain⟨a,f,d,c⟩:=h;unfold advance;by_cases w:p.more>0
 ·rw[ai w];exact⟨a,by show p.more - 1<=9;omega,by show p.j+1+(p.more - 1)<=t.mask;omega,c⟩
 ·rw[ak w];refine⟨cy (Nat.div_le_self _ _) a,xy _ _,?_,c⟩;show(leap t.mask p.i p.perturb).1+(runEnd t.mask (leap t.mask p.i p.perturb).1 - (leap t.mask p.i p.perturb).1)<=t.mask;have a:(leap t.mask p.i p.perturb).1<t.mask+1:=dG _ (dm _);have f:=xw (show(leap t.mask p.i p.perturb).1<=t.mask by omega);have d:=xv t.mask (leap t.mask p.i p.perturb).1;omega
theorem lr.hL{t}:∀n {p},lr t p->lr t (hL t n p)
 |0,_,h=>h
 |n+1,_,h=>lr.hL n h.Eg
theorem oh{t a:SetTable}(h:t.mask=a.mask):∀n p,hL t n p=hL a n p
 |0,_=>rfl
 |n+1,p=>by
  show hL t n (t.advance p)=hL a n (a.advance p);have:t.advance p=a.advance p:=by unfold advance;rw[h]
  rw[this];exact oh h n _
def qg{t a:SetTable}(h:t.mask=a.mask)(x:Int):t.probeStart x=a.probeStart x:=by unfold probeStart;rw[h]
def slot_mem{t:SetTable}(c:jQ t.place)(h:j∈t.place.toList):∃i,t.slot j=.live i/\t.place[i]?=some j:=by
 obtain⟨n,l,k⟩:=sF c j;obtain⟨m,f,e⟩:=bK h;have a:m<t.place.size:=by simpa using f
 have d:t.place[m]=j:=by simpa using e
 have g:below t.place j=m:=by
  rcases dQ (below t.place j) m with q|q|q
  ·have:=k _ (by omega) (ah<|below t.place j);have:=c.lt q a;omega
  ·exact q
  ·have:=l m a q;omega
 refine⟨m,?_,by rw[aH a,d]⟩;unfold slot;dsimp only;rw[g,aH a,d];simp
def O2{t:SetTable}(c:t.dummies=#[])(h:j∉t.place.toList):t.slot j=.empty:=by
 unfold slot;dsimp only;rw[ak,c];·rfl
 ·intro w;have a:=eq_of_beq w;exact h (ee.mpr<|d0 a)
def qC(t:SetTable)(h:Int)(j:Nat):Prop:=∃m,(hL t m<|t.probeStart h).j=j/\∀a,a<m->(hL t a<|t.probeStart h).j∈t.place.toList
structure Tab(t:SetTable)(es:List<|Int×Value):Prop where
 k:∃k,3<=k/\t.mask+1=2^k
 mD:jQ t.place
 le:∀j∈t.place.toList,j<=t.mask
 mq:t.dummies=#[]
 sz:t.place.size=es.length
 fl:es.length<=t.mask
 reach:∀j e,(j,e)∈List.zip t.place.toList es->qC t e.1 j
variable{t:SetTable}{o:List<|Int×Value}
def Tab.odd(a:Tab t o):t.gaveWay=false:=by
 obtain⟨k,c,h⟩:=a.k;obtain⟨j,rfl⟩:∃j,k=j+1:=⟨k - 1,by omega⟩;rw[cE]at h;unfold gaveWay;have:t.mask%2=1:=by omega
 rw[this];rfl
def Tab.m7(a:Tab t o):7<=t.mask:=by obtain⟨k,c,h⟩:=a.k;have:2^3<=2^k:=gx (by decide) c;omega
def Tab.fits(a:Tab t o):t.fits o.length=true:=by unfold SetTable.fits fill;rw[a.mq,a.sz];have:=a.fl;simp;exact this
def Tab.room(a:Tab t o):∃e,e<=t.mask/\e∉t.place.toList:=by refine b0 λw=>?_;have:=tQ (m:=t.place.toList) (wK<|t.mask+1) λx c=>b0 λy=>w ⟨x,by have:=bz.mp c;omega,y⟩;rw[df,av,a.sz]at this;have:=a.fl;omega
theorem Aw(g:Tab t o)(f:Nat->Int)(h:Int):∀a (p:Probe),p.dummy=none->(∃n,n<a/\(hL t n p).j∉t.place.toList)->
 ∃m,m<a/\(∀c,c<m->∃i,t.place[i]?=some (hL t c p).j/\f i≠h)/\(((hL t m p).j∉t.place.toList/\probe.go t f h a p=some (.empty (hL t m p).j none))\/∃i,t.place[i]?=some (hL t m p).j/\t.slot (hL t m p).j=.live i/\f i=h/\probe.go t f h a p=some (.candidate (hL t m p).j i (hL t (m+1) p)))
 |0,p,_,⟨n,q,_⟩=>absurd q (cm _)
 |a+1,p,l,⟨n,q,r⟩=>by
  by_cases d:p.j∈t.place.toList
  ·obtain⟨i,k,s⟩:=slot_mem g.mD d;by_cases hf:f i=h
   ·refine⟨0,dm _,λc w=>absurd w<|cm _,.inr ⟨i,s,k,hf,?_⟩⟩;unfold probe.go;rw[k];simp[hf];exact⟨rfl,rfl⟩
   ·have u:(t.advance p).dummy=none:=by unfold advance;split<;>exact l
    obtain⟨j,rfl⟩:∃j,n=j+1:=⟨n - 1,by cases n with|zero=>exact absurd d r|succ n=>rfl⟩;obtain⟨m,z,x,v⟩:=Aw g f h a (t.advance p) u ⟨j,by omega,r⟩;have y:probe.go t f h (a+1) p=probe.go t f h a (t.advance p):=by rw[probe.go];rw[k];simp[hf]
    refine⟨m+1,by omega,λc w=>?_,?_⟩
    ·cases c with
     |zero=>exact⟨i,s,hf⟩
     |succ c=>exact x c (by omega)
    ·rw[y];exact v
  ·refine⟨0,dm _,λc w=>absurd w<|cm _,.inl ⟨d,?_⟩⟩;unfold probe.go;rw[O2 g.mq d];simp[l];rfl
def Lf(a:Tab t o)(f:Nat->Int)(h:Int)(c:lr t p):
    ∃m,(∀d,d<m->∃i,t.place[i]?=some (hL t d p).j/\f i≠h)/\(((hL t m p).j∉t.place.toList/\t.probe f h p=some (.empty (hL t m p).j none))\/∃i,t.place[i]?=some (hL t m p).j/\t.slot (hL t m p).j=.live i/\f i=h/\t.probe f h p=some (.candidate (hL t m p).j i (hL t (m+1) p))):=by
 obtain⟨e,r,q⟩:=a.room;obtain⟨k,_,g⟩:=a.k;obtain⟨n,l,j⟩:=yS g c.b c.r r;obtain⟨m,v,u,s⟩:=Aw a f h (10*turns t.mask) p c.d ⟨n,l,by rw[j];exact q⟩;exact⟨m,u,s⟩
def wc{c:Type}(a:Array c)(p:Nat)(x:c):(insertAt a p x).toList=a.toList.take p++x::a.toList.drop p:=by unfold insertAt;simp[gm];exact dR (by rw[cL,av];exact ah _)
def insertAt_perm{a:Type}(c:Array a)(p:Nat)(x:a):(insertAt c p x).toList.Perm (x::c.toList):=by rw[wc];refine List.perm_middle.trans ?_;rw[List.take_append_drop]
def Q1{f d:Type}(a:List f)(b:List d)(x y p)(h:a.length=b.length)(q)(c:q∈List.zip (a.take p++x::a.drop p) (b.take p++y::b.drop p)):q=(x,y)\/q∈List.zip a b:=by
 rw[List.zip_append<|by rw[cw,cw,h],eL]at c;rcases bx.mp c with c|c
 ·rw[List.zip_eq_zipWith,<-List.take_zipWith]at c;exact .inr (List.mem_of_mem_take c)
 ·rcases aF.mp c with c|c;·exact .inl c
  ·rw[List.zip_eq_zipWith,<-List.drop_zipWith]at c;exact .inr (List.mem_of_mem_drop c)
def Tab.put{i:Array<|Int×Value}(a:Tab t i.toList)(hf:i.size+1<=t.mask){h:Int}(s:j∉t.place.toList)(r:j<=t.mask)(q:qC t h j):
    Tab (t.put j).1 (insertAt i (t.put j).2 (h,x)).toList/\(t.put j).1.mask=t.mask/\(t.put j).1.led=t.led/\(t.put j).1.moves=t.moves:=by
 have z:has t.dummies j=false:=by rw[a.mq];rfl
 have f:(t.put j).1.place=insertAt t.place (below t.place j) j:=rfl;have g:(t.put j).1.mask=t.mask:=rfl;have sub:∀y,y∈t.place.toList->y∈(t.put j).1.place.toList:=λy d=>by rw[f];exact(insertAt_perm _ _ _).mem_iff.mpr (.tail _ d)
 have k:∀{n l},qC t n l->qC (t.put j).1 n l:=λ⟨m,v,u⟩=>⟨m,by rw[oh g,qg g];exact v,λp w=>by rw[oh g,qg g];exact sub _ (u p w)⟩;refine⟨⟨a.k,?_,?_,?_,?_,?_,?_⟩,g,rfl,rfl⟩
 ·rw[f];refine Oq a.mD λw=>s (ee.mpr<|d0 w)
 ·intro y d;rw[f]at d;rcases aF.mp ((insertAt_perm _ _ _).mem_iff.mp d)with rfl|d;·exact r
  ·exact a.le y d
 ·show(if has t.dummies j=true then _ else t.dummies)=#[];rw[z,ak<|by decide];exact a.mq
 ·rw[f,<-av,(insertAt_perm _ _ _).length_eq,(insertAt_perm _ _ _).length_eq,ao,ao,av,a.sz]
 ·rw[(insertAt_perm _ _ _).length_eq,ao,av];exact hf
 ·intro y e c;rw[f,wc,wc]at c;rcases Q1 _ _ _ _ _ (by rw[av,a.sz]) _ c with c|c;·cases c;exact k q
  ·exact k (a.reach y e c)
def Tab.off(a:Tab t o)(b:Bool):Tab {t with plain:=b} o where
 k:=a.k
 mD:=a.mD
 le:=a.le
 mq:=a.mq
 sz:=a.sz
 fl:=a.fl
 reach:=λj e f=>by obtain⟨m,h,g⟩:=a.reach j e f;have c:({t with plain:=b}:SetTable).mask=t.mask:=rfl;exact⟨m,by rw[oh c,qg c];exact h,λd w=>by rw[oh c,qg c];exact g d w⟩
def PU(f m l):Tab (.fresh f m l) [] where
 k:=⟨3,ah _,rfl⟩
 mD:=by unfold jQ;exact .nil
 le:=λj h=>by cases h
 mq:=rfl
 sz:=rfl
 fl:=bD _
 reach:=λj e h=>by cases h
theorem BD:∀{d c:List Nat},d.Nodup->c.Nodup->(∀x,x∈d↔x∈c)->d.Perm c
 |[],c,_,_,h=>by
  cases c with
  |nil=>exact .refl _
  |cons y r=>exact absurd ((h y).mpr (.head _)) (by simp)
 |a::l,c,k,f,h=>by
  have m:=(h a).mp (.head _);obtain⟨j,i⟩:=bX.mp k;refine(List.Perm.cons a<|BD i (f.erase a) λx=>?_).trans (gr m).symm;rw[f.mem_erase_iff];constructor
  ·intro g;exact⟨λe=>j<|by rw[<-e];exact g,(h x).mp (.tail _ g)⟩
  ·rintro ⟨p,n⟩
   rcases aF.mp ((h x).mpr n)with e|e;·exact absurd e p
   ·exact e
theorem A7(mask q):∀n,jv mask (n+1) q=jv mask n (leap mask q.1 q.2)
 |0=>rfl
 |n+1=>by show leap mask (jv mask (n+1) q).1 (jv mask (n+1) q).2=_;rw[A7 mask q n];rfl
abbrev pd(owner:Array<|Option Nat)(j:Nat):Prop:=((owner.getD j<|some 0).isNone)=false
def Af:∀{n},(∀k,(List.range n).find? p=some k->k<n/\p k=true/\∀a,a<k->p a=false)/\((List.range n).find? p=none->∀k,k<n->p k=false)
 |n=>by
  constructor
  ·intro k h;rw[List.find?_range_eq_some]at h;refine⟨bz.mp h.2.1,h.1,λa w=>?_⟩;have:=h.2.2 a w;simpa using this
  ·intro h k c;have:=List.find?_eq_none.mp h k (bz.mpr c);simpa using this
theorem Ak(T:SetTable)(owner):∀a (q:Nat×Nat),q.1<=T.mask->(∃m,m<a/\¬pd owner (jv T.mask m q).1)->
 ∃j n,layClean.free T.mask owner a q.1 q.2=some j/\(hL T n<|blk T.mask q none).j=j/\j<=T.mask/\¬pd owner j/\∀c,c<n->pd owner (hL T c<|blk T.mask q none).j
 |0,q,_,⟨m,l,_⟩=>absurd l (cm _)
 |a+1,q,p,⟨m,l,h⟩=>by
  have F:=xw p;have G:=xv T.mask q.1;have d:∀k,k<=runEnd T.mask q.1 - q.1->(hL T k<|blk T.mask q none).j=q.1+k:=λk s=>by rw[vi T k (blk T.mask q none) s];rfl
  unfold layClean.free;cases hf:(List.range<|runEnd T.mask q.1+1 - q.1).find? λk=>(owner.getD (q.1+k)<|some 0).isNone with
  |some k=>obtain⟨i,v,u⟩:=Af.1 k hf;refine⟨q.1+k,k,rfl,d k (by omega),by omega,by unfold pd;rw[v];decide,λc w=>?_⟩;rw[d c<|by omega];exact u c w
  |none=>
   have i:=Af.2 hf;have r:m≠0:=λe=>by subst e;exact h (i 0<|by omega)
   obtain⟨g,rfl⟩:∃g,m=g+1:=⟨m - 1,by omega⟩;rw[A7]at h;obtain⟨j,n,D,C,A,y,x⟩:=Ak T owner a (leap T.mask q.1 q.2) (by have:(leap T.mask q.1 q.2).1<T.mask+1:=dG _ (dm _);omega) ⟨g,by omega,h⟩;refine⟨j,(blk T.mask q none).more+1+n,D,?_,A,y,λc w=>?_⟩;·rw[mQ,sv];exact C
   ·by_cases z:c<=(blk T.mask q none).more
    ·rw[d c z];exact i c (by have:(blk T.mask q none).more=runEnd T.mask q.1 - q.1:=rfl;omega)
    ·obtain⟨f,rfl⟩:∃f,c=(blk T.mask q none).more+1+f:=⟨c - ((blk T.mask q none).more+1),by omega⟩;rw[mQ,sv];exact x f (by omega)
structure mO(T:SetTable)(hs:List Int)(owner:Array<|Option Nat)(pl:List Nat):Prop where
 len:pl.length=hs.length
 sz:owner.size=T.mask+1
 own:∀(j k:Nat),owner[j]?=some (some k)↔pl[k]?=some j
 le:∀j∈pl,j<=T.mask
 nd:pl.Nodup
 reach:∀(k:Nat) (h:Int) (j:Nat),hs[k]?=some h->pl[k]?=some j->∃m,(hL T m<|T.probeStart h).j=j/\∀m',m'<m->(hL T m'<|T.probeStart h).j∈pl
def mO.rp(L:mO T hs owner pl)(g:j<=T.mask):pd owner j↔j∈pl:=by
 have a:j<owner.size:=by rw[L.sz];omega
 have e:owner.getD j (some 0)=owner[j]:=by simp[Array.getD,a]
 unfold pd;rw[e];constructor
 ·intro h;cases q:owner[j]with
  |none=>rw[q]at h;cases h
  |some k=>exact aM ((L.own j k).mp (by rw[aH a,q]))
 ·intro h;obtain⟨k,c,d⟩:=bK h;have:=(L.own j k).mpr (by rw[au c,d]);rw[aH a]at this;have f:owner[j]=some k:=Option.some.inj this;rw[f];rfl
def mO.step{T:SetTable}(N:T.mask+1=2^k)(L:mO T hs owner pl)(h:Int)(Z:hs.length<=T.mask):
    ∃j,layClean.free T.mask owner (turns T.mask) (SetTable.bits h%(T.mask+1)) (SetTable.bits h)=some j/\mO T (hs++[h]) (owner.setIfInBounds j<|some hs.length) (pl++[j]):=by
 have u:SetTable.bits h<2^64:=by unfold SetTable.bits;omega
 have M:SetTable.bits h%(T.mask+1)<=T.mask:=Nat.le_of_lt_succ (dG (SetTable.bits h)<|dm T.mask);obtain⟨e,g,s⟩:∃e,e<=T.mask/\e∉pl:=by refine b0 λw=>?_;have:=tQ (m:=pl) (wK (T.mask+1)) λx J=>b0 λy=>w ⟨x,by have:=bz.mp J;omega,y⟩;rw[df,L.len]at this;omega
 obtain⟨m,Q,P,v⟩:=A6 N (q:=(SetTable.bits h%(T.mask+1),SetTable.bits h)) u g;obtain⟨j,n,V,F,D,U,C⟩:=Ak T owner (turns T.mask) (SetTable.bits h%(T.mask+1),SetTable.bits h) M ⟨m,by unfold turns;omega,by rw[v];exact λz=>s ((L.rp g).mp z)⟩;have A:j∉pl:=λz=>U ((L.rp D).mpr z);have Y:blk T.mask (SetTable.bits h%(T.mask+1),SetTable.bits h) none=T.probeStart h:=rfl;rw[Y]at F C;refine⟨j,V,⟨?_,?_,?_,?_,?_,?_⟩⟩;·rw[aq,aq,L.len];rfl
 ·rw[Array.size_setIfInBounds];exact L.sz
 ·intro i c;have r:j<owner.size:=by rw[L.sz];omega
  by_cases w:j=i
  ·subst w;rw[Array.getElem?_setIfInBounds_self_of_lt r];constructor
   ·intro z;cases z;rw[<-L.len,aC<|ah _];simp
   ·intro z;by_cases y:c<pl.length
    ·rw[ag y]at z;exact absurd (aM z) A
    ·have:c=pl.length:=by
      have:=(ar.mp z).1;rw[aq,bq]at this;omega
     rw[this,L.len]
  ·rw[dY w,L.own i c];constructor
   ·intro z;rw[ag (ar.mp z).1];exact z
   ·intro z;by_cases y:c<pl.length;·rw[ag y]at z;exact z
    ·rw[aC<|by omega]at z;have:c - pl.length=0:=by
      have:=(ar.mp z).1;rw[bq]at this;omega
     rw[this]at z;simp at z;exact absurd z w
 ·intro i hi;rcases bx.mp hi with hi|hi;·exact L.le i hi
  ·rw[aJ.mp hi];exact D
 ·exact dU.mpr ⟨L.nd,by simp,λa O b u e=>A<|by rw[<-aJ.mp u,<-e];exact O⟩
 ·intro c R i l d;by_cases y:c<pl.length
  ·rw[ag y]at d;rw[ag (by rw[<-L.len];exact y)]at l;obtain⟨m,I,G⟩:=L.reach c R i l d;exact⟨m,I,λp w=>bR _<|G p w⟩
  ·have f:c=pl.length:=by
    have:=(ar.mp d).1;rw[aq,bq]at this;omega
   rw[f,aC<|ah _]at d;rw[f,L.len,aC<|ah _]at l;simp at l d;subst l;subst d;refine⟨n,F,λp w=>bR _<|(L.rp ?_).mp (C p w)⟩;have:=(lr.hL p<|BO T h).j;omega
theorem A3{T:SetTable}(m:T.mask+1=2^k):∀(a d:List Int) owner pl,mO T d owner pl->d.length+a.length<=T.mask->
 ∃c f,a.foldl (λ(g:Option (Array (Option Nat)×Nat)) h=>do
  let(owner,k)<-g
  let j<-layClean.free T.mask owner (turns T.mask) (SetTable.bits h%(T.mask+1)) (SetTable.bits h)
  pure (owner.setIfInBounds j (some k),k+1)) (some (owner,d.length))=some (c,(d++a).length)/\mO T (d++a) c f
 |[],d,owner,pl,L,_=>⟨owner,pl,by rw[aZ];rfl,by rw[aZ];exact L⟩
 |h::a,d,owner,pl,L,q=>by
  rw[ao]at q;obtain⟨j,s,r⟩:=L.step m h (by omega);obtain⟨p,n,l,i⟩:=A3 m a (d++[h]) _ _ r (by rw[aq,bq];omega);refine⟨p,n,?_,?_⟩
  ·rw[dc,f7]at l;rw[<-l,cY]
   congr 1
   show(layClean.free T.mask owner (turns T.mask) (SetTable.bits h%(T.mask+1))<|SetTable.bits h).bind _=_;rw[s,aq,bq];rfl
  ·rw[dc,f7]at i;exact i
def Iq{T:SetTable}(n:T.mask+1=2^k)(c:Array Int)(m:c.size<=T.mask):∃a g,layClean T.mask c=some a/\mO T c.toList a g:=by
 have p:mO T [] (Array.replicate (T.mask+1) none) []:=by refine⟨rfl,by simp,λj k=>?_,λj h=>(by cases h),List.Pairwise.nil,λk h j e=>(by simp at e)⟩;rw[Array.getElem?_replicate];split<;>simp
 obtain⟨l,i,d,f⟩:=A3 n c.toList [] _ _ p (by simpa using m);refine⟨l,i,?_,f⟩;unfold layClean;rw[<-Array.foldl_toList];rw[fU]at d;rw[d];rfl
def Cz(n)(j:n<10^6):∃k,3<=k/\sizeAbove n=2^k/\n<sizeAbove n/\sizeAbove n<=2*n+8:=by
 have l:∀(a size k:Nat),size=2^k->3<=k->(size<=2*n+8)->n<size*2^a->∃g,3<=g/\sizeAbove.go n a size=2^g/\n<sizeAbove.go n a size/\sizeAbove.go n a size<=2*n+8:=by
  intro a;induction a with
  |zero=>intro size k c f d h;exact⟨k,f,c,by show n<size;omega,d⟩
  |succ a i=>
   intro size k c f d h;unfold sizeAbove.go;by_cases w:size<=n
   ·rw[ai w];refine i (size*2) (k+1) (by rw[c,cE]) (by omega) (by omega) ?_;rw[eY,fO 2,<-cE];exact h
   ·rw[ak w];exact⟨k,f,c,by omega,d⟩
 exact l 64 8 3 rfl (ah _) (by omega) (ay j<|by decide)
def Oj(t:SetTable)(c:Array<|Int×Value)(n)(hn:n<10^6)(hl:4*c.size<=n):
    ∃F f,t.relaid (c.map (·.1)) n=some (F,f)/\(f.filterMap (c[·]?)).toList.Perm c.toList/\Tab F (f.filterMap (c[·]?)).toList/\F.led=t.led/\F.plain=t.plain/\n<=F.mask/\F.mask<=2*n+7:=by
 obtain⟨k,h3,hk,A,hu⟩:=Cz n hn;obtain⟨T,hT⟩:∃T:SetTable,T={t with mask:=sizeAbove n - 1}:=⟨_,rfl⟩;have C:T.mask=sizeAbove n - 1:=by rw[hT]
 have J:T.mask+1=2^k:=by rw[C,<-hk];omega
 obtain⟨u,O,e,L⟩:=Iq J (c.map (·.1)) (by rw[Array.size_map,C];omega);have v:O.length=c.size:=by rw[L.len];simp
 unfold relaid laid;rw[<-C,e];generalize p:(List.range<|T.mask+1).filterMap (λj=>(u.getD j none).map (j, ·))=live;have g:∀j i,(j,i)∈live↔O[i]?=some j:=λj i=>by
  rw[<-p,cV,<-L.own j i];constructor
  ·rintro ⟨a,Z,e⟩
   obtain⟨b,A,e2⟩:=aj.mp e;obtain⟨rfl,rfl⟩:=Prod.mk.inj e2;have d:a<u.size:=by rw[L.sz];exact bz.mp Z
   rw[aH d];simp[Array.getD,d]at A;rw[A]
  ·intro z;have d:=(bg.mp z).1;refine⟨j,bz.mpr<|by rw[<-L.sz];exact d,?_⟩;rw[aH d]at z;have z':=Option.some.inj z;simp[Array.getD,d,z']
 have G:live.Pairwise λa b=>a.1<b.1:=by rw[<-p];refine List.Pairwise.filterMap (R:=λa b=>a<b) (S:=λ(a b:Nat×Nat)=>a.1<b.1) _ ?_ fQ;intro a a' h b A b' Y;obtain⟨_,_,M⟩:=aj.mp A;obtain⟨_,_,e2⟩:=aj.mp Y;subst M;subst e2;exact h
 have P:(live.map (·.2)).Nodup:=by refine eW _ (R:=λa b=>a.2≠b.2) (λ_ _ h=>h) ?_;refine fb (λ{a b} Z A h w=>?_) G;have s:=(g a.1 a.2).mp Z;have h2:=(g b.1 b.2).mp A;rw[w,h2]at s;have:=Option.some.inj s;omega
 have p2:(live.map (·.2)).Perm (List.range c.size):=BD P (wK _) λx=>by
  rw[aP,bz];constructor
  ·rintro ⟨⟨j,i⟩,s,rfl⟩
   have:=(ar.mp<|(g j i).mp s).1;rw[v]at this;exact this
  ·intro h;exact⟨(O[x]'(by rw[v];exact h),x),(g _ _).mpr (au _),rfl⟩
 have D:((live.map (·.2)).toArray.filterMap (c[·]?)).toList=live.map λq=>c.getD q.2 (0,.none):=by
  rw[Array.toList_filterMap,List.filterMap_map];have go:∀l:List (Nat×Nat),(∀q∈l,q.2<c.size)->l.filterMap ((λx=>c[x]?)∘λx=>x.2)=l.map λq=>c.getD q.2 (0,.none):=by
   intro l;induction l with
   |nil=>intro _;rfl
   |cons q r ih=>
    intro h;have d:=h q (.head _);have M:((λx=>c[x]?)∘λ(x:Nat×Nat)=>x.2) q=some (c.getD q.2 (0,.none)):=by show c[q.2]?=_;rw[aH d];simp[Array.getD,d]
    rw[List.filterMap_cons_some M,ih λx hx=>h x<|.tail _ hx,aE]
  exact go live λq hq=>bz.mp (p2.mem_iff.mp<|aP.mpr ⟨q,hq,rfl⟩)
 have y:((live.map (·.2)).toArray.filterMap (c[·]?)).toList.Perm c.toList:=by
  rw[D];have s:=p2.map λi=>c.getD i (0,.none);rw[bw]at s;refine s.trans ?_;have:(List.range c.size).map (λi=>c.getD i (0,.none))=c.toList:=by
   apply fA;·simp
   ·intro i s h2;have:i<c.size:=by simpa using s
    simp[Array.getD,this]
  rw[this]
 have L4:=L.len;refine⟨{mask:=T.mask,place:=(live.map (·.1)).toArray,dummies:=#[],finger:=t.finger,led:=t.led,moves:=t.movedTo T.mask,plain:=t.plain},(live.map (·.2)).toArray,by rw[<-p];rfl,y,⟨⟨k,h3,J⟩,?_,?_,rfl,?_,?_,?_⟩,rfl,rfl,by show n<=T.mask;omega,by show T.mask<=_;omega⟩
 ·show jQ (live.map (·.1)).toArray;unfold jQ;rw[List.toList_toArray];exact eW _ (λ_ _ h=>h) G
 ·intro j hj;have V:j∈live.map (·.1):=by simpa using hj
  obtain⟨⟨a,i⟩,s,rfl⟩:=aP.mp V;exact L.le _ (aM<|(g a i).mp s)
 ·rw[D];simp
 ·rw[y.length_eq,av];show c.size<=T.mask;omega
 ·intro j e hz;rw[D]at hz;have I:(j,e)∈List.zip (live.map (·.1)) (live.map λq=>c.getD q.2 (0,.none)):=by simpa using hz
  rw[List.zip_map',aP]at I;obtain⟨⟨a,i⟩,s,M⟩:=I;cases M;have hp:=(g a i).mp s;have hi:i<c.size:=by rw[<-v];exact(ar.mp hp).1
  obtain⟨m,r1,r2⟩:=L.reach i (c.getD i (0,.none)).1 a (by simp[Array.getD,hi]) hp;have N:T.mask=(({mask:=T.mask,place:=(live.map (·.1)).toArray,dummies:=#[],finger:=t.finger,led:=t.led,moves:=t.movedTo T.mask,plain:=t.plain}:SetTable)).mask:=rfl;refine⟨m,by rw[<-oh N,<-qg N];exact r1,λm' w=>?_⟩;rw[<-oh N,<-qg N];obtain⟨k',U,Q⟩:=bK (r2 m' w);show _∈(live.map (·.1)).toArray.toList;rw[List.toList_toArray];exact aP.mpr ⟨(_,k'),(g _ _).mpr (by rw[au U,Q]),rfl⟩
end yO
open L2 PySem.Spec PySem.Calls PySem.W yO
open PyProof.Rows hiding St K
def tK(h:Heap):Value->List Key
 |.ref b=>match h.get? b with
  |some o=>match o.data with
   |.seq items _=>items.toList.map vK
   |_=>[]
  |none=>[]
 |_=>[]
section
variable{f:Program}{w:World}{A:Around}{E:ia}{s:Shared}
abbrev jJ(P:Program)(w:World)(h:Heap)(ks:List Key)(b:Addr):Prop:=IsTupleKey (jk P w) h ks b
abbrev ja(P:Program)(w:World)(ks:List Key):Int:=tupleKeyHash (jk P w) ks
def wd{v}(h:(jk f w).is k v=true):RelV (kV k) v:=by
 have a:lV k v=true:=h;cases k with
 |inl i=>
  cases v with
  |int j t=>
   have e:j=i:=by simpa [lV,Value.isInt]using a
   exact⟨t,by rw[e]⟩
  |_=>exact absurd a (by simp[lV,Value.isInt])
 |inr x=>
  cases v with
  |str y t=>
   have e:y=x:=by simpa [lV,Value.isStrOf]using a
   exact⟨t,by rw[e]⟩
  |_=>exact absurd a (by simp[lV,Value.isStrOf])
def HC(h:ItemsAre (jk f w) ks vs):vs.map vK=ks:=by
 induction h with
 |nil=>rfl
 |cons c _ a=>rw[aE,a,Qk<|wd c]
def jJ.tK(x:jJ f w h ks b):tK h (.ref b)=ks:=by obtain⟨o,a,n,c,_,d,hi⟩:=x;unfold P2.tK;dsimp only;rw[c];dsimp only;rw[d];exact HC hi
def TK(P:Program)(w:World)(h:Heap)(v:Value):Prop:=∃b,v=.ref b/\jJ P w h (tK h v) b
def jJ.at'{h':Heap}(x:jJ f w h ks b)(e:∀o,h.get? b=some o->h'.get? b=some o):jJ f w h' ks b:=by obtain⟨o,a,n,c,r⟩:=x;exact⟨o,a,n,e o c,r⟩
def jJ.ne{t}(x:jJ f w h ks b)(i:h.get? a=some o)(j:o.data=.set es ep t):b≠a:=by
 rintro rfl
 obtain⟨k,g,n,c,_,d,_⟩:=x;rw[i]at c;cases c;rw[j]at d;cases d
def mi(P:Program)(w:World)(h:Heap)(a:List<|Int×Value):Prop:=∀e∈a,TK P w h e.2/\e.1=ja P w (tK h e.2)
def jE(h:Heap)(a:List<|Int×Value):List (List Key):=a.map λe=>tK h e.2
def kv(P:Program)(w:World)(M:Value->Prop)(h:Heap)(a:Addr)(d:List<|List Key)(n:Nat):Prop:=
 ∃o c g t,h.get? a=some o/\o.ExactSet/\o.data=.set c g t/\mi P w h c.toList/\(∀e∈c.toList,M e.2)/\c.size<=n/\Tab t c.toList/\c.size*5<t.mask*3/\t.mask<=8100/\t.led=!(w.params.followText "set-order")/\(jE h c.toList).Nodup/\∀k,k∈jE h c.toList↔k∈d
def mi.at'{h':Heap}(x:mi f w h es)(k:∀e∈es,∀b o,e.2=.ref b->h.get? b=some o->h'.get? b=some o):mi f w h' es/\jE h' es=jE h es:=by
 have d:∀e∈es,TK f w h' e.2/\tK h' e.2=tK h e.2:=λe a=>by
  obtain⟨⟨b,g,tk⟩,_⟩:=x e a;have c:=tk.at' (λo j=>k e a b o g j);have i:tK h' e.2=tK h e.2:=by rw[g]at c⊢;exact c.tK
  exact⟨⟨b,g,by rw[i];exact c⟩,i⟩
 refine⟨λe a=>⟨(d e a).1,by rw[(d e a).2];exact(x e a).2⟩,?_⟩;unfold jE;exact bW λe a=>(d e a).2
def kv.keep{h':Heap}{n}(x:kv f w M h a iN n)(k:∀b o,h.get? b=some o->(∀c m,o.data=.seq c m->o.cls=.type "tuple"->True)->(b=a\/∃c m,o.data=.seq c m/\o.cls=.type "tuple")->h'.get? b=some o):kv f w M h' a iN n:=by
 obtain⟨o,O,P,t,G,j,J,r,D,C,z,y,v,u,F,i⟩:=x;obtain⟨N,q⟩:=r.at' (h':=h') λe I b ob Q p=>by obtain⟨⟨T,g,tk⟩,_⟩:=r e I;rw[Q]at g;cases g;obtain⟨R,c,m,d,L,l,_⟩:=tk;rw[p]at d;cases d;exact k b ob p (λ_ _ _ _=>True.intro) (.inr ⟨c,m,l,L⟩)
 exact⟨o,O,P,t,k a o G (λ_ _ _ _=>True.intro)<|.inl rfl,j,J,N,D,C,z,y,v,u,by rw[q];exact F,by rw[q];exact i⟩
def E5(n){v}(h:carriedByValue v=true):ofAClassStatement n v=pure false:=by
 cases v with
 |ref a=>simp[carriedByValue]at h
 |_=>first|rfl|simp[ofAClassStatement]|(unfold ofAClassStatement;rfl)
def C9{Q:Bool->Shared->Prop}(j:jJ f w s.heap ks b)(h:Q false s):wpAny (model f w) A (ofAClassStatement 8<|.ref b) Q E s:=by
 have hT:=j.typeIs;obtain⟨o,d,n,k,_,l,hi⟩:=j;unfold ofAClassStatement;refine aa (fJ hT ?_);dsimp only;rw[ai<|by decide];refine aa (af ?_);simp only[d8,bc,bC];refine aa (eN k l ?_);dsimp only;refine aa ?_;rw[<-Array.forIn_toList];refine fG _ (λrest r c=>r.1=none/\c=s/\∀v∈rest,carriedByValue v=true) _ ?_ ?_ _ _ ⟨rfl,rfl,hi.byValue⟩
 ·rintro v rest r c ⟨i,rfl,a⟩
  rw[E5 _<|a v bP];refine aa (af ?_);simp only[bc,bC];exact af ⟨rfl,rfl,λu g=>a u<|bu _ g⟩
 ·rintro ⟨p,m⟩ c ⟨i,rfl,_⟩
  simp only at i;subst i;exact af h
def Qy{Q:Bool->Shared->Prop}(j:jJ f w s.heap ks b)(l:∀y∈ys,TK f w s.heap y)(h:Q false s):wpAny (model f w) A (searchCouldBeSeen (.ref b) ys) Q E s:=by
 unfold searchCouldBeSeen;refine aa ?_;refine fG _ (λrest r d=>r.1=none/\d=s/\∀y∈rest,TK f w s.heap y) _ ?_ ?_ _ _ ⟨rfl,rfl,l⟩
 ·rintro y rest r d ⟨i,rfl,a⟩
  obtain⟨c,rfl,k⟩:=a y bP;dsimp only;refine aL (λ_=>af ⟨rfl,rfl,λu g=>a u<|bu _ g⟩) (λ_=>?_);refine aa (wpAny_eqIsQuiet_tuple j ?_);simp only[d8,bc,bC];refine aa (wpAny_eqIsQuiet_tuple k ?_);simp only[d8,bc,bC];refine aa (C9 j ?_);simp only[bc,bC];refine aa (C9 k ?_);simp only[bc,bC];exact af ⟨rfl,rfl,λu g=>a u<|bu _ g⟩
 ·rintro ⟨n,m⟩ d ⟨i,rfl,_⟩
  simp only at i;subst i;exact af h
def Qx{Q:Bool->Shared->Prop}(j:jJ f w s.heap ks b)(h:∀r,Q r s):wpAny (model f w) A (hashByValue 8<|.ref b) Q E s:=by
 have hT:=j.typeIs;obtain⟨o,a,n,k,_,l,hi⟩:=j;unfold hashByValue;refine aa (fV hT PySem.F.slot_tuple_hash.lookup ?_);dsimp only;refine aa (eN k l ?_);refine aa ?_;show wpAny _ _ (forIn a _ _) _ _ s;rw[<-Array.forIn_toList];refine fG _ (λrest r d=>r.1=none/\d=s/\∃c,ItemsAre (jk f w) c rest) _ ?_ ?_ _ _ ⟨rfl,rfl,ks,hi⟩
 ·rintro v rest r d ⟨g,rfl,c,i⟩
  cases i with
  |cons p m=>
   rw[hashByValue_scannable _<|OG<|wd p];refine aa (af ?_);cases plainKind v with
   |true=>simp only[d8,bc,bC];exact af ⟨rfl,rfl,_,m⟩
   |false=>simp only[gy,cB];exact af (af<|h false)
 ·rintro ⟨t,q⟩ d ⟨g,rfl,_⟩
  simp only at g;subst g;exact af (h true)
def Hw{Q:Bool->Shared->Prop}(h:Q true s):wpAny (model f w) A (isSame (.ref b)<|.ref b) Q E s:=by unfold isSame;dsimp only;refine aL (λ_=>af h) (λa=>absurd (fq b) a)
def vT{h:Heap}{c:Array<|Int×Value}(d:mi f w h c.toList){i:Nat}{e:Int×Value}(a:c[i]?=some e):TK f w h e.2/\e.1=ja f w (tK h e.2):=
 d e (by rw[<-aU]at a;exact aM a)
def HW{h:Heap}{c:Array<|Int×Value}{i:Nat}{e:Int×Value}(a:c[i]?=some e):tK h e.2∈jE h c.toList:=by unfold jE;rw[<-aU]at a;exact aP.mpr ⟨e,aM a,rfl⟩
def Q0{t:SetTable}{d:Array<|Int×Value}{i j:Nat}{e:Int×Value}(c:t.place[i]?=some j)(a:d[i]?=some e):(j,e)∈List.zip t.place.toList d.toList:=by rw[<-aU]at c a;exact aM (i:=i) (by rw[List.getElem?_zip_eq_some];exact⟨c,a⟩)
def OJ{a b:Addr}{d:List Key}{o:Obj}{k:Array<|Int×Value}{ep:Nat}{t:SetTable}{Q:SetFound->Shared->Prop}(hx:jJ f w s.heap d b)(hu:A.units<cLine)(ho:s.heap.get? a=some o)(hd:o.data=.set k ep t)(el:mi f w s.heap k.toList)(F:Tab t k.toList)(hm:t.mask<=8100)
    (hin:d∈jE s.heap k.toList->Q (.there none) s)(O:∀j,j∉t.place.toList->j<=t.mask->qC t (ja f w d) j->d∉jE s.heap k.toList->Q (.free j false) s):
    wpAny (model f w) A (setSearch a (.ref b) (ja f w d) true) Q E s:=by
 have hf:t.fits k.size=true:=by have:=F.fits;rw[av]at this;exact this
 have N:t.place.size=k.size:=by rw[F.sz,av]
 obtain⟨em,Z,Y⟩:=F.room;obtain⟨kk,_,G8⟩:=F.k;have G:=BO t (ja f w d);obtain⟨C,GF,GG⟩:=yS G8 G.b G.r Z;have Ax:(hL t C<|t.probeStart<|ja f w d).j∉t.place.toList:=by rw[GG];exact Y
 have go:∀(g c:Nat) (u:Option SetTable.Probe),u.getD (t.probeStart<|ja f w d)=hL t c (t.probeStart<|ja f w d)->c<=C->C - c<g->
  (∀m,m<c->∃(i:Nat) (e:Int×Value),t.place[i]?=some (hL t m<|t.probeStart<|ja f w d).j/\k[i]?=some e/\tK s.heap e.2≠d)->wpAny (model f w) A (setSearchFrom a (.ref b) (ja f w d) true g u) Q E s:=by
  intro g;induction g with
  |zero=>intro c st _ _ h;exact absurd h (cm _)
  |succ g ih=>
   intro c u hs hc RB old;obtain⟨m,g1,g2⟩:=Lf F (λi=>(k[i]?.map (·.1)).getD 0) (ja f w d) (lr.hL c G);have rp:∀l,l<m->∃(i:Nat) (e:Int×Value),t.place[i]?=some (hL t (c+l)<|t.probeStart<|ja f w d).j/\k[i]?=some e/\tK s.heap e.2≠d:=λl R=>by
    obtain⟨i,J,h2⟩:=g1 l R;rw[<-mQ]at J;have hi:i<k.size:=by rw[<-N];exact(bg.mp J).1
    have D:=aH hi;refine⟨i,k[i],J,D,λz=>h2 ?_⟩;rw[D];show k[i].1=_;rw[(vT el D).2,z]
   have v:∀l,l<c+m->∃(i:Nat) (e:Int×Value),t.place[i]?=some (hL t l<|t.probeStart<|ja f w d).j/\k[i]?=some e/\tK s.heap e.2≠d:=λl R=>by
    by_cases z:l<c;·exact old l z
    ·obtain⟨m2,rfl⟩:∃m2,l=c+m2:=⟨l - c,by omega⟩;exact rp m2 (by omega)
   have T:∀l,(∃(i:Nat) (e:Int×Value),t.place[i]?=some (hL t l<|t.probeStart<|ja f w d).j/\k[i]?=some e/\tK s.heap e.2≠d)->(hL t l<|t.probeStart<|ja f w d).j∈t.place.toList:=λl ⟨i,e,J,_⟩=>by rw[<-aU]at J;exact aM J
   have Ry:c+m<=C:=Nat.le_of_not_lt λz=>Ax (T C<|v C z);rw[<-mQ,<-mQ,<-hs]at g2;unfold setSearchFrom;refine aa (bG ho hd hf ?_);dsimp only;refine aL (λq5=>absurd q5 (by rw[F.odd];decide)) (λ_=>?_);rcases g2 with⟨L,g4⟩|⟨i,L,g4,g5,g6⟩
   ·split
    ·rename_i met n;have e:=g4.symm.trans n;cases e;dsimp only;refine af (O _ L (by have:=(lr.hL (c+m) G).j;omega) ⟨c+m,rfl,λl R=>T l (v l R)⟩ λhk=>?_);unfold jE at hk;obtain⟨e,D,ek⟩:=aP.mp hk;obtain⟨i,hi,ei⟩:=bK D;have G1:i<k.size:=by simpa using hi
     have V:i<t.place.size:=by rw[N];exact G1
     have P:k[i]?=some e:=by rw[<-aU,au hi,ei]
     have U:t.place[i]?=some t.place[i]:=aH V;obtain⟨m1,r1,r2⟩:=F.reach _ _ (Q0 U P);have eh:e.1=ja f w d:=by rw[(vT el P).2,ek]
     rw[eh]at r1 r2;rcases dQ m1 (c+m)with q|q|q
     ·obtain⟨x,e',J,h2,h3⟩:=v m1 q;rw[r1]at J;have:x=i:=by
       have G2:=(bg.mp J);obtain⟨l1,l2⟩:=G2;rcases dQ x i with q2|q2|q2;·have:=F.mD.lt q2 V;omega
       ·exact q2
       ·have:=F.mD.lt q2 l1;omega
      subst this;rw[P]at h2;cases h2;exact h3 ek
     ·subst q;exact L (by rw[r1,<-aU]at*;exact aM U)
     ·exact L (r2 _ q)
    ·rename_i n;exact(n _ g4).elim
   ·split
    ·rename_i met n;have e:=g6.symm.trans n;cases e;dsimp only;have hi:i<k.size:=by rw[<-N];exact(bg.mp L).1
     have D:k[i]?=some k[i]:=aH hi;obtain⟨⟨y,ey,hy⟩,_⟩:=vT el D
     have rest:wpAny (model f w) A (do
      let p<-holding [k[i].2] (eqBool k[i].2 (.ref b))
      let(es',_,t')<-setState a
      if true&&p then return .there none
      let some xW:=t'.sameMemory t.moves t.mask|unsupported "set.changed-during-lookup:is-the-new-block-at-the-old-address"
      let r<-match(if xW then t'.slot (hL t (c+m)<|t.probeStart<|ja f w d).j else .empty)with
       |.live x=>match es'[x]? with
        |some (_,y')=>do pure (if<-isSame y' k[i].2 then some x else none)
        |none=>pure none
       |_=>pure none
      match r with
      |none=>rule "set.search.anew";setSearchFrom a (.ref b) (ja f w d) true g none
      |some x=>if p then return .there (some x)else setSearchFrom a (.ref b) (ja f w d) true g (some (hL t (c+(m+1)) (t.probeStart (ja f w d))))) Q E s:=by
      rw[ey]at hy⊢;refine aa (bU<|wpAny_eqBool_tuple hu hy hx ?_);refine aa (bG ho hd hf ?_);dsimp only;by_cases I:tK s.heap (.ref y)=d
      ·rw[aV I];refine aL (λ_=>af<|hin ?_) (λz=>absurd rfl z);have:=HW (h:=s.heap) D;rw[ey,I]at this;exact this
      ·rw[aW I];refine aL (λz=>absurd z<|by decide) (λ_=>?_);have sm:t.sameMemory t.moves t.mask=some true:=by unfold SetTable.sameMemory;simp
       rw[sm];dsimp only;rw[ai rfl,g4];dsimp only;rw[D];dsimp only;rw[ey];refine aa (Hw<|aa<|af ?_);rw[ai rfl];dsimp only;refine aL (λz=>absurd z<|by decide) (λ_=>?_);have AB:c+(m+1)<=C:=by
        rcases gD (c+m) C with q|q;·omega
        ·have:c+m=C:=by omega
         rw[this]at L;rw[<-aU]at L;exact absurd (aM L) Ax
       refine ih (c+(m+1)) _ rfl AB (by omega) λl R=>?_;rcases gD l (c+m)with q|q;·exact v l q
       ·have:l=c+m:=by omega
        subst this;exact⟨i,k[i],L,D,by rw[ey];exact I⟩
     have M:wpAny (model f w) A (do
      let some (_,y):=k[i]?|unsupported "internal:set-entry"
      let p<-holding [y] (eqBool y<|.ref b)
      let(es',_,t')<-setState a
      if true&&p then return .there none
      let some xW:=t'.sameMemory t.moves t.mask|unsupported "set.changed-during-lookup:is-the-new-block-at-the-old-address"
      let r<-match(if xW then t'.slot (hL t (c+m)<|t.probeStart<|ja f w d).j else .empty)with
       |.live x=>match es'[x]? with
        |some (_,y')=>do pure (if<-isSame y' y then some x else none)
        |none=>pure none
       |_=>pure none
      match r with
      |none=>rule "set.search.anew";setSearchFrom a (.ref b) (ja f w d) true g none
      |some x=>if p then return .there (some x)else setSearchFrom a (.ref b) (ja f w d) true g (some (hL t (c+(m+1)) (t.probeStart (ja f w d))))) Q E s:=by
      rw[D];exact rest
     refine aL (λ_=>?_) (λ_=>M);refine aa (Qy hx (λy' Hi=>?_) ?_)
     ·obtain⟨e,Az,rfl⟩:=aP.mp Hi;have:e∈k.toList:=by
       rw[Array.toList_filter]at Az;exact(cC.mp Az).1
      exact(el e this).1
     ·refine aL (λz=>absurd z<|by decide) (λ_=>M)
    ·rename_i n;exact(n _ g6).elim
 unfold setSearch;refine go 100000 0 none rfl (bD _) ?_ λm h=>absurd h (cm _);unfold SetTable.turns at GF;omega
def zW{h:Heap}(i:h.get? a=some o)(k:o.data=.set Rt ep t0)(d:mi f w h es)(g:Heap.SameBut a h h'):mi f w h' es/\jE h' es=jE h es:=
 d.at' λe j b ob m l=>by obtain⟨⟨n,c,tk⟩,_⟩:=d e j;rw[m]at c;cases c;rw[g.2 b<|tk.ne i k];exact l
def Ol{t n}{Q:Unit->Shared->Prop}(j:s.heap.get? a=some o)(m:o.data=.set es ep t)(hf:t.fits es.size=true)(l:n<10^6)(r:4*es.size<=n)
 (h:∀(c:Array<|Int×Value) t',c.toList.Perm es.toList->Tab t' c.toList->t'.led=t.led->n<=t'.mask->t'.mask<=2*n+7->Q () {s with heap:=s.heap.update a<|Obj.putSet c t'}):
   wpAny (model f w) A (setRelay a n) Q E s:=by
  obtain⟨k,_,y,z,x⟩:=Cz n l;obtain⟨t',d,e,i,p,v,C,u,q⟩:=Oj t es n l r;unfold setRelay;refine aa (bG j m hf ?_);dsimp only;refine aL (λg=>absurd g (by rw[cU];omega)) (λ_=>?_);rw[e];have sz:(d.filterMap (es[·]?)).size=es.size:=by rw[<-av,i.length_eq,av]
  refine aa ?_
  show wpAny _ _ (do
   let c:=d.filterMap (es[·]?)
   if c.size !=es.size then unsupported "internal:set-table-lost-an-element"
   pure (c,t')) _ _ s
  dsimp only;refine aL (λg=>absurd g<|by rw[sz];simp) (λ_=>af ?_);dsimp only;refine wpAny_storeSet_of j m (h _ t' i p v u q) (by rw[sz,cU];omega)
def Ee{M:Value->Prop}{n}{Q:Bool->Shared->Prop}(hx:jJ f w s.heap ks b)(hu:A.units<cLine)(hM:M<|.ref b)(hS:kv f w M s.heap a iN n)(hroom:n+1<=1000)
 (h:∀r h',Heap.SameBut a s.heap h'->kv f w M h' a (ks::iN) (n+1)->Q r {s with heap:=h'}):
   wpAny (model f w) A (setAddHashed a (.ref b)<|ja f w ks) Q E s:=by
  obtain⟨o,v,ep,t,P,hex,F,el,hin,hn,tb,Y,g,q,tS,m⟩:=hS;have hf:t.fits v.size=true:=by have:=tb.fits;rw[av]at this;exact this
  have m7:=tb.m7;unfold setAddHashed setAddHashedIn;refine bU (aa<|bG P F hf ?_);dsimp only;refine aL (λq5=>absurd q5<|by unfold byScan;simp[Value.scannable]) (λ_=>?_);refine aa (OJ hx hu P F el tb g (λhk=>?_) λj hj hl hr hk=>?_)
  ·dsimp only;refine af ?_;have e:s={s with heap:=s.heap}:=by cases s;rfl
   have:=h false s.heap (Heap.SameBut.refl a s.heap) ⟨o,v,ep,t,P,hex,F,el,hin,by omega,tb,Y,g,q,tS,λN=>by rw[m N,aF];exact⟨.inr,λz=>z.elim (λz=>by rw[z];exact(m ks).mp hk) id⟩⟩
   rw[e];exact this
  ·dsimp only;refine aa (bG P F hf ?_);dsimp only;obtain⟨i,em,G,_⟩:=tb.put (x:=.ref b) (by omega) hj hl hr;generalize RM:t.put j=pt at i em G⊢;obtain⟨t1,p⟩:=pt;dsimp only at i em G⊢;have k:=insertAt_perm v p (ja f w ks,Value.ref b);generalize RA:SetTable.insertAt v p (ja f w ks,Value.ref b)=jC at i k⊢;have U:jC.size=v.size+1:=by rw[<-av,k.length_eq,ao,av]
   have zX:mi f w s.heap jC.toList:=λe u=>by
    rcases aF.mp (k.mem_iff.mp u)with rfl|u;·exact⟨⟨b,rfl,by rw[hx.tK];exact hx⟩,by rw[hx.tK]⟩
    ·exact el e u
   have R:∀e∈jC.toList,M e.2:=λe u=>by
    rcases aF.mp (k.mem_iff.mp u)with rfl|u;·exact hM
    ·exact hin e u
   have kp:(jE s.heap jC.toList).Perm (ks::jE s.heap v.toList):=by have:=k.map λe=>tK s.heap e.2;rw[aE,hx.tK]at this;exact this
   have J:(jE s.heap jC.toList).Nodup:=kp.nodup_iff.mpr (bX.mpr ⟨hk,tS⟩);have L:∀N,N∈jE s.heap jC.toList↔N∈ks::iN:=λN=>by rw[kp.mem_iff,aF,aF,m N]
   have I:∀(c:SetTable),Tab c jC.toList->c.mask=t.mask->c.led=t.led->wpAny (model f w) A (do
    storeSet a jC c
    if(!false&&c.tooFull)=true then setRelay a (SetTable.grown<|v.size+1)
    return true) Q E s:=λc y F7 zU=>by
    refine aa (wpAny_storeSet_of P F ?_ (by rw[U,cU];omega));have V:(s.heap.update a<|Obj.putSet jC c).get? a=some {o with data:=.set jC (ep+1) c}:=by have:=ba (Obj.putSet jC c) P (by rw[putSet_of jC c F];rfl);rw[putSet_of jC c F]at this;exact this
    have l:=bf s.heap a (Obj.putSet jC c);obtain⟨F3,ka⟩:=zW P F zX l;have GW:c.fill=v.size+1:=by unfold SetTable.fill;rw[y.mq,y.sz,av,U];rfl
    have fin:∀(D:¬(c.tooFull=true)),kv f w M (s.heap.update a<|Obj.putSet jC c) a (ks::iN) (n+1):=λD=>by refine⟨_,jC,_,c,V,hex,rfl,F3,R,by omega,y,?_,by rw[F7];exact g,by rw[zU];exact q,by rw[ka];exact J,by rw[ka];exact L⟩;unfold SetTable.tooFull at D;rw[GW]at D;rw[U];simp at D;omega
    by_cases Z:c.tooFull=true
    ·rw[Z];simp only[gy,Bool.and_true,cB];have g4:SetTable.grown (v.size+1)=4*(v.size+1):=by
      unfold SetTable.grown;rw[ak<|by omega];omega
     rw[g4];refine aa (Ol (s:={s with heap:=s.heap.update a<|Obj.putSet jC c}) V rfl (by have:=y.fits;rw[av]at this;exact this) (by omega) (by omega) λd T C PX F2 RG RH=>af ?_);have Hc:((s.heap.update a<|Obj.putSet jC c).update a (Obj.putSet d T)).get? a=some {o with data:=.set d (ep+1+1) T}:=by have:=ba (Obj.putSet d T) V (by rw[putSet_of d T rfl];rfl);rw[putSet_of d T rfl]at this;exact this
     have O:=l.trans (bf (s.heap.update a<|Obj.putSet jC c) a<|Obj.putSet d T);have F6:mi f w s.heap d.toList:=λe u=>zX e (C.mem_iff.mp u);obtain⟨F4,kb⟩:=zW P F F6 O;have AV:(jE s.heap d.toList).Perm (jE s.heap jC.toList):=C.map _;have R3:d.size=jC.size:=by rw[<-av,C.length_eq,av]
     exact h true _ O ⟨_,d,_,T,Hc,hex,rfl,F4,λe u=>R e<|C.mem_iff.mp u,by omega,PX,by omega,by omega,by rw[F2,zU];exact q,by rw[kb];exact AV.nodup_iff.mpr J,λN=>by rw[kb,AV.mem_iff];exact L N⟩
    ·have GX:c.tooFull=false:=by simpa using Z
     rw[GX];simp only[Bool.and_false,bc,bC];exact aa (af<|af<|h true _ l<|fin Z)
   refine aL (λhp=>aa<|Qx hx λr=>?_) (λhp=>aa<|af ?_)
   ·refine I _ ?_ ?_ ?_
    ·split;·exact i
     ·exact i.off false
    ·split<;>exact em
    ·split<;>exact G
   ·simp only[cB];exact I t1 i em G
def kv.kp{f:Program}{w:World}{M:Value->Prop}{h q:Heap}{a:Addr}{d:List<|List Key}{n:Nat}{j:List Addr}(x:kv f w M h a d n)(l:∀b∈j,b≠a/\∀o c m,h.get? b=some o->o.data=.seq c m->o.cls=.type "tuple"->False)(k:∀b o,b∉j->h.get? b=some o->q.get? b=some o):kv f w M q a d n:=
 x.keep λb o p _ i=>k b o (λg=>by
  rcases i with rfl|⟨c,m,h1,h2⟩;· exact(l _ g).1 rfl
  · exact(l b g).2 o c m p h1 h2) p
variable{R:Result->Shared->Prop}{I:Addr}{H B:List Addr}{G:Array GenState->Array GenState->Prop}{n:Nat}{P:Nat->Value->Prop}{St:Nat->Shared->Prop}
def OQ{M:Value->Prop}(W:WalksS f w A.in1 I H B G n P St)(S:Addr)(t:S∉H)(hu:A.units+1<cLine)(Y:Heap)
    (val:Nat->List Key)(k:∀i v,P i v->∃b,v=.ref b/\b∉S::B/\M (.ref b)/\jJ f w Y (val i) b)(a:n+1<=1000)(D:∀i s,St i s->∀b∈B,∀o u m,s.heap.get? b=some o->o.data=.seq u m->o.cls=.type "tuple"->False)(s:Shared)(C:St 0 s)
    (V:∀b o,b∉S::B->Y.get? b=some o->s.heap.get? b=some o)(O:kv f w M s.heap S [] 0)
      (hR:∀d j,Moved (S::B) G s d->kv f w M d.heap S j n->(∀x,x∈j↔x∈(List.range n).map val)->R (.ok<|.ret .none) d):
      codeAny (model f w) A (.builtin "set.update.loop" ⟨[.ref S,.ref I],[]⟩) R s:=by
 have L:S∉B:=λh=>t (W.sub _ h)
 refine OP W S t (J:=λi s=>(∀b o,b∉S::B->Y.get? b=some o->s.heap.get? b=some o)/\∃c,kv f w M s.heap S c i/\∀x,x∈c↔x∈(List.range i).map val)
  (λi s d st q ⟨g,c,U,T⟩=>⟨λb o a e=>q.heap b o (λz=>a<|bu _ z)<|g b o a e,c,U.kp (λb a=>⟨λe=>L<|by rw[<-e];exact a,D _ s st b a⟩) q.heap,T⟩) (λi v s Q E AB hP ⟨g,c,O,hm⟩ hQ=>?_) n 0 s rfl (bD _) C ⟨V,[],O,λx=>by simp⟩ λd g ⟨_,c,U,T⟩=>hR d c g U T
 obtain⟨b,rfl,F,hM,y⟩:=k i v hP;have Z:jJ f w s.heap (val i) b:=y.at' λo e=>g b o F e;unfold setAdd;refine bU ?_;have l:A.in1.units<cLine:=by rw[Around.in1_units];exact hu
 refine aa (wpAny_pyHash_tuple l Z ?_);refine Ee (s:={s with toks:=s.toks+((val i).length+1)}) Z l hM O (by omega) λr h' p N=>hQ _ _ _ (Nat.le_add_right _ _) p ⟨λb o a e=>?_,_,N,Je hm⟩;show h'.get? b=some o;rw[p.2 b (λh:b=S=>a<|by rw[h];exact bP)];exact g b o a e
def OL{h:Heap}(e:h.get? a=some (lD w)):kv f w M h a [] 0:=
 ⟨_,#[],0,_,e,⟨rfl,rfl,rfl⟩,rfl,λe c=>(by simp at c),λe c=>(by simp at c),ah _,PU _ _ _,(show 0*5<7*3 by decide),(show 7<=8100 by decide),rfl,by unfold jE;exact .nil,λk=>by unfold jE;simp⟩
def EU{iN:List<|List Key}{Q:ia}(L:A.handled=none)(U:A.units+64<cLine)(D:s.heap.IsList l items)(d:items.size=iN.length)(hi:∀i v,items[i]?=some v->∃b,v=.ref b/\jJ f w s.heap (iN.getD i []) b)(M:items.size+1<=1000)
 (h:∀c tk a,kv f w (λv=>v∈items.toList) c s.heap.objs.size a items.size->(∀x,x∈a↔x∈iN)->
 (∀b o,b<s.heap.objs.size->s.heap.get? b=some o->c.get? b=some o)->Q (.ref s.heap.objs.size) {s with heap:=c,toks:=tk}):
   wpAny (model f w) A (call (.type "set") [.ref l]) Q E s:=by
  refine ET (F:=λc=>∃a,kv f w (λv=>v∈items.toList) c s.heap.objs.size a items.size/\∀x,x∈a↔x∈iN) L D (λ{I H B} {_ _ _ _} W m r T J u k N=>?_) λc tk ⟨a,q,p⟩ O=>h c tk a q p O;refine OQ W _ m (by simp only[Around.in1_units];omega) s.heap (λi=>iN.getD i []) (λi v j=>?_) M k _ r (λb o _ e=>J b o e) (OL T) λt a C q p=>N t C ⟨a,q,λx=>by rw[p x,d,Av iN []]⟩;obtain⟨b,rfl,tk⟩:=hi i v j;have g:b<s.heap.objs.size:=by obtain⟨o,_,_,y,_⟩:=tk;exact Heap.lt_size y
  refine⟨b,rfl,λz=>?_,by rw[<-aU]at j;exact aM j,tk⟩;rcases aF.mp z with z|z;·exact absurd z (aO g)
  ·exact absurd g (fN.mpr<|bJ<|u b z)
end
def tD(a:List Key):D:=.tup (a.map kD)
def qj:List D->Option (List<|List Key)
 |[]=>some []
 |.tup ds::r=>(kM ds).bind λa=>(qj r).map (a:: ·)
 |_=>none
theorem CL:∀{c} {a},qj c=some a->a.map tD=c
 |[],_,h=>by cases h;rfl
 |.tup x::r,_,h=>by obtain⟨k,g,f⟩:=az.mp h;obtain⟨i,d,rfl⟩:=aj.mp f;rw[aE,CL d];show D.tup (k.map kD)::r=_;rw[AR g]
 |.non::_,_,h=>by cases h
 |.bl _::_,_,h=>by cases h
 |.int _::_,_,h=>by cases h
 |.str _::_,_,h=>by cases h
 |.ty _::_,_,h=>by cases h
 |.ref _::_,_,h=>by cases h
 |.lst _::_,_,h=>by cases h
 |.exc _ _ _::_,_,h=>by cases h
theorem AU:∀a:List Key,kM (a.map kD)=some a
 |[]=>rfl
 |k::r=>by show(tL<|kD k).bind (λk=>(kM<|r.map kD).map (k:: ·))=_;rw[AU r];cases k<;>rfl
def ki:List (List Key)->List (List Key)
 |[]=>[]
 |k::r=>if(r.any λj=>decide<|j=k)=true then ki r else k::ki r
def yW{r:List<|List Key}:(r.any λj=>decide<|j=k)=true↔k∈r:=by rw[cO];exact⟨λ⟨x,a,e⟩=>by rw[<-bh e];exact a,λh=>⟨k,h,aV rfl⟩⟩
theorem pS(x):∀a:List (List Key),x∈ki a↔x∈a
 |[]=>Iff.rfl
 |k::r=>by
  unfold ki;by_cases h:(r.any λj=>decide<|j=k)=true
  ·rw[ai h,pS x r,aF];exact⟨.inr,λz=>z.elim (λz=>by rw[z];exact yW.mp h) id⟩
  ·rw[ak h,aF,aF,pS x r]
theorem tU:∀a:List (List Key),(ki a).Nodup
 |[]=>.nil
 |k::r=>by
  unfold ki;by_cases h:(r.any λj=>decide<|j=k)=true;·rw[ai h];exact tU r
  ·rw[ak h];exact bX.mpr ⟨λz=>h<|yW.mpr<|(pS k r).mp z,tU r⟩
theorem wA:∀a:List (List Key),(ki a).length<=a.length
 |[]=>ah _
 |k::r=>by
  have d:=wA r;have c:(k::r).length=r.length+1:=rfl;unfold ki;split;·omega
  ·rw[ao];omega
def oQ:D->R (List D)
 |.lst ds=>match qj ds with
  |some a=>if lT ds=true/\ds.length<64 then .ok (jq<|(ki a).map tD)else .bad
  |none=>.bad
 |_=>.bad
variable{X:Cx}
def Ic{w}:∀{j} {c} {f} {g},kM j=some c->gQ K al H f j->Vals f g->ItemsAre (jk P w) c g:=by
 intro j c f g h r v;induction j generalizing c f g with
 |nil=>cases r;cases v;cases h;exact .nil
 |cons d _ n=>
  cases r with
  |cons a b=>
   cases v with
   |cons m o=>
    obtain⟨k,l,q⟩:=az.mp h;obtain⟨c,p,rfl⟩:=aj.mp q;refine .cons ?_ (n p b o);cases d with
    |int i=>cases l;cases a;exact tJ m
    |str i=>cases l;cases a;exact tJ m
    |_=>cases l
def P8(I:Inv X pins σ H s){v u}(r:Rep X.K al H v (tD ks))(d:RelV v u):∃b,u=.ref b/\v=.ref b/\jJ X.prog X.w s.heap ks b:=by obtain⟨a,k,rfl,g,f⟩:=r.lg;obtain rfl:u=.ref a:=d;obtain⟨c,q,⟨o,j,i,n,h⟩,_⟩:=I.tuple g;exact⟨a,rfl,rfl,o,_,n,j,i,h,Ic (AU ks) f q⟩
def Gg{w}(h:ItemsAre (jk P w) ks vs):mL (ks.map kD) vs:=by
 induction h with
 |nil=>exact .nil
 |@cons k v ks vs c _ a=>
  refine .cons ?_ a;have:=wd c;cases k with
  |inl i=>obtain⟨t,rfl⟩:=(show∃t,v=Value.int i t from this);rfl
  |inr x=>obtain⟨t,rfl⟩:=(show∃t,v=Value.str x t from this);rfl
def item_tup{w}(x:jJ P w h ks b):nk h (.ref b) (tD ks):=by obtain⟨o,a,n,c,f,d,hi⟩:=x;exact⟨b,o,a,n,rfl,c,f,d,Gg hi⟩
def xp:Value->V
 |.ref b=>.ref b
 |_=>.non
variable{E:XK}{e:Expr}{ta:TE}{f:g7}{p1 p2 pos nR:Pos}
def KY(hc:X.calm=true)(m:X.A.units+64<cLine)(he:PE X e ta)(hg:Gl X "sorted")(hm:X.mg "sorted"=none)(hg2:Gl X "set")(hm2:X.mg "set"=none)
 (hs:X.se e [])(hpl:X.bk nR [])
 (hs2:starEach [.Call (.Name "set" p2) [e] [] nR] X.env=(false,eval (.Call (.Name "set" p2) [e] [] nR) X.env)::starEach [] X.env)(L:X.bk pos []):
   PE X (.Call (.Name "sorted" p1) [.Call (.Name "set" p2) [e] [] nR] [] pos) (λσ H Q=>ta σ H λx0 j=>∃x,[x0]=[x]/\∃l R n al iN,x=.ref l/\jx X.K j l R/\gQ X.K al j R n/\qj n=some iN/\lT n=true/\n.length<64/\∀p ws,j p=none->gQ X.K al j ws (jq<|(ki iN).map tD)->Q (.ref p) (upd j p<|.lst ws)):=by
  refine KZ he hg hm hg2 hm2 (λI Z σ j x u Q V ru q1=>?_) hs hpl hs2 L;obtain⟨l,R,n,al,iN,rfl,hl,rv,hk,hh,GC,q⟩:=q1;obtain rfl:u=Value.ref l:=ru;obtain⟨c,vv,pl,hz⟩:=V.list hl;have D:=CL hk;obtain⟨sg,Hf⟩:=v9 hh;have RU:n.length=iN.length:=by rw[<-D,aD]
  have RV:R.length=n.length:=rv.length;have s:c.length=iN.length:=by have:=vv.length;omega
  have at_:∀(i:Nat) (v:Value),c[i]?=some v->∃b,v=.ref b/\jJ X.prog X.w Z.heap (iN.getD i []) b/\Rep X.K al j (.ref b) (tD<|iN.getD i [])/\tD (iN.getD i [])∈n:=λi v g=>by
   have hi:i<iN.length:=by rw[<-s];exact(ar.mp g).1
   have ed:n[i]?=some (tD<|iN.getD i []):=by rw[<-D,aB,au hi,aX,au hi];rfl
   obtain⟨y,G,U⟩:=rv.getD ed;obtain⟨u',J,ru⟩:=vv.get G;rw[g]at J;cases J;obtain⟨b,rfl,rfl,tk⟩:=P8 V U ru;exact⟨b,rfl,tk,U,aM ed⟩
  refine EU (A:=X.A) (items:=c.toArray) (iN:=iN) (V.ok.hd hc) m pl.isList (by rw[aK];exact s) (λi v g=>by obtain⟨b,h1,F,_⟩:=at_ i v (by simpa using g);exact⟨b,h1,F⟩) (by rw[aK];omega) λh tk js SV mem ext=>?_
  have w:∀b o,Z.heap.get? b=some o->h.get? b=some o:=λb o e=>ext b o (Heap.lt_size e) e;have I2:Inv X I σ j {Z with heap:=h,toks:=tk}:=V.kept (t':=tk) w;obtain⟨o,T,ep,t,ho,hex,hd,el,hin,hn,Y,RC,RJ,N,tS,M⟩:=SV;have hf:t.fits T.size=true:=by have:=Y.fits;rw[av]at this;exact this
  have C:(jE h T.toList).Perm (ki iN):=BC tS (tU iN) λx=>by rw[M x,mem x,pS]
  have FW:∀d∈(ki iN).map tD,iD d=some sg:=λd hd=>by obtain⟨k,G7,rfl⟩:=aP.mp hd;exact Hf _ (by rw[<-D];exact aP.mpr ⟨k,(pS k iN).mp G7,rfl⟩)
  have sl:=cU;have AD:T.size<=c.length:=by simpa using hn
  have P:∀u∈c,∃b,u=.ref b/\jJ X.prog X.w h (tK h u) b/\Rep X.K al j (.ref b) (tD (tK h u)):=λu m=>by obtain⟨i,hi,ei⟩:=bK m;obtain⟨b,rfl,F,h3,_⟩:=at_ i u (by rw[au hi,ei]);have t2:=F.at' (λo e=>w b o e);rw[t2.tK];exact⟨b,rfl,t2,h3⟩
  have O:∀a:List Value,a.Perm (T.toList.map Prod.snd)->(∀v∈a,v∈c)/\(a.map λu=>tD<|tK h u).Perm ((ki iN).map tD)/\a.length<64:=λa hp=>by
   have fl:∀v∈a,v∈c:=λv g=>by obtain⟨e,he,rfl⟩:=aP.mp (hp.mem_iff.mp g);simpa using hin e he
   have p1:(a.map λu=>tK h u).Perm (ki iN):=by have:=hp.map λu=>tK h u;rw[bw]at this;exact this.trans C
   refine⟨fl,?_,?_⟩
   ·have:=p1.map tD;rw[bw]at this;exact this
   ·have:=p1.length_eq;rw[aD]at this;have:=wA iN;omega
  have z:∀a:List Value,(∀v∈a,v∈c)->Vals (a.map xp) a/\gQ X.K al j (a.map xp) (a.map λu=>tD<|tK h u):=λa=>by
   induction a with
   |nil=>intro _;exact⟨.nil,.nil⟩
   |cons u r ih=>
    intro m;obtain⟨g1,g2⟩:=ih λv g=>m v (.tail _ g);obtain⟨b,G,_,h3⟩:=P u (m u<|.head _);have U:xp u=.ref b:=by rw[G];rfl
    rw[aE,aE,U];exact⟨.cons (by rw[G];rfl) g1,.cons h3 g2⟩
  refine O8 hc I2 ⟨o,ho,hex,hd,hf⟩ ⟨N,λ_=>Y.mD,λ_=>Y.mq⟩ (by omega) FW O z (λt' kp a=>?_) q;induction a with
  |nil=>intro _;exact .nil
  |cons u r ih=>intro m;obtain⟨b,G,F,_⟩:=P u (m u<|.head _);refine .cons ?_ (ih λv g=>m v<|.tail _ g);rw[G]at F⊢;exact nk.keep (item_tup F) kp
def FN(L:X.calm=true)(y:X.A.units+64<cLine)(I:Gl X "sorted")(D:X.mg "sorted"=none)(m:Gl X "set")(k:X.mg "set"=none)(J:DE X E e f)
 (A:X.se e [])(j:X.bk nR [])
 (i:starEach [.Call (.Name "set" p2) [e] [] nR] X.env=(false,eval (.Call (.Name "set" p2) [e] [] nR) X.env)::starEach [] X.env)(c:X.bk pos []):
   DN X E (.Call (.Name "sorted" p1) [.Call (.Name "set" p2) [e] [] nR] [] pos) (λρ=>(f ρ).bind oQ):=by
  obtain⟨t,p,r⟩:=J;refine⟨_,KY L y p I D m k A j i c,λP O al H σ ρ Q s h=>r _ _ _ _ _ _ _ s<|Aft.mono (Aft.split h) λd n N a v u=>⟨v,rfl,?_⟩⟩;unfold oQ at a;split at a
  ·rename_i M;split at a
   ·rename_i w G;split at a
    ·rename_i z;obtain⟨l,q,rfl,F,g⟩:=u.mX;exact⟨l,q,M,al,w,rfl,F,g,G,z.1,z.2,λp o C x=>a n (.refl n) p o C x⟩
    ·exact a.elim
   ·exact a.elim
  ·exact a.elim
end P2
namespace P2
open PySem L2 PySem.Spec PySem.Calls
section
variable{c:Program}{w:World}{f:Type}[DecidableEq f]{b:HeapKind c w f}{A:Around}{E:ia}{s:Shared}
def OR{d a:Addr}{m:List<|f×Addr×Value}{k:f}{v:Value}{Q:ia}(D:b.room A)(h:b.is s.heap k a)(I:s.heap.DictOfH b d m)(G:m.length<=sizeLine)
    (M:∀p,atKey m k=some p->Q p.2 {s with toks:=s.toks+b.draws k})
    (L:atKey m k=none->∀z,z.DictOfH b d (storedH m k a v)->Heap.SameBut d s.heap z->Q v {s with heap:=z,toks:=s.toks+b.draws k}):
    wpAny (model c w) A (dictSetDefault d (.ref a) v) Q E s:=by
 obtain⟨o,O,N,n,J,l,t,r,u⟩:=I;unfold dictSetDefault;try with_reducible refine bU ?_
 refine aa (b.pyHash D h ?_);refine aa (wpAny_dictFind_heap (s:={s with toks:=s.toks+b.draws k}) D h n l t r u ?_ ?_)
 ·intro g;have q:k∉m.map (·.1):=not_mem_keys_of_get g
  refine aa (gA (aa (wpAny_updateDictKeys (hz:=by have e:=size_of_entries t;omega) (s:={s with toks:=s.toks+b.draws k}) n l (af (L (dW g) _ ⟨_,_,N+1,ba _ n (Obj.isFreed_of_dict (Obj.data_mapDictKeys l _)),
   J.mapDictKeys _,Obj.data_mapDictKeys l _,?_,?_,?_⟩ (bf ..))))))
  ·rw[storedH_new<|dW g];simp[t,entryOfKey]
  ·rw[storedH_new<|dW g];intro x i;rcases bx.mp i with i|i;·exact b.keeps (r x i) n l (bf ..)
   ·simp only[aJ]at i;subst i;exact b.keeps h n l (bf ..)
  ·rw[storedH_new<|dW g];rw[bO,dU];refine⟨u,by simp,?_⟩;intro x i y C;simp only[aE,cg,aJ]at C;subst C;exact λe=>q (e▸i)
 ·intro j p F;refine aa (dP (s:={s with toks:=s.toks+b.draws k}) n l ?_);rw[entry_at t j,F];exact aa (gA<|af<|M _<|atKey_of_get u F)
def Jc(b:HeapKind c w f)(d a:Addr)(u:(d==sysModules)=false)(g:Value):
    MeetsIn c w (Builtin.«dict.setdefault» ⟨[.ref d,.ref a,g],[]⟩) (λA R s=>b.room A.in1/\∃k h,b.is s.heap k a/\s.heap.DictOfH b d h/\h.length<=sizeLine/\
     (∀p,atKey h k=some p->R (.ok<|.ret p.2) {s with toks:=s.toks+b.draws k})/\
     (atKey h k=none->∀i,i.DictOfH b d (storedH h k a g)->Heap.SameBut d s.heap i->R (.ok (.ret g)) {s with heap:=i,toks:=s.toks+b.draws k})):=
 .of_wp λA R s ⟨o,k,h,t,m,n,x,v⟩=>by unfold Builtin.«dict.setdefault»;refine aa ?_;unfold Builtin.Dict.keyAndDefault;refine aa (wpAny_notOrdered_dict m.typeIs ?_);show wpAny _ _ (pure (d,Value.ref a,some g)) _ _ s;refine af ?_;show wpAny _ _ (if(d==sysModules)=true then _ else(dictSetDefault d (.ref a) g>>=_)) _ _ s;rw[ak<|by rw[u];exact aA];exact aa (OR o t m n (λp q=>af ⟨p.2,rfl,x p q⟩) λr i l j=>af ⟨g,rfl,v r i l j⟩)
end
section
variable{X:Cx}{E:XK}{b:Nat}{e o k g:Expr}{pos:Pos}{fo j f C:h8}
def Fp{h:List<|Addr×Obj}{σ:St}{H:Hp}{s:Shared}{a c:Addr}{d:List<|List Key×V}{k:List Key}{z:V}{r:Value}{A:Around}{E Q:ia}(O:A.units+1<cLine)(I:Inv X h σ H s)(e:H a=some (.dT d))(hl:d.length<sizeLine)
    (J:H c=some (.tup<|k.map kV))(M:RelV z r)(Y:∀v x m,jZ d k=some v->Inv X h σ H m->RelV v x->Q x m)(U:jZ d k=none->∀m,Inv X h σ (upd H a<|.dT<|putK d k z) m->Q r m):
    wpAny (model X.prog X.w) A (call (.builtin "dict.setdefault") [.ref a,.ref c,r]) Q E s:=by
 obtain⟨L,F,u,l,dd⟩:=vO I.hok e;have N:u.length<=sizeLine:=by rw[<-Paired.length l];exact L
 have R:(putK d k z).length<=sizeLine:=by have:=wB d k z;omega
 refine call_meetsIn eA dd.typeIs PySem.F.entry_dict_setdefault (PySem.F.args_dict_setdefault_3 _ _ _) (Jc (tupleKind<|jk X.prog X.w) a c F r) ⟨eM O,k,u,wm I.hok J,dd,N,λp n=>?_,λT h' t P=>?_⟩
 ·have i:=l.val k;rw[n]at i;cases q:jZ d k with
  |none=>rw[q]at i;exact i.elim
  |some w=>rw[q]at i;exact Y w p.2 _ q (I.tok _) i
 ·have i:=l.val k;rw[T]at i;cases q:jZ d k with
  |some w=>rw[q]at i;exact i.elim
  |none=>obtain⟨y,es,ep,D,g2,g3,g4,_,Z⟩:=t;refine U q _ (vH I (by rw[e];exact True.intro) P ⟨y,D⟩ ⟨R,F,_,(l.put k J M).keeps λc ys G=>?_,y,es,ep,D,g2,g3,g4,Z⟩);rw[gY<|Bj G e<|λz=>nomatch z];exact G
def Pj(m ty l:TE):TE:=λσ H Q=>m σ H λx i=>∃a,x=.ref a/\yF i a/\ty σ i λy n=>l σ n λz h=>∃d k c,h a=some (.dT d)/\d.length<sizeLine/\y=.ref c/\h c=some (.tup<|k.map kV)/\
 (∀v,jZ d k=some v->Q v h)/\(jZ d k=none->Q z (upd h a<|.dT<|putK d k z))
def KI{q p:Pos}{A ty w:TE}{f:Expr}(hu:X.A.units+1<cLine)(ho:PE X o A)(he:PE X e ty)(hf:PE X f w)(m:M2 X o "setdefault" q e f p):PE X (.Call (.Attribute o "setdefault" q) [e,f] [] p) (Pj A ty w):=by intro i s σ H Q I h;refine wpAny_Call_method m.base m.few m.line PySem.F.plainAttrs_dict eA PySem.F.type_dict_setdefault (g8 (ho i s σ H _ I h) λu N n=>?_);obtain⟨x,H1,F,P,a,ex,d,V⟩:=n;subst ex;obtain rfl:u=Value.ref a:=P;obtain⟨J,G,_⟩:=Ht F d;refine⟨J,G,?_⟩;rw[m.trees];refine Calls.callWith_builtin rfl (Calls.evalArgs_plain<|dD<|g8 (he i N σ H1 _ F V) λZ M n=>?_);obtain⟨y,H2,I2,O,U⟩:=n;refine dD (g8 (hf i M σ H2 _ I2 U) λfv s3 n=>?_);obtain⟨z,H3,I3,D,Y,k,c,ea,hl,ey,ec,T,R⟩:=n;refine eT ?_;subst ey;cases(show Z=Value.ref c from O);exact Fp hu I3 ea hl ec D (λv w' L l t r=>⟨v,H3,t,r,T v l⟩) λl L t=>⟨z,_,t,D,R l⟩
def uO(fo j f:h8):h8:=λρ S=>(fo ρ S).bind λz d=>match z with
 |.loc n=>(match d[n]? with
  |some (.dt _)=>(j ρ d).bind λy h=>(f ρ h).bind λx c=>(match y,c[n]? with
   |.tk k,some (.dt a)=>if a.length<sizeLine then(match valZ a k with
     |some z=>.ok z c
     |none=>.ok x (c.set n (.dt (jn a k x))))else .bad
   |_,_=>.bad)
  |_=>.bad)
 |_=>.bad
def QT{i:Pos}(hu:X.A.units+64<cLine)(ho:ZE X E o fo)(hk:ZE X E k j)(hg:ZE X E g C)(m:M2 X o "setdefault" i k g pos):ZE X E (.Call (.Attribute o "setdefault" i) [k,g] [] pos) (uO fo j C):=by
 obtain⟨to,po,ro⟩:=ho;obtain⟨tk,pk,rk⟩:=hk;obtain⟨tg,pg,rg⟩:=hg;refine⟨_,KI (by omega) po pk pg m,λB al lo H σ ρ S Q s h=>ro _ _ _ _ _ _ _ _ s<|gZ.mono (gZ.split h) λz kA lo1 H1 S1 T x1 y1 F v rv=>?_⟩;split at F
 ·rename_i n;split at F
  ·rename_i RQ q0;obtain⟨a,U,rfl⟩:=rv;obtain⟨J,g0,_⟩:=T.cell U q0;refine⟨a,rfl,.inr ⟨J,.inl g0⟩,rk _ _ _ _ _ _ _ _ T<|gZ.mono (gZ.split F) λy qD rl H2 S2 s2 x2 y2 h2 u ru=>rg _ _ _ _ _ _ _ _ s2<|gZ.mono (gZ.split h2) λx A M O S3 I x3 P d w D=>?_⟩;split at d
   ·rename_i p l q;split at d
    ·rename_i hl;have t:=P _ _ (y2 _ _ U);obtain⟨L,g1,G⟩:=I.cell t q;obtain⟨c,ha,hc,rfl⟩:=i6.mv x3 P ru;refine⟨L,p,c,g1,by rw[G.length];exact hl,rfl,hc,λv' r=>?_,λr=>?_⟩
     ·cases e:valZ l p with
      |none=>rw[G.none e]at r;cases r
      |some Z=>obtain⟨w0,N,Y⟩:=G.val e;rw[N]at r;cases r;rw[e]at d;exact d A M O I .refl .refl _ Y
     ·cases e:valZ l p with
      |some Z=>obtain⟨w0,N,Y⟩:=G.val e;rw[N]at r;cases r
      |none=>rw[e]at d;have xx:Xt A O A (upd O a (.dT (putK L p w))):=λb o _ V eb=>⟨V,by rw[gY λz=>I.st.na n a t (by rw[<-z];exact V)];exact eb⟩;obtain⟨s4,R⟩:=I.write t (o:=.dT (putK L p w)) (c:=.dt (jn l p x)) wM (λq w=>by unfold jj at w;cases w) ⟨_,ix,i4.mv xx .refl (G.put p D)⟩ nofun;exact d _ _ _ s4 R .refl w (i6.mv R .refl D)
    ·exact d.elim
   ·exact d.elim
  ·exact F.elim
 ·exact F.elim
def uM(fo f:h8):iI:=λρ S=>toZ (fo ρ S) λy d=>match y with
 |.loc n=>(match d[n]? with
  |some (.li _)=>toZ (f ρ d) λz c=>(match c[n]? with
   |some (.li a)=>if a.length<sizeLine then .nx ρ (c.set n<|.li<|a++[z])else .bad
   |_=>.bad)
  |_=>.bad)
 |_=>.bad
def Q4{i d:Pos}(pa:PlainAttrs "list")(I:Slot "list" "append" "list.append")(P:typeOf (.builtin "list.append")=pure (.type "method_descriptor"))(ho:ZE X E o fo)(he:ZE X E e f)
    (F:attributeBase o "append" X.env (eval o X.env)=eval o X.env:=by rfl)
    (J:((backTo d (starEach [e] X.env)).all (λx=>!x.1)&&(backToKw d (keywordEach [] X.env)).all (λx=>x.1.isSome)
      &&decide ([e].length+([]:List Keyword).length+(if([]:List Keyword).isEmpty then 0 else 1)<30))=true:=by rfl)
    (A:(i.endLine==d.line)=true:=by rfl)(V:X.se e []:=by rfl)(l:(backTo d<|starEach [] X.env).any (·.1)=false:=by rfl)
    (Q:swapsWith (.Call (.Attribute o "append" i) [e] [] d) none pos.line X.env=pure false:=by rfl):
    ZS X E b (.Expr (.Call (.Attribute o "append" i) [e] [] d) pos) (uM fo f):=by
 obtain⟨to,po,ro⟩:=ho;obtain⟨t,p,r⟩:=he;refine⟨_,BQ (By pa I P tP po (mz p nQ V) F J A V l) Q,λB R al lo H σ ρ S D s h=>ro _ _ _ _ _ _ _ _ s<|gZ.mono (i0.lZ h) λy Ei ID H0 S0 U x0 y0 L v rv=>?_⟩;split at L
 ·rename_i n;split at L
  ·rename_i R5 q0;obtain⟨a,Y,rfl⟩:=rv;obtain⟨vs,e2,e3⟩:=U.cell Y q0;refine⟨.inl ⟨rfl,vs,.inl<|.inl e2⟩,r _ _ _ _ _ _ _ _ U<|gZ.mono (i0.lZ L) λz M lo1 H1 S1 O x1 y1 G u ru=>?_⟩;split at G
   ·rename_i T q1;have m:=y1 n a Y;obtain⟨N,g2,Z⟩:=O.cell m q1;by_cases w:T.length<sizeLine
    ·rw[ai w]at G;have x2:Xt M H1 M (upd H1 a (.lst (N++[u]))):=λb o _ R eb=>⟨R,by rw[gY λz=>O.st.na n a m (by rw[<-z];exact R)];exact eb⟩;obtain⟨s2,x3⟩:=O.write m (o:=.lst (N++[u])) (c:=.li (T++[z])) kP (λq w=>by unfold jj at w;cases w) ⟨_,ix,iW.mv x2 .refl (Z.append (.cons ru .nil))⟩ nofun;exact⟨a,N,u,rfl,rfl,g2,by rw[Z.length];exact w,G _ _ _ _ x3 s2⟩
    ·rw[ak w]at G;exact G.elim
   ·exact G.elim
  ·exact L.elim
 ·exact L.elim
def ql(S:gR):Z->Option D
 |.d x=>some x
 |.loc n=>(match S[n]? with
  |some (.li a)=>(kf a).map .lst
  |_=>none)
 |.tk _=>none
def qm(S:gR):List Z->Option (List D)
 |[]=>some []
 |z::r=>(ql S z).bind λd=>(qm S r).map (d:: ·)
def qp(F:gP)(a:gU->gR->RX (List Z)):h8:=λρ S=>(a ρ S).bind λh c=>match qm c h with
 |some i=>(match F i with
  |.ok d=>if kH d=true then .ok (.d d) c else .bad
  |_=>.bad)
 |none=>.bad
def Qo{K:W.Frag}{B:Z0}{al:Addr->Prop}{lo:Lo}{H:Hp}{σ:St}{ρ:gU}{S:gR}(s:RZ K B al lo H σ ρ S){v:V}{z:Z}{d:D}(r:i6 K al lo H v z)(e:ql S z=some d):Rep K (pz al lo) H v d:=by
 cases z with
 |d x=>cases e;exact Rep.mv (.sub λ_ h=>.inl h) r
 |tk u=>cases e
 |loc n=>
  unfold ql at e;dsimp only at e;split at e
  ·rename_i p q;obtain⟨w,i,rfl⟩:=aj.mp e;have:=qE i;subst this;obtain⟨a,c,rfl⟩:=r;obtain⟨t,m,l⟩:=s.cell c q;exact .lst (.inl ⟨.inr ⟨n,c⟩,.inl m⟩) (gQ.mv (.sub λ_ h=>.inl h) l.toD)
  ·cases e
def Qp{K:W.Frag}{B:Z0}{al:Addr->Prop}{lo:Lo}{H:Hp}{σ:St}{ρ:gU}{S:gR}(s:RZ K B al lo H σ ρ S){i:List V}{h:List Z}{c:List D}(r:iW K al lo H i h)(e:qm S h=some c):gQ K (pz al lo) H i c/\h.length=c.length:=by
 induction r generalizing c with
 |nil=>cases e;exact⟨.nil,rfl⟩
 |cons a _ l=>obtain⟨d,t,q⟩:=az.mp e;obtain⟨u,p,rfl⟩:=aj.mp q;obtain⟨n,m⟩:=l p;exact⟨.cons (Qo s a t) n,by rw[ao,ao,m]⟩
variable{i:List Expr}{p:Pos}{x:Str}{J:List Str}{k n:Nat}{F:gP}{fs:gU->gR->RX (List Z)}
def QR(G:kW X.prog X.w X.K X.mg X.base (hZ X.prog X.w) k x J<|ip n X.K F)(hr:iR k X.A)(hg:Gl X x)(hx:Passes (hZ X.prog X.w) X E)(hn:(e::i).length=n)(M:ZA X E (e::i) fs)(L:jc x)
    (he:X.se e i)(D:X.bk pos i):ZE X E (.Call (.Name x p) (e::i) [] pos) (qp F fs):=by
 obtain⟨ta,pa,V,lb⟩:=M;refine⟨_,rz G hr hg hx pa L he D,λB al lo H σ ρ S Q s h=>V _ _ _ _ _ _ _ _ s ?_⟩;unfold qp at h;cases q:fs ρ S with
 |bad=>rw[q]at h;exact h.elim
 |ex c ns w O=>rw[q]at h;exact h
 |ok P O=>
  rw[q]at h;intro u t H1 m T R vs U;have ll:=lb _ _ _ _ q;have l:gZ X.K B E al lo H σ ρ (match qm O P with|some w=>(match F w with|.ok d=>if kH d=true then RX.ok (Z.d d) O else .bad|_=>.bad)|none=>.bad) (λz N A H' _=>∀v,i6 X.K N A H' v z->Q v H'):=h;split at l
  ·rename_i w e;obtain⟨r,lz⟩:=Qp m U e;split at l
   ·rename_i d ed;split at l
    ·rename_i I;rw[aZ];refine⟨by rw[r.length,<-lz,ll];exact hn,m.tt,pz u t,w,λa M=>.inl (m.fresh a M),r,?_⟩;rw[ed];exact λH2 y v Y=>l u t H2 (m.grow y) (T.trans<|.of y) R v (Rep.kH (m.grow y).Bk Y I)
    ·exact l.elim
   ·exact l.elim
  ·exact l.elim
end
open PyProof.Rows hiding St
def E6{pos v}(l r)(h:codeAmong pos l=some v):codeAmong pos (l++r)=some v:=by
 fun_induction codeAmong pos l with
 |case1 a t f u c rest d=>rw[bS,bS,bS];unfold codeAmong;rw[ai d];exact h
 |case2 a t f u c rest d g=>rw[bS,bS,bS];unfold codeAmong;rw[ak d];exact g h
 |case3=>cases h
def DQ(H:Hp)(f:Addr)(d:Str)(P:Addr)(pos:Pos)(a:Arguments)(g:Expr)(c:Scope)(k:Value):Prop:=
 ∃j h i,H f=some (lj f<|W.kla_obj "<lambda>" d a g c [] k j h)/\H P=some (.iO i)/\codeAmong pos i.toList=some (.ref j)
def yH(H:Hp)(f:Addr)(d:Str)(P:Addr)(pos:Pos)(a:Arguments)(g:Expr)(c:Scope)(k:Value):Prop:=
 ∃j h i u,H f=some (.jD (W.kla_obj "<lambda>" d a g c [] k j h) u)/\H P=some (.iO i)/\codeAmong pos i.toList=some (.ref j)
section
variable{X:Cx}{i:List<|Addr×Obj}{j:List<|Option V}{H:Hp}{s:Shared}
def Hs(I:Inv X i j H s)(e:H a=some (lj a o)):Inv X i j (upd H a<|.jD o<|lj a o) s:=by
 have c:s.heap.get? a=some o:=(I.hok a _ e).1
 exact I.write (x:=a) (e:=a) (t':=s.toks) (h':=s.heap) (by rw[e];exact True.intro) (.inl rfl) (λb u _ z=>z) ⟨o,c⟩
  (show iY X.prog X.w (upd H a<|.jD o<|lj a o) s.heap a (.jD o<|lj a o)from⟨c,wx c⟩)
def Ij{pos}{Q:ia}(I:Inv X i j H s)(tt:jt X.K H)(bm:BM X.mg X.base)(hi:oH X.K x c P=true)(k:X.env.code=.ref c)
 (hq:X.env.qual++"<lambda>"=qual)(hx:x++".<locals>.<lambda>"=qual)(M:defaultsOf params X.env=([],[]))(O:closureFor scope X.env=pure [])
 (h:∀f H2 s2,H f=none->iH X.K H H2->Inv X i j H2 s2->DQ H2 f qual P pos params body scope ((X.mg "__name__").getD .none)->Q (.ref f) s2):
   wpAny (model X.prog X.w) X.A (eval (.Lambda params body scope pos) X.env) Q E s:=by
  obtain⟨mem,N,y⟩:=A2 hi;obtain⟨u,m,Z,t3⟩:=tt _ mem;dsimp only at m;have eP:s.heap.get? P=some (W.tabObj u):=I.hok P _ m;have nP:∀b,H b=none->b≠P:=λb n z=>by rw[z,m]at n;cases n
  have hg:s.heap.Ns mainGlobals X.mg:=I.ok.mod.glob.keeps I.bk;have C:W.CodeHd s.heap c P:=W.codeHd_of_K I.j6 N;obtain⟨b,ob,b1,b2,U,b4,b5,b6⟩:=bm;have GY:mainGlobals≠P:=λq=>by obtain⟨o,es,ep,e,N,_⟩:=hg;rw[q,eP]at e;cases e;cases N
  have GS:b≠mainGlobals:=λq=>by obtain⟨o,es,ep,e,N,_⟩:=I.ok.mod.glob;rw[q,e]at U;cases U;rw[N]at b6;cases b6
  have B:s.heap.BuiltinsAt X.mg P:=⟨b,ob,b1,b2,GS,nP b (I.bs b ob U).2,I.bk b ob U,b4,b5,b6⟩;refine W.kla_eval M ?_;rw[hq];cases L:codeAmong pos u.toList with
  |none=>
   refine W.kla_makeFunction (mg:=X.mg) O I.ok.glob hg k C eP Z L GY B λd a g tk hxb w v G Hh=>?_;have hf:(g.push<|W.kla_obj "<lambda>" qual params body scope [] ((X.mg "__name__").getD .none) d a).get? g.objs.size=some (W.kla_obj "<lambda>" qual params body scope [] ((X.mg "__name__").getD .none) d a):=aw _ rfl;have J:=Im (tk:=tk) (oc:=jj d qual) I m (λb o hb e=>ae _<|hxb b o hb e) w v hf (ae _ Hh) λH'=>E7 (G.push _);have D:H d=none:=I.hok.fresh w;have l:H g.objs.size=none:=I.hok.fresh (aI w<|bJ v);have fc:g.objs.size≠d:=cc v;have fP:g.objs.size≠P:=nP _ l;have cP:d≠P:=nP _ D;refine h _ _ _ l ⟨λb o n e=>?_,λb e=>?_,λ_=>?_⟩ J ⟨d,a,u++#[rawInt pos.line,rawInt pos.col,.ref d],ix,by rw[gY fP.symm,gY cP.symm,ix],by rw[du];exact codeAmong_snoc _ Z L⟩
   ·rw[gY<|jl e l,gY<|jl e D,gY λz=>?_];·exact e
    ·rw[z,m]at e;cases e;exact n u rfl
   ·by_cases z1:b=g.objs.size;·rw[z1];exact l
    ·rw[gY z1]at e;by_cases z2:b=d;·rw[z2];exact D
     ·rw[gY z2]at e;by_cases z3:b=P;·rw[z3,ix]at e;cases e
      ·rw[gY z3]at e;exact e
   ·intro t ht;obtain⟨T,A,Y,u3⟩:=tt t ht;have up:∀q r,codeAmong q T.toList=some r->∃R,r=.ref R/\(upd (upd (upd H P<|.iO<|u++#[rawInt pos.line,rawInt pos.col,.ref d]) d<|jj d qual) g.objs.size<|lj g.objs.size<|W.kla_obj "<lambda>" qual params body scope [] ((X.mg "__name__").getD .none) d a) R=some (jj R<|t.1++".<locals>.<lambda>"):=λq r e=>by
     obtain⟨R,e1,p⟩:=u3 q r e;refine⟨R,e1,?_⟩;rw[gY<|jl p l,gY<|jl p D,gY λz=>?_];·exact p
     ·rw[z,m]at p;unfold jj at p;cases p
    by_cases z:t.2.2=P
    ·have ex:=y t ht z;have eqs:T=u:=by rw[z,m]at A;cases A;rfl
     subst eqs;refine⟨T++#[rawInt pos.line,rawInt pos.col,.ref d],by rw[z,gY fP.symm,gY cP.symm,ix],?_,λq r e=>?_⟩
     ·rw[du];exact TriplesOk_snoc _ _ _ _ Y
     ·rw[du]at e;rcases P5 _ Y e with e|e;·exact up q r e
      ·refine⟨d,e,?_⟩;rw[gY fc.symm,ix,ex,hx]
    ·exact⟨T,by rw[gY<|jl A l,gY<|jl A D,gY z];exact A,Y,up⟩
  |some r=>
   obtain⟨d,rfl,p⟩:=t3 pos r L;dsimp only at p;rw[hx]at p;refine W.kla_makeFunctionHit (mg:=X.mg) O I.ok.glob hg k C eP Z L B λa g tk hk F=>?_;have l:H g.objs.size=none:=I.hok.fresh F;have hf:(g.push<|W.kla_obj "<lambda>" qual params body scope [] ((X.mg "__name__").getD .none) d a).get? g.objs.size=some (W.kla_obj "<lambda>" qual params body scope [] ((X.mg "__name__").getD .none) d a):=aw _ rfl
   have J:Inv X i j (upd H g.objs.size<|lj g.objs.size<|W.kla_obj "<lambda>" qual params body scope [] ((X.mg "__name__").getD .none) d a) {s with heap:=g.push<|W.kla_obj "<lambda>" qual params body scope [] ((X.mg "__name__").getD .none) d a,toks:=tk}:=
    I.laid (λb o e=>ae _<|hk b o e) F (wx hf)
   exact h _ _ _ l (jG l) J ⟨d,a,u,ix,by rw[gY<|jl m l];exact m,L⟩
end
def Il{P:Program}{w:World}{K:W.Frag}{O:iw}{j:Heap}{k:Nat}{f:Addr}{d:Str}{i:Arguments}{l:Expr}{a:Scope}{pm:Value}{N L:List Str}{g:g7}{A:Around}{c:List Env}{s:Shared}{H:Hp}{m:List Value}{M:List V}{Q:VK}{E:XK}
    (S:i3 N L a){R:Addr}{G:Value}(ho:s.heap.get? f=some (W.kla_obj "<lambda>" d i l a [] pm R G))(hcd:s.heap.CodeRec (.ref R) d)
    (D:∀(z:Value) (A:Around) (c:List Env) (s:Shared) (H:Hp) (E:XK),iR k (iz (hZ P w) P w K O j N d a f z A c s H E).A->DE (iz (hZ P w) P w K O j N d a f z A c s H E) E l g)
    (F:∀(z G:Value) (m:List Value),m.length=L.length->bindArgs (W.kla_fn "<lambda>" d i l a [] pm z G) ⟨m,[]⟩=pure (L.zip m))
    (hr:iR (k+1) A)(e0:qw P w K O j A c s H)(r:Vals M m)(Z:ip L.length K (λds=>g<|hA N.length ds) M H Q E):
    codeAny (model P w) A (.call (.ref f) ⟨m,[]⟩) (CR (hZ P w) c P w H s Q E) s:=by
 obtain⟨hl,tt,al,ds,fr,T,h⟩:=Z;have U:s.heap.NoLimit:=e0.mod.nolimit.keeps λb o e=>(e0.bs b o e).1;have Y:m.length=L.length:=by rw[<-hl];exact r.length.symm
 have C:∀y∈L.zip m,a.names.lookup y.1=some .local\/(a.names.lookup y.1=some .cell/\((cellsFrom (s.heap.objs.size+1) a.names []).lookup y.1).isSome=true):=λ⟨n,v⟩ hy=>by
  rcases S.par n (et hy).1 with q|q;·exact .inl q
  ·exact .inr ⟨q,fj _ _ _<|.inl q⟩
 refine W.kla_callFunE hr.depth ho rfl S.co S.gen rfl hcd ?_;rw[F _ _ m Y];refine af (eJ S.kind C λenv he s1 x=>?_);subst he;refine⟨U.keeps x.toInCall.keep,W.kla_codeExpr ?_⟩;obtain⟨t,p,q⟩:=D (.ref R) A c s H E (hr.deeper _);have I:Inv (iz (hZ P w) P w K O j N d a f (.ref R) A c s H E) [] (L2.start N M) H s1:=AK S hr.hd e0 hl r x;refine aS (p [] s1 (L2.start N M) H _ I<|q al H al H (L2.start N M) (hA N.length ds) _ (uw tt fr T) h) (λu s' hs=>?_) λe s' hs=>hs;obtain⟨v,H',J,T,q⟩:=hs;exact⟨v,H',J.os,J.bare,J.base,J.hok,T,q⟩
structure uV(X:Cx)(f:Addr)(n:Nat)(G:gP):Prop where
 at':∀{pins:List<|Addr×Obj} {s:Shared} {σ:L2.St} {H:Hp},Inv X pins σ H s->W.FnAt f s.heap
 run:∀{pins:List<|Addr×Obj} {s:Shared} {σ:L2.St} {H:Hp} {us:List Value} {vs:List V} {Q:VK},Inv X pins σ H s->Vals vs us->ip n X.K G vs H Q E0->wpAny (model X.prog X.w) X.A (call (.ref f) us) (EP X pins σ Q) X.xe s
def ox(i:Nat)(f:Addr)(G:gP)(fs:Ev->R (List D)):g7:=λρ=>match ρ[i]? with
 |some (.sh (.ref g))=>if g=f then(fs ρ).bind λa=>pV (G a)else .bad
 |_=>.bad
section
variable{X:Cx}{E:XK}{e:Expr}{a:List Expr}{fs:Ev->R (List D)}{x:Str}{p pos:Pos}{k n:Nat}{b:List Str}{G:gP}{f:Addr}
def FC(i)(C:uV X f n G)(hn:(e::a).length=n)(ha:DA X E (e::a) fs)(hN:X.N[i]?=some x)(hv:oa X.env.scope x)(hd:jc x)
 (L:(x==("__classdict__":Str))=false)(he:X.se e a)(J:X.bk pos a):
   DE X E (.Call (.Name x p) (e::a) [] pos) (ox i f G fs):=by
  obtain⟨V,pa,Y,lb⟩:=ha;refine⟨λσ H Q=>CM i σ H λy w=>y=.ref f/\V σ w λz U=>ip n X.K G z U Q E0,λj s σ H Q I h=>?_,λP H0 al H σ ρ Q s h=>?_⟩
  ·refine b8 (g8 (ui hN hv hd L j s σ H _ I h) λu m F=>?_);obtain⟨y,w,T,r1,M,q1⟩:=F;subst M;obtain rfl:u=Value.ref f:=r1;exact W.callWith_F (C.at' T) (g8 (pa pos j m σ w _ T q1) λus s2 ⟨z,U,O,Z,q2⟩=>⟨C.at' O,C.run O Z q2⟩) he J
  ·unfold ox at h;split at h
   ·rename_i g q;split at h
    ·rename_i eg;subst eg;obtain⟨v,M,e2⟩:=s.sh i _ q;cases e2;refine⟨_,M,rfl,Y _ _ _ _ _ _ _ s ?_⟩;cases t:fs ρ with
     |bad=>rw[t]at h;exact h.elim
     |ex c ns o=>rw[t]at h;exact h
     |ok o=>
      rw[t]at h;intro w m z N;refine⟨by rw[N.length,lb ρ o t];exact hn,(s.grow m).tt,al,o,(s.grow m).fresh,N,?_⟩;have l:Aft X.K al E H (pV<|G o) (λd H'=>∀v,Rep X.K al H' v d->Q v H'):=h;cases A:G o with
      |bad=>rw[A]at l;exact l.elim
      |ex c ns a=>rw[A]at l;exact l.elim
      |ok d=>rw[A]at l;exact Aft.up (r:=.ok d) l m
    ·exact h.elim
   ·exact h.elim
end
def uW(P:Program)(w:World)(K:W.Frag)(c:iw)(a:Heap)(k:Nat)(H:Hp)(f:Addr)(n:Nat)(G:gP):Prop:=
 ∀X:Cx,X.prog=P->X.w=w->X.K=K->X.mg=c->X.base=a->X.H₀=H->iR k X.A->uV X f n G
def rF(P:Program)(w:World)(K:W.Frag)(h:iw)(c:Heap)(k n:Nat)(F:(gP)->D->R D):Sp:=λg H Q E=>g.length=2/\jt K H/\∃al d f G,(∀a,H a=none->al a)/\gQ K al H g [d,.ref f]/\uW P w K h c k H f n G/\
 Aft K al E H (F G d) (λd H'=>∀v,Rep K al H' v d->Q v H')
variable{P:Program}{w:World}{K:W.Frag}{mg:iw}{Y:Heap}
def Gn{x:Str}{j:Stmt}{f:Addr}{L:FuncData}{N u:List Str}{k n:Nat}{g:(gP)->Addr->hX}{C:(gP)->D->R D}(F:iK K x x j f L)(S:i3 N u<|hY j)(y:u.length=2)
    (T:∀G c d,C G d=.bad\/hU (g G c<|hA N.length [d,.ref c])=C G d)
    (l:∀(G:gP) (c:Addr) (i:Value) (A:Around) (a:List Env) (s:Shared) (H:Hp) (E:XK),iR k (iz (hZ P w) P w K mg Y N x (hY j) f i A a s H E).A->uV (iz (hZ P w) P w K mg Y N x (hY j) f i A a s H E) c n G->
      lI (iz (hZ P w) P w K mg Y N x (hY j) f i A a s H E) E (jK j) (g G c)):
    je P w K mg Y (k+1) f L u (rF P w K mg Y k n C):=by
 refine F.wQ S (λI H Q E h=>by rw[y];exact h.1) (λi A a s H I Q E J h=>?_);obtain⟨hl,O,al,d,c,G,fr,o,U,h⟩:=h;obtain⟨t,p,r⟩:=l G c i A a s H E J (U (iz (hZ P w) P w K mg Y N x (hY j) f i A a s H E) rfl rfl rfl rfl rfl rfl J);refine⟨t,p,r al H al H (L2.start N I) (hA N.length [d,.ref c]) _ (uw O fr o) ?_⟩;rcases T G c d with z|z;·rw[z]at h;exact h.elim
 ·rw[<-z]at h;cases q:g G c (hA N.length [d,.ref c])with
  |nx ρ=>rw[q]at h;exact λV H' M _ m=>h H' m.same .non .non
  |rt d=>rw[q]at h;exact λv H' m o=>h H' m v o
  |ex c Z es=>rw[q]at h;exact h
  |bk ρ=>rw[q]at h;exact h.elim
  |ct ρ=>rw[q]at h;exact h.elim
  |bad=>rw[q]at h;exact h.elim
def Gq{n G}(h:iP P w K mg Y k x ps<|ip n K G)(j:mg x=some (.ref f))(a:W.fnIn K f=true):uW P w K mg Y k H f n G:=by
 rintro X rfl rfl rfl rfl rfl rfl hr
 obtain⟨o,l,F,b,kp,m⟩:=h;rw[j]at m;cases m;refine⟨λI=>?_,λI r q=>Cp F hr b .nil pX I r (by rw[aZ];exact q)⟩;unfold W.fnIn at a;split at a
 ·rename_i i g c d e;exact⟨i,g,c,d,I.j6 _ _ e⟩
 ·cases a
def Ii{pos g}(p:(x,c,T)∈jr K)(F:x++".<locals>.<lambda>"=qual)(S:i3 N ps scope)(L:yH H f qual T pos params body scope pm)
 (i:∀h A d s H E,iR k (iz (hZ P w) P w K mg Y N qual scope f h A d s H E).A->DE (iz (hZ P w) P w K mg Y N qual scope f h A d s H E) E body g)
 (j:∀h l (n:List Value),n.length=ps.length->bindArgs (W.kla_fn "<lambda>" qual params body scope [] pm h l) ⟨n,[]⟩=pure (ps.zip n)):
   uW P w K mg Y (k+1) H f ps.length (λU=>g<|hA N.length U):=by
  rintro X rfl rfl rfl rfl rfl rfl hr
  obtain⟨V,l,C,u,R,O,M⟩:=L;have fo:∀{a:List<|Addr×Obj} {s:Shared} {σ:L2.St} {H:Hp},Inv X a σ H s->s.heap.get? f=some (W.kla_obj "<lambda>" qual params body scope [] pm V l):=λI=>(I.hok f _<|I.base.lO f _ u R).1;refine⟨λI=>⟨_,_,_,_,fo I⟩,λ{a s σ H n Z Q} I r q=>?_⟩;obtain⟨t,G⟩:=I.base.m8 T C O;obtain⟨D,o,t2,y⟩:=q.2.1 _ p;dsimp only at o;rw[G]at o;cases o;obtain⟨c2,v,z2⟩:=y pos _ (by rw[du];exact E6 _ _ M);cases v;dsimp only at z2;rw[F]at z2;refine wpAny_call (dM (Il (Q:=Q) (E:=E0) S (fo I) (I.hok _ _ z2).1 i j hr I.z5 r q) λr z m=>?_);cases r with
  |error e=>exact pX a σ H s e z I m
  |ok J=>
   cases J with
   |ret u=>exact I.after m
   |next=>exact False.elim m
   |brk=>exact False.elim m
   |cont=>exact False.elim m
def sJ(F:(gP)->D->R D)(G:gP)(a:g7):g7:=λρ=>(a ρ).bind λd=>F G d
variable{X:Cx}{E:XK}{e:Expr}{fa g:g7}{x y xd qual:Str}{p p2 p4 pos:Pos}{j k n:Nat}{ps py N:List Str}{G:gP}{F:(gP)->D->R D}{f c T:Addr}{O:Arguments}{U:Expr}{M:Scope}
def Fv(Gx:kW X.prog X.w X.K X.mg X.base (hZ X.prog X.w) k x ps<|rF X.prog X.w X.K X.mg X.base j n F)(Gy:kW X.prog X.w X.K X.mg X.base (hZ X.prog X.w) j y py<|ip n X.K G)(hr:iR k X.A)(hg:Gl X x)(m:Gl X y)(l:∃f,X.mg y=some (.ref f)/\W.fnIn X.K f=true)(hx:Passes (hZ X.prog X.w) X E)(ha:DE X E e fa)
 (r:jc x)(q:(y==("__debug__":Str))=false)
 (C:starEach [e,.Name y p2] X.env=(false,eval e X.env)::starEach [.Name y p2] X.env)(o:starEach [.Name y p2] X.env=(false,eval (.Name y p2) X.env)::starEach [] X.env)(i:(backTo pos (starEach [.Name y p2] X.env)).any (·.1)=false):DE X E (.Call (.Name x p) [e,.Name y p2] [] pos) (sJ F G fa):=by obtain⟨f,A,hf⟩:=l;obtain⟨ta,pa,V⟩:=ha;obtain⟨tb,Z,L⟩:=(FE (E:=E) (pos:=p2) m A q);refine⟨_,rz Gx hr hg hx (mz pa (mz Z nQ o) C) r C i,λP H0 al H σ ρ Q s h=>V _ _ _ _ _ _ _ s<|Aft.mono (Aft.split h) λd H1 z h1 v I=>L _ _ _ _ _ _ _ (s.grow z) λH2 a u J=>?_⟩;have t:=(s.grow z).grow a;cases J;exact⟨rfl,t.tt,al,d,f,G,t.fresh,.cons (I.up a)<|.cons (.ref _) .nil,Gq Gy A hf,Aft.up h1 a⟩
def Fy(S:i3 N py M)
 (C:∀f i A a s H E,iR j (iz (hZ X.prog X.w) X.prog X.w X.K X.mg X.base N qual M f i A a s H E).A->DE (iz (hZ X.prog X.w) X.prog X.w X.K X.mg X.base N qual M f i A a s H E) E U g)
 (bm:BM X.mg X.base)(hi:oH X.K xd c T=true)(m:X.env.code=.ref c)
 (Gx:kW X.prog X.w X.K X.mg X.base (hZ X.prog X.w) k x ps<|rF X.prog X.w X.K X.mg X.base (j+1) py.length F)(hr:iR k X.A)(hg:Gl X x)(hx:Passes (hZ X.prog X.w) X E)(ha:DE X E e fa)
 (hq:X.env.qual++"<lambda>"=qual:=by rfl)(hxd:xd++".<locals>.<lambda>"=qual:=by rfl)(hdef:defaultsOf O X.env=([],[]):=by rfl)(hcl:closureFor M X.env=pure []:=by rfl)
 (J:∀pm i l (us:List Value),us.length=py.length->bindArgs (W.kla_fn "<lambda>" qual O U M [] pm i l) ⟨us,[]⟩=pure (py.zip us):=by
 intro pm i l us hu;rcases us with _|⟨u,_|⟨v,_|⟨x,r⟩⟩⟩;· cases hu
 · cases hu
 · rfl
 · cases hu)
 (hdb:jc x:=by decide)
 (he:starEach [e,.Lambda O U M p4] X.env=(false,eval e X.env)::starEach [.Lambda O U M p4] X.env:=by rfl)(he2:starEach [.Lambda O U M p4] X.env=(false,eval (.Lambda O U M p4) X.env)::starEach [] X.env:=by rfl)(hpl:(backTo pos<|starEach [.Lambda O U M p4] X.env).any (·.1)=false:=by rfl):
   DE X E (.Call (.Name x p) [e,.Lambda O U M p4] [] pos) (sJ F (λds=>g<|hA N.length ds) fa):=by
  obtain⟨ta,pa,ra⟩:=ha
  have pb:PE X (.Lambda O U M p4) (λσ H Q=>jt X.K H/\∀f H',iH X.K H H'->yH H' f qual T p4 O U M ((X.mg "__name__").getD .none)->Q (.ref f) H'):=λpins s σ H Q I ⟨tt,h⟩=>
   Ij I tt bm hi m hq hxd hdef hcl λf H2 Z hn sm I2 ⟨c',l,qs,e1,e2,e3⟩=>by
    have ne:T≠f:=λz=>by rw[z,e1]at e2;cases e2
    refine⟨.ref f,_,Hs I2 e1,rfl,h f _ ⟨λb o no V=>?_,λb V=>?_,λt=>(sm.tt t).upd (λps z=>by rw[e1]at z;cases z) λq z=>?_⟩ ⟨c',l,qs,_,ix,by rw[gY ne];exact e2,e3⟩⟩;·rw[gY<|jl V hn];exact sm.at' b o no V
    ·by_cases w:b=f;·rw[w,ix]at V;cases V
     ·rw[gY w]at V;exact sm.fr b V
    ·rw[e1]at z;have z':=Option.some.inj z;unfold lj jj at z';injection z' with z';have w:Z.heap.CodeRec (.ref f) q:=(congrFun z' Z.heap).mp (I2.hok f _ e1).1;obtain⟨c2,o,vs,t,w1,w2,w3,_⟩:=w;cases w1;have w4:=(I2.hok f _ e1).1;dsimp only at w4;rw[w2]at w4;cases w4;cases w3
  refine⟨_,rz Gx hr hg hx (mz pa (mz pb nQ he2) he) hdb he hpl,λP H0 al H σ ρ Q s h=>ra _ _ _ _ _ _ _ s<|Aft.mono (Aft.split h) λd H1 s1 h1 v rv=>⟨(s.grow s1).tt,λf H2 Z L=>?_⟩⟩;have s3:=(s.grow s1).grow Z;exact⟨rfl,s3.tt,al,d,f,_,s3.fresh,.cons (rv.up Z)<|.cons (.ref _) .nil,Ii (A2 hi).1 hxd S L (C f) (J _),Aft.up h1 Z⟩
end P2
namespace L2
open PySem PySem.Spec PyProof.Rows
section
variable{M:Model}{A:Around}{E:ia}{s:Shared}
def Jk{a:Scope}{Q:Env->Shared->Prop}(j:∀n d,cellsFrom n a.names d=(y,n)::d)(g:∀h,pushCells h a.names=h.push {cls:=.type "cell",data:=.cell none})
 (m:∀f,f.Ns s.heap.objs.size (λ_=>none)->(∀b o,s.heap.get? b=some o->f.get? b=some o)->f.get? (s.heap.objs.size+1)=some {cls:=.type "cell",data:=.cell none}->
 Q (newEnv a s.heap.objs.size globals ((y,s.heap.objs.size+1)::cl) qual none .none (some outer) builtinsNs) {s with heap:=f,toks:=s.toks}):
    wpAny M A (newFunctionEnv a globals cl [] qual none .none<|some outer) Q E s:=by
  simp only[newFunctionEnv,Option.isSome_some,cB];refine aa (wpAny_alloc ?_);refine aa (wpAny_layCells _ (λl c k=>by cases i:c==NameKind.cell<;>simp[i]) _ _ _ _ ?_);rw[j,g];rw[show({s with heap:=s.heap.push {cls:=.type "dict",data:=.dict #[]}}:Shared).heap.objs.size=s.heap.objs.size+1 from bI ..];rw[List.forIn_nil];refine aa (af<|af ?_);refine m _ ((Heap.Ns.new s.heap<|.type "dict").keeps λb o e=>ae _ e) (λb o e=>ae _<|ae _ e) ?_;have e:s.heap.objs.size+1=(s.heap.push {cls:=.type "dict",data:=.dict #[]}).objs.size:=(bI ..).symm;rw[e];exact aw _ rfl
end
abbrev Cx.j4(X:Cx)(scope:Scope)(N':List Str)(y:Str)(cl:List<|Str×Addr)(fp:List Addr)(s3:Shared)(H3:Hp)(C:Addr):Cx:=
 {X with N:=N',s₀:=s3,H₀:=H3,env:=compEnvC scope ((y,C+1)::cl) C X.env,outer:=X.stack,ex:=fp,fn:=λx=>decide<|x=y,pn:=[],xe:=λ_ _=>False}
def Gm{X:Cx}:(X.j4 scope N y cl fp s3 H3 C).fn y=true:=aV rfl
variable{X:Cx}{P B K:Expr}{F:List Expr}{scope:Scope}{pos:Pos}{S:TI}{g:TG}{tc:TT}{te:TE}{f:List<|Str×Addr}{L:Nat}{Nt Nc:List Str}{O:List Nat}{y:Str}
def zu{RR:Value->Addr->Result->Shared->Prop}(I:Inv X pins σ H s)(hc:X.calm=true)(hi:PI X P B S)
 (hg:∀A s3 H3 C,PG (X.j4 scope (Nt++Nc) y f A s3 H3 C) P g)(hf:∀A s3 H3 C,PF (X.j4 scope (Nt++Nc) y f A s3 H3 C) F tc)(he:∀A s3 H3 C,PE (X.j4 scope (Nt++Nc) y f A s3 H3 C) K te)
 (hkind:scope.kind=.function)(hcy:∀n Z,cellsFrom n scope.names Z=(y,n)::Z)(tG:∀h,pushCells h scope.names=h.push {cls:=.type "cell",data:=.cell none})(tH:y∉Nc)(k4:ke X f Nc O)(lS:Nt.length=L)
 (D:∀x c,f.lookup x=some c->X.env.cells.lookup x=some c)(hhas:∀x,((relabel scope X.env).names.lookup x=some .cell\/(relabel scope X.env).names.lookup x=some .free)->x=y\/∃c,f.lookup x=some c)
 (lU:∀x∈Nc,(relabel scope X.env).names.lookup x=some .cell\/(relabel scope X.env).names.lookup x=some .free)
 (h:qh S L O g tc te σ H Q)
 (fin:∀l C H' s' m,s'.heap.Ns C m->Inv X pins σ H' s'->H' C=none->C≠X.env.locals->X.s₀.heap.objs.size<=C->(∀x c,X.env.cells.lookup x=some c->c≠C)->(∀p∈X.pn++pins,p.1≠C)->Q (.ref l) H'->RR (.ref l) C (.ok .next) s'):
   wpAny (model X.prog X.w) X.A (eval B X.env) (λx x9=>wpAny (model X.prog X.w) X.A (pyIter x) (λit ya=>wpAny (model X.prog X.w) X.A (newList []) (λZ yb=>wpAny (model X.prog X.w) X.A (newFunctionEnv scope X.env.globals f [] X.env.qual none .none<|some X.env) (λqK yc=>codeAny (model X.prog X.w) X.A (.compStart (.ListComp K [⟨P,B,F,0⟩] scope pos) 0 it Z {qK with scope:=relabel scope X.env}) (RR Z qK.locals) yc) X.xe yb) X.xe ya) X.xe x9) X.xe s:=by
  refine g8 (hi pins s σ H _ I h) λv s1 h1=>g8 h1 λAO s2 h2=>?_;obtain⟨it,A,tk,J,H2,rfl,I2,T,rG,f2,hW⟩:=h2;refine aT (Jk hcy tG λoC M N R=>?_);dsimp only at M N R⊢;generalize hG:s2.heap.push {cls:=.type "list",dict:=none,data:=.seq ([]:List Value).toArray}=G at M N R⊢;have tE:G.objs.size=s2.heap.objs.size+1:=by rw[<-hG,bI]
  have hl:H2 s2.heap.objs.size=none:=I2.hok.fresh (ah _);obtain⟨W,⟨m0,w0⟩,turn⟩:=hW _ hl;have t:Inv X pins σ (upd H2 s2.heap.objs.size<|.lst []) {s2 with heap:=G}:=by rw[<-hG];exact I2.laid (t':=s2.toks) (λb u e=>ae _ e) (ah _) ⟨bD _,[],0,.nil,aw _ rfl⟩
  generalize q3:upd H2 s2.heap.objs.size (.lst [])=H3 at w0 t;have keep:∀b o,G.get? b=some o->oC.get? b=some o:=N;have old:∀x c,f.lookup x=some c->c<G.objs.size:=λx c e=>by obtain⟨v,o,ho,_⟩:=t.cell x c (D x c e);exact Heap.lt_size ho
  have lk:∀x c,((y,G.objs.size+1)::f).lookup x=some c->(x=y/\c=G.objs.size+1)\/f.lookup x=some c:=λx c e=>by
   rw[cR]at e;by_cases w:x=y;·rw[dg.mpr w]at e;exact .inl ⟨w,(Option.some.inj e).symm⟩
   ·rw[fX w]at e;exact .inr e
  have kO:∀b∈A,b<s2.heap.objs.size:=λb a=>by obtain⟨o,e,_⟩:=T.obj 0 _ rG b a;exact Heap.lt_size e
  have qP:∀b∈A,b≠G.objs.size:=λb a=>aO (ay (kO b a)<|by rw[tE];exact dI _);have qQ:∀b∈A,H3 b=none:=λb a=>by rw[<-q3,gY<|aO<|kO b a];exact(f2 b a).1
  let X':=X.j4 scope (Nt++Nc) y f A {s2 with heap:=G} H3 G.objs.size
  have ok':X'.Ok:=by
   refine⟨t.ok.mod,(by show(relabel scope X.env).kind=_;exact hkind),t.ok.glob,t.ok.blt,ah _,λx x' c e1 e2=>?_,λx hx=>?_,(λx c z e=>?_),t.ok.hd,t.ok.frames,.inl rfl,λb a=>⟨qP b a,λx c e=>?_⟩,λb o e=>t.bs b o e,aI t.ok.ny t.sz,λb o e a=>?_,λb a z=>?_,t.stack,t.uG⟩
   ·rcases lk x c e1 with⟨w,v⟩|w
    ·rcases lk x' c e2 with⟨w',_⟩|w';·rw[w,w']
     ·exact absurd (old x' c w') (by rw[v];exact fN.mpr (dI _))
    ·rcases lk x' c e2 with⟨_,v'⟩|w';·exact absurd (old x c w) (by rw[v'];exact fN.mpr (dI _))
     ·exact t.ok.inj x x' c (D x c w) (D x' c w')
   ·rcases hhas x hx with w|⟨c,w⟩;·exact⟨G.objs.size+1,by show((y,G.objs.size+1)::f).lookup x=_;rw[cR,dg.mpr w]⟩
    ·by_cases w':x=y;·exact⟨G.objs.size+1,by show((y,G.objs.size+1)::f).lookup x=_;rw[cR,dg.mpr w']⟩
     ·exact⟨c,by show((y,G.objs.size+1)::f).lookup x=_;rw[cR,fX w'];exact w⟩
   ·have z':x=y:=bh z;subst z';have e':((x,G.objs.size+1)::f).lookup x=some c:=e;rw[cR,fq]at e';have Rr:=Option.some.inj e';show G.objs.size<=c;omega
   ·rcases lk x c e with⟨_,v⟩|w
    ·have h5:=kO b a;rw[v];exact λz=>bj _ (ay (by rw[<-z]at h5;exact h5)<|by rw[tE];omega)
    ·exact(f2 b a).2.2.2.2.1 x c (D x c w)
   ·rcases(f2 b a).2.2.2.1 with z|z;·exact t.ok.tV b o e z
    ·exact absurd (ay (Heap.lt_size e)<|aI t.ok.ny z) (bj _)
   ·rcases aF.mp (t.rJ b z)with e|e;·exact(f2 b a).2.1 e
    ·exact(f2 b a).2.2.1 e
  have J0:Inv X' [] (ju L O σ) H3 {s2 with heap:=oC,toks:=s2.toks+0}:=by
   refine⟨ok',rfl,t.bare,Un.kept keep,⟨_,M,λi x v e1 e2 e3=>?_⟩,λx c e=>?_,t.hok.fresh<|ah _,λx c e=>(lk x c e).elim (λw=>t.hok.fresh<|by show G.objs.size<=c;omega) λw=>t.mw x c<|D x c w,λp hp=>absurd (show p∈([]:List<|Addr×Obj)from hp)<|by simp,t.hok.kept keep,?_⟩
   ·obtain⟨k,j,rfl,q1,q2⟩:=sI e2;have pE:Nc[k]?=some x:=by
     rw[aC<|by omega]at e1;rw[show L+k - Nt.length=k by omega]at e1;exact e1
    obtain⟨j',z1,z2,z3,z4⟩:=k4.get pE;rw[q1]at z1;cases z1;obtain⟨m,hn,v8⟩:=t.loc;obtain⟨u,r,lk⟩:=v8 j x v z2 q2 (z3.elim (λz=>.inr<|.inl z) λz=>.inr<|.inr z);refine⟨u,r,.inr ⟨lU x<|aM pE,?_⟩⟩;rcases lk with⟨k1,_⟩|⟨_,c,k2,k3⟩;·rcases z3 with z|z<;>(rw[k1]at z;cases z)
    ·refine⟨c,?_,?_⟩
     ·show((y,G.objs.size+1)::f).lookup x=some c;rw[cR,fX λw=>tH<|by rw[<-w];exact aM pE];exact z4.trans k2
     obtain⟨o,ho,hd⟩:=k3;exact⟨o,keep _ _ ho,hd⟩
   ·rcases lk x c e with⟨_,v⟩|w;·rw[v];exact⟨none,_,R,rfl⟩
    ·obtain⟨v,o,ho,hd⟩:=t.cell x c (D x c w);exact⟨v,o,keep _ _ ho,hd⟩
   ·rw[ou];show _=(Nt++Nc).length;rw[aq,k4.length,lS]
  have stat:∀{V:List<|Addr×Obj} {H':Hp},(∀p∈V,p.1∉A)->(∀b∈A,H' b=none)->∀b∈A,mM X' V H' b:=λ{V H'} hp hn b a=>⟨hn b a,qP b a,λz=>ok'.sU b a z,.inl a,λx c e=>(ok'.Aa b a).2 x c e,λp wa z=>hp p ((bx.mp wa).elim (λw=>absurd (show p∈([]:List<|Addr×Obj)from w)<|by simp) λw=>w)<|by rw[z];exact a⟩
  have mk:∀(s5:Shared),(∀i H5,Inv X' [] (ju L O σ) H5 s5->tk i s5.heap->(∀b∈A,H5 b=none)->∀n,W i n H5->
   codeAny (model X.prog X.w) X.A (.compLoop (.ListComp K [⟨P,B,F,0⟩] scope pos) 0 (.ref it) (.ref s2.heap.objs.size) (compEnvC scope ((y,G.objs.size+1)::f) G.objs.size X.env)) (RR (.ref s2.heap.objs.size) G.objs.size) s5):=by
   intro s5 i5 H5 J5 xZ vW n5 w5;refine zq (λn s'=>∃i H',Inv X' [] (ju L O σ) H' s'/\tk i s'.heap/\(∀b∈A,H' b=none)/\W i n H') ?_ n5 ⟨i5,H5,J5,xZ,vW,w5⟩
   rintro n s6 ⟨i,H6,J6,rH,qR,w6⟩
   rcases turn i n H6 w6 (λb o u e=>J6.base.lO b o u (show H3 b=_ by rw[<-q3];exact e))with⟨stop,q⟩|⟨go,step⟩
   ·refine aS (T.done X' rfl rfl rfl hc i [] s6 _ H6 (λ_ _=>False) J6 (stat (by simp) qR) rH stop) (λr s7 ⟨hr,J7⟩=>?_) λ_ _ z=>z.elim;subst hr;obtain⟨m,hn,_⟩:=J7.loc;have IX:Inv X pins σ H6 s7:=t.vB (ch:=A) J7.os J7.base J7.hok J7.bare λb a=>⟨(f2 b a).2.2.2.1,(f2 b a).2.1,(f2 b a).2.2.2.2.1,(f2 b a).2.2.2.2.2⟩;refine fin _ _ H6 s7 m hn IX J7.free (cc t.lt) (aI t.sz<|ah _) (λx c e z=>?_) (λp hp z=>?_) q
    ·obtain⟨v,o,ho,_⟩:=t.cell x c e;exact absurd (Heap.lt_size ho) (by rw[z];exact bj _)
    ·exact absurd (Heap.lt_size (t.pin p hp).1) (by rw[z];exact bj _)
   ·refine aS (T.item X' rfl rfl rfl hc i [] s6 _ H6 (λ_ _=>False) J6 (stat (by simp) qR) rH go) (λr s7 ⟨u,hr,h7⟩=>?_) λ_ _ z=>z.elim;subst hr;refine aS h7 (λ_ s8 Y=>?_) λ_ _ z=>z.elim;obtain⟨x,H8,J8,r8,y8,oS,vX⟩:=Y;have u2:=J8.pinned (stat (by simp) vX) (T.obj _ _ oS)
    have back:∀{U:St} {H9:Hp} {s9:Shared},Inv X' ([]++pZ A s8.heap) U H9 s9->U.length=L+O.length->(∀j,L<=j->U[j]?=(ju L O σ)[j]?)->∀m',m'<n->W (i+1) m' H9->
     ∃m,m<n/\∃i H',Inv X' [] (ju L O σ) H' s9/\tk i s9.heap/\(∀b∈A,H' b=none)/\W i m H':=λ{U H9 s9} J9 v7 v5 m' hm w9=>by
     refine⟨m',hm,i+1,H9,J9.rN.weak (by rw[ou,v7]) λj v e=>?_,T.keep _ _ _ oS λb a o e=>(J9.pin (b,o)<|aQ _<|aQ _<|pT a e).1,λb a=>?_,w9⟩
     ·obtain⟨k,_,rfl,_⟩:=sI e;rw[v5 _<|by omega];exact e
     ·obtain⟨o,e,d⟩:=T.obj _ _ oS b a;exact(J9.pin (b,o)<|aQ _<|aQ _<|pT a e).2.1
    refine aS (hg A _ _ _ _ s8 _ H8 x u _ u2 r8<|step x H8 y8) (λ_ s9 Y=>?_) λ_ _ z=>z.elim;obtain⟨U,H9,J9,⟨l9,k9⟩,q9⟩:=Y;refine aS (hf A _ _ _ _ s9 U H9 _ J9 q9) (λb qa ⟨qx,qz,mZ⟩=>?_) λ_ _ z=>z.elim;cases b with
    |false=>rw[ak aA]at mZ⊢;obtain⟨m',hm,yk⟩:=mZ;exact back qz l9 k9 m' hm yk
    |true=>rw[ai rfl]at mZ⊢;refine aS (he A _ _ _ _ qa U qx _ qz mZ) (λy lE Y=>?_) λ_ _ z=>z.elim;obtain⟨v,qy,u0,xo,Z,vS,yq,m',hm,ym⟩:=Y;refine aS (tP (X:=X') _ lE U qy (.ref _) [v] (.ref _) [y] (λ_ nj=>W (i+1) m' nj) u0 rfl (.cons xo .nil) ⟨_,Z,v,rfl,rfl,vS,yq,ym⟩) (λ_ mE Y=>?_) λ_ _ z=>z.elim;obtain⟨_,nj,u1,_,yn⟩:=Y;exact back u1 l9 k9 m' hm yn
  have oR:tk 0 oC:=T.keep _ _ _ rG λb _ o e=>keep b o (by rw[<-hG];exact ae _ e);exact codeAny_compStart_list (mk _ 0 H3 J0 oR qQ m0 w0) (T.self _ 0 _ _ _ oR<|mk _ 0 H3 J0 oR qQ m0 w0)
def KD(Y:X.calm=true)(hi:PI X P B S)(U:∀v j z C,PG (X.j4 scope (Nt++Nc) y f v j z C) P g)(hf:∀v j z C,PF (X.j4 scope (Nt++Nc) y f v j z C) F tc)(V:∀v j z C,PE (X.j4 scope (Nt++Nc) y f v j z C) K te)
 (i:closureFor scope X.env=pure f)(a:scope.kind=.function)(G:∀n w,cellsFrom n scope.names w=(y,n)::w)(D:∀h,pushCells h scope.names=h.push {cls:=.type "cell",data:=.cell none})(A:y∉Nc)(d:kN scope)(u:ke X f Nc O)(J:Nt.length=L)
 (p:∀x c,f.lookup x=some c->X.env.cells.lookup x=some c)(t:∀x,((relabel scope X.env).names.lookup x=some .cell\/(relabel scope X.env).names.lookup x=some .free)->x=y\/∃c,f.lookup x=some c)
 (k:∀x∈Nc,(relabel scope X.env).names.lookup x=some .cell\/(relabel scope X.env).names.lookup x=some .free)
 (R:∀x,foldedSetIterable B X.env x=pure x):PE X (.ListComp K [⟨P,B,F,0⟩] scope pos) (qh S L O g tc te):=by intro M s σ H Q I h;rw[eval_ListComp];refine cF (use:=none) rfl R i a d (zu (Nt:=Nt) (Nc:=Nc) (y:=y) I Y hi U hf V a G D A u J p t k h ?_);intro l C H' N m T I' h1 h2 h3 h4 h5 q;exact⟨m,T,λvZ r=>⟨.ref l,H',I'.turned (t':=N.toks) (λb o Z e=>r.extBut b o Z e) h1 h2 (.inr h3) h4 h5,rfl,q⟩⟩
def Lp(hc:X.calm=true)(hi:PI X P B S)(hg:∀M t R C,PG (X.j4 scope (Nt++Nc) y f M t R C) P g)(hf:∀M t R C,PF (X.j4 scope (Nt++Nc) y f M t R C) F tc)(he:∀M t R C,PE (X.j4 scope (Nt++Nc) y f M t R C) K te)
 (p:closureFor scope X.env=pure f)(d:scope.kind=.function)(Z:∀n N,cellsFrom n scope.names N=(y,n)::N)(V:∀h,pushCells h scope.names=h.push {cls:=.type "cell",data:=.cell none})(T:y∉Nc)(j:kN scope)(G:ke X f Nc O)(lS:Nt.length=L)
 (w:∀x c,f.lookup x=some c->X.env.cells.lookup x=some c)(D:∀x,((relabel scope X.env).names.lookup x=some .cell\/(relabel scope X.env).names.lookup x=some .free)->x=y\/∃c,f.lookup x=some c)
 (u:∀x∈Nc,(relabel scope X.env).names.lookup x=some .cell\/(relabel scope X.env).names.lookup x=some .free)
 (hs:∀x,foldedSetIterable B X.env x=pure x):sd X (.ListComp K [⟨P,B,F,0⟩] scope pos) (qh S L O g tc te):=by
  intro i x k hN U hx Y pins s σ H Q I h;unfold evalThenUse;refine aa (cF (use:=some<|assign (.Name x k) X.env) rfl hs p d j<|zu (Nt:=Nt) (Nc:=Nc) (y:=y) I hc hi hg hf he d Z V T G lS w D u h ?_);intro l C H' s' m hn I' h1 h2 h3 h4 h5 q;show wpAny _ _ (assign (.Name x k) X.env<|.ref l) _ _ _;refine aa (d6<|eI<|x8 I' hN U hx (v:=.ref l) rfl (λs2 I2 J=>?_) Y);obtain⟨a,sb,J⟩:=J;have ne:C≠a:=by
   rcases J with rfl|J;·exact h2
   ·exact λz=>h4 _ _ J z.symm
  obtain⟨o,es,ep,e,r⟩:=hn;refine⟨m,⟨o,es,ep,(sb.2 C ne).trans e,r⟩,λvZ A=>af ⟨.ref l,H',I2.turned (t':=s2.toks) (λb o hb e=>A.extBut b o hb e) h1 h2 (.inr h3) h4 h5,q⟩⟩
end L2
namespace P2
open PySem L2
variable{X:Cx}{E:XK}{F f r:Expr}{k:List Expr}{e:Scope}{pos:Pos}{I:Ev->R (List D)}{a:D->Ev->Option Ev}{B:Ev->R Bool}{A:g7}{cl:List<|Str×Addr}{tn:Nat}{Nt Nc:List Str}{ci l:List Nat}{y:Str}
def FP(hc:X.calm=true)(hi:DI X E F f I)(hg:∀U M N C,DG (X.j4 e (Nt++Nc) y cl U M N C) F l a)(hl:∀j∈l,j<tn)(hf:∀U M N C,mf (X.j4 e (Nt++Nc) y cl U M N C) k B)
 (he:∀U M N C,DE (X.j4 e (Nt++Nc) y cl U M N C) (λ_ _ _=>False) r A)
 (hclos:closureFor e X.env=pure cl)(Z:e.kind=.function)(hcy:∀n acc,cellsFrom n e.names acc=(y,n)::acc)(tG:∀h,pushCells h e.names=h.push {cls:=.type "cell",data:=.cell none})(tH:y∉Nc)(T:kN e)(k4:ke X cl Nc ci)(lS:Nt.length=tn)
 (hsub:∀x c,cl.lookup x=some c->X.env.cells.lookup x=some c)(hhas:∀x,((relabel e X.env).names.lookup x=some .cell\/(relabel e X.env).names.lookup x=some .free)->x=y\/∃c,cl.lookup x=some c)
 (lU:∀x∈Nc,(relabel e X.env).names.lookup x=some .cell\/(relabel e X.env).names.lookup x=some .free)
 (hs:∀x,foldedSetIterable f X.env x=pure x):mh X E (.ListComp r [⟨F,f,k,0⟩] e pos) (iq I tn ci a B A):=by
  obtain⟨wi,pi,ri⟩:=hi;refine⟨_,KD (y:=y) (te:=wE X.K (λ_ _ _=>False) A) (tc:=wT X.K (λ_ _ _=>False) B) (g:=wG X.K l a) hc pi (λU M N C=>(hg U M N C).w) hf (λU M N C=>(he U M N C).w) hclos Z hcy tG tH T k4 lS hsub hhas lU hs,Lp (y:=y) (te:=wE X.K (λ_ _ _=>False) A) (tc:=wT X.K (λ_ _ _=>False) B) (g:=wG X.K l a) hc pi (λU M N C=>(hg U M N C).w) hf (λU M N C=>(he U M N C).w) hclos Z hcy tG tH T k4 lS hsub hhas lU hs,λP H0 al H σ ρ Q s h=>ri _ _ _ _ _ _ _ s<|Aft.mono (Aft.split h) λV H1 s1 h1 J wk=>?_⟩;intro p hp;by_cases hz:V.length<=sizeLine
  ·rw[ai hz]at h1;cases q:kK a B A (kg tn ci ρ) V with
   |none=>rw[q]at h1;exact h1.elim
   |some out=>
    rw[q]at h1;have s2:=s.grow s1
    let L:Addr->Prop:=λb=>al b/\b≠p
    refine⟨λi m O=>∃G rest d,out=G++rest/\kK a B A (kg tn ci ρ) (V.drop i)=some rest/\O p=some (.lst d)/\gQ X.K L O d G/\iH X.K H1 O/\(∀b,O b=none->L b)/\m=V.length - i/\i<=V.length/\G.length<=i,⟨_,[],out,[],rfl,q,ix,.nil,jG hp,λb hb=>?_,rfl,bD _,ah _⟩,?_⟩
    ·have z:b≠p:=λw=>by rw[w,ix]at hb;cases hb
     rw[gY z]at hb;exact⟨s2.fresh b hb,z⟩
    ·rintro i m O ⟨G,rest,d,e1,e2,e3,e4,e5,e6,rfl,e7,e8⟩ _
     have rQ:Xt al H1 L O:=λb o n hb w=>⟨⟨hb,jl w hp⟩,e5.at' _ _ n w⟩;obtain⟨w1,w2⟩:=wk L O rQ e6;by_cases hi:i<V.length
     ·right;have ed:V[i]?=some V[i]:=au hi;obtain⟨go,yl⟩:=w1 i _ ed;refine⟨go,λx N y=>?_⟩;obtain⟨rfl,rx⟩:=yl x N y;rw[bZ hi]at e2;unfold kK at e2;obtain⟨o6,a1,a2⟩:=az.mp e2;obtain⟨b,a3,a4⟩:=az.mp a2;refine⟨al,H1,L,kg tn ci ρ,V[i],Co s2 rQ e5 e6 (λ_ z=>z.1) tn ci,rx,o6,a1,λQ9 kp M=>⟨⟨?_,λj hj=>kp.2 j λw=>absurd (hl j w)<|by omega⟩,al,H1,L,o6,M,?_⟩⟩;·rw[kp.1,ou]
      ·rw[ua a3];intro H5 Y;cases b with
       |false=>rw[ak aA]at a4⊢;exact⟨V.length - (i+1),by omega,G,rest,d,e1,a4,Y.at' _ _ kP e3,e4.up Y,e5.trans Y,λb hb=>e6 b<|Y.free hb,rfl,hi,by omega⟩
       |true=>
        rw[ai rfl]at a4⊢;obtain⟨v,a5,a6⟩:=az.mp a4;obtain⟨vs,a7,a8⟩:=az.mp a6;cases a8;refine⟨al,H1,L,o6,M.grow Y,?_⟩;rw[ua a5];intro H6 s6 u ru;have oB:=s6.at' _ _ kP (Y.at' _ _ kP e3);have x6:Xt L H6 L (upd H6 p (.lst (d++[u]))):=λc o _ hc w=>⟨hc,by rw[gY hc.2];exact w⟩;refine⟨d,oB,by rw[e4.length];omega,V.length - (i+1),by omega,G++[v],vs,d++[u],by rw[e1];simp,a7,ix,((((e4.up Y).up s6).append (.cons ru .nil)).mv x6),?_,λc hc=>?_,rfl,hi,by rw[aq];simp;omega⟩
        ·exact⟨λc o n w=>by
          rw[gY<|jl w hp];exact s6.at' _ _ n (Y.at' _ _ n<|e5.at' _ _ n w),λc w=>by
          by_cases z:c=p;· rw[z];exact hp
          · rw[gY z]at w;exact e5.fr c (Y.fr c (s6.fr c w)),λt=>(s6.tt (Y.tt (e5.tt t))).upd (nI oB).1 (nI oB).2⟩
        ·have z:c≠p:=λw=>by rw[w,ix]at hc;cases hc
         rw[gY z]at hc;exact e6 c (Y.free<|s6.free hc)
     ·left;have ei:i=V.length:=by omega
      rw[cu<|by omega]at e2;cases e2;rw[aZ]at e1;subst e1;refine⟨w2 i<|by omega,?_⟩
      let H':Hp:=λb=>if b=p then none else O b
      have hH:upd H' p (.lst d)=O:=by
       funext b;by_cases z:b=p;·subst z;rw[ix,e3]
       ·rw[gY z];show(if b=p then none else O b)=_;rw[ak z]
      have sm:iH X.K H1 H':=⟨λb o n w=>by
       show(if b=p then none else O b)=_;rw[ak<|jl w hp];exact e5.at' _ _ n w,λb w=>by
       by_cases z:b=p;· rw[z];exact hp
       · have w':(if b=p then none else O b)=none:=w;rw[ak z]at w';exact e5.fr b w',λt=>(e5.tt t).off (nI e3).1 (nI e3).2 λb z=>by show(if b=p then none else O b)=_;rw[ak z]⟩
      rw[<-hH];refine h1 H' sm p d (by show(if p=p then none else O p)=_;rw[ai rfl]) (e4.mv λb o _ hb w=>⟨hb.1,?_⟩);show(if b=p then none else O b)=_;rw[ak hb.2];exact w
  ·rw[ak hz]at h1;exact h1.elim
def FQ(i nm)(N:y≠x)(hc:X.calm=true)(hi:DI X E F f I)(Z:∀J s M C,DG (X.j4 e (Nt++[x]) y [(x,c)] J s M C) F l a)(V:∀j∈l,j<tn)(hf:∀J s M C,mf (X.j4 e (Nt++[x]) y [(x,c)] J s M C) k B)
 (he:∀J s M C,DE (X.j4 e (Nt++[x]) y [(x,c)] J s M C) (λ_ _ _=>False) r A)
 (m:e.kind=.function)(P:∀n L,cellsFrom n e.names L=(y,n)::L)(O:∀h,pushCells h e.names=h.push {cls:=.type "cell",data:=.cell none})(g:kN e)(Q:Nt.length=tn)
 (hN:X.N[i]?=some x)(Y:X.env.kindOf x=some .cell)(G:X.env.cells.lookup x=some c)(o:closureFor e X.env=pure [(x,c)])(u:(relabel e X.env).names=nm)
 (v:∀p∈nm,(p.2=.cell\/p.2=.free)->p.1=y\/p.1=x)(t:nm.lookup x=some .cell\/nm.lookup x=some .free)
 (U:∀x,foldedSetIterable f X.env x=pure x):mh X E (.ListComp r [⟨F,f,k,0⟩] e pos) (iq I tn [i] a B A):=by
  refine FP (y:=y) (cl:=[(x,c)]) (Nc:=[x]) (ci:=[i]) hc hi Z V hf he o m P O (by simpa using N) g (.cons hN (.inl Y) (by rw[G];simp[List.lookup]) .nil) Q (λz d h=>?_) (λz h=>?_) (λz T=>?_) U
  ·by_cases w:z=x;·subst w;simp[List.lookup]at h;rw[G,h]
   ·have:(z==x)=false:=by simpa using w
    simp[List.lookup,this]at h
  ·rw[u]at h;have:z=y\/z=x:=h.elim (λq=>v _ (aY q)<|.inl rfl) λq=>v _ (aY q) (.inr rfl);rcases this with w|w;·exact .inl w
   ·exact .inr ⟨c,by rw[w];simp[List.lookup]⟩
  ·rw[aJ]at T;rw[T,u];exact t
end P2
namespace og
open PySem L2 P2 WP
def at_(i:Nat):Stmt:=PySem.Challenge.pw_weather_k63_weeks.main.body.getD i (.Pass ⟨0,0,0,0⟩)
abbrev xC:Stmt:=at_ 4
abbrev xD:Stmt:=at_ 5
abbrev xA:Stmt:=at_ 6
abbrev xE:Stmt:=at_ 7
abbrev uz:Stmt:=at_ 8
abbrev xH:Stmt:=at_ 11
abbrev xI:Stmt:=at_ 13
abbrev xF:Stmt:=at_ 14
abbrev uy:Stmt:=at_ 15
abbrev xG:Stmt:=at_ 16
abbrev xB:Stmt:=at_ 17
abbrev xQ:Stmt:=at_ 19
abbrev xT:Stmt:=at_ 20
abbrev xS:Stmt:=at_ 21
abbrev xV:Stmt:=at_ 22
abbrev xR:Stmt:=at_ 23
abbrev xU:Stmt:=at_ 24
abbrev oM:Stmt:=at_ 25
structure Tx(K:PySem.W.Frag)(mg:iw)(a:Ad):Prop where
 sC:mg "abs"=none
 yX:mg "bool"=none
 yY:mg "int"=none
 sD:mg "isinstance"=none
 yZ:mg "len"=none
 vn:mg "list"=none
 vo:mg "range"=none
 y6:mg "set"=none
 sE:mg "sorted"=none
 qH:mg "sum"=none
 pK:rY mg "WEEK_DAYS" (.int 7)
 EH:mg "WeatherError"=some (.ref a.WeatherError)
 zg:mg "NoFraction"=some (.ref a.NoFraction)
 Df:yR K a.NoFraction
 zh:∃f,mg "under"=some (.ref f)/\PySem.W.fnIn K f=true
 tI:r3 K a.nF
section
variable{P:Program}{w:World}{K:PySem.W.Frag}{o:iw}{base:Heap}{f:Addr}{M:FuncData}
variable{B e l Q h k j J I O z r L:gP}{p:(gP)->D->R D}{C m q:jU}
local macro_rules|`(tactic|walk_at "sc")=>`(tactic|exact⟨rfl,rfl,rfl,by decide+kernel,rfl,by decide+kernel,by decide+kernel⟩)
def uB:i3 ["one","other","rest"] ["one","other"] (hY xA):=by walk_at "sc"
def JB(T:Tx K o a)(F:iK K "common_divisor" "common_divisor" xA f M):
    je P w K o base 1 f M ["one","other"] (ip 2 K λd=>hU<|ti a<|hA 3 d):=
 lA F uB λg A c s H E i=>(iF (zT pB mY (jR Kn (gK 1) gS) (iF (jf 2 uB.nd rfl (Or.inl rfl) (gW jM (gK 0) (gK 1)))
  (iF (jf 0 uB.nd rfl (Or.inl rfl) (gK 1))
  (i9 (jf 1 uB.nd rfl (Or.inl rfl) (gK 2))))))
  (i9 (kj (gK 0))))
def OB:i3 ["thing"] ["thing"] (hY xD):=by walk_at "sc"
def JH(T:Tx K o a)(F:iK K "is_whole" "is_whole" xD f M):
    je P w K o base 1 f M ["thing"] (ip 1 K λd=>hU<|tm a<|hA 1 d):=
 lA F OB λg A c s H E i=>(i9<|kj<|Fu (lM (vD T.tI) rfl T.sD vy<|gM (gK 0)<|gM (vJ rfl T.yY ED (by decide)<|by decide) g9)<|FH<|FG<|lM (vD T.tI) rfl T.sD vy<|gM (gK 0)<|gM (vJ rfl T.yX EC (by decide)<|by decide) g9)
def xJ:i3 ["top","bottom","divisor"] ["top","bottom"] (hY xC):=by walk_at "sc"
def JF(T:Tx K o a)(F:iK K "fraction" "fraction" xC f M)
 (d:iP P w K o base 2 "is_whole" ["thing"]<|ip 1 K Q)
 (c:iP P w K o base 2 "common_divisor" ["one","other"]<|ip 2 K B):
   je P w K o base 3 f M ["top","bottom"] (ip 2 K λn=>hU<|tj a Q B<|hA 3 n):=
  lA F xJ λt A g s H E i=>(iF (oy (DW.dt (qN (vN (sP (i7 d i rfl iT rfl (gM (gK 0) g9)) (by intro _;rfl))) (qN (vN (sP (i7 d i rfl iT rfl (gM (gK 1) g9)) (by intro _;rfl))) (sR (jR ry (gK 1) gS))))) (i9 (FV PySem.F.excBase_ValueError T.Df.cls rfl T.zg (by decide))) oz)
   (iF (jf 2 xJ.nd rfl (Or.inl rfl) (i7 c i rfl iT rfl (gM (lM vC rfl T.sC vx (gM (gK 0) g9)) (gM (lM vC rfl T.sC vx (gM (gK 1) g9)) g9))))
   (iF (oy (jR ug (gK 1) gS) (i9 (jf 2 xJ.nd rfl (Or.inl rfl) (FI Qj (gK 2)))) oz)
   (i9 (kj (kZ (gM (gW jF (gK 0) (gK 2)) (gM (gW jF (gK 1) (gK 2)) g9))))))))
def OC:i3 ["one","other"] ["one","other"] (hY xE):=by walk_at "sc"
def JK(T:Tx K o a)(F:iK K "plus" "plus" xE f M)
 (c:iP P w K o base 3 "fraction" ["top","bottom"]<|ip 2 K e):
   je P w K o base 4 f M ["one","other"] (ip 2 K λi=>hU<|tq a e<|hA 2 i):=
  lA F OC λn A d s H E g=>(i9<|kj<|i7 c g rfl iT rfl<|gM (gW jY (gW jm (hF 0)<|hF 1)<|gW jm (hF 1)<|hF 0)<|gM (gW jm (hF 0)<|hF 1) g9)
def OD:i3 ["one","other"] ["one","other"] (hY uz):=by walk_at "sc"
def JP(T:Tx K o a)(F:iK K "under" "under" uz f M):
    je P w K o base 1 f M ["one","other"] (ip 2 K λd=>hU<|tr a<|hA 2 d):=
 lA F OD λg A c s H E i=>(i9<|kj<|zy ug (gW jm (hF 0)<|hF 1) (gW jm (hF 1)<|hF 0)<|by first|exact tW _|with_unfolding_all rfl)
def OE:i3 ["day"] ["day"] (hY xH):=by walk_at "sc"
def JQ(T:Tx K o a)(F:iK K "week_of" "week_of" xH f M):
    je P w K o base 1 f M ["day"] (ip 1 K λd=>hU<|As a<|hA 1 d):=
 lA F OE λg A c s H E i=>(i9<|kj<|gW jF (gK 0)<|FF rfl T.pK<|by decide)
def uD:i3 ["values","total","value"] ["values"] (hY xG):=by walk_at "sc"
def sy(a:Ad)(e O:gP):hX:=(iA 1<|dA O<|gI (dV 1)<|gI (dV 2) gL)
def qU(a:Ad)(e O:gP):hX:=(iu (iA 1 (dA e (gI (gJ 0) (gI (gJ 1) gL))))
    (iu (nT (λρ=>((dV 0) ρ).bind hJ) (gV 2) (sy a e O))
    (jy (dV 1))))
def JO(T:Tx K o a)(F:iK K "total_of" "total_of" xG f M)
 (c:iP P w K o base 4 "fraction" ["top","bottom"]<|ip 2 K e)
 (d:iP P w K o base 4 "plus" ["one","other"]<|ip 2 K O):
   je P w K o base 5 f M ["values"] (ip 1 K λn=>hU<|qU a e O<|hA 3 n):=
  lA F uD λt A g s H E i=>(iF (jf 1 uD.nd rfl (Or.inl rfl) (i7 c i rfl iT rfl (gM gS (gM gS g9))))
   (iF (sO mY rfl (jV (gK 0)) (jB 2 uD.nd rfl (Or.inl rfl)) (i9 (jf 1 uD.nd rfl (Or.inl rfl) (i7 d i rfl iT rfl (gM (gK 1) (gM (gK 2) g9))))) (by intro _;rfl))
   (i9 (kj (gK 1)))))
def uC:i3 ["values","comes_ahead","first","value"] ["values","comes_ahead"] (hY xB):=by walk_at "sc"
def oi(a:Ad)(e G:gP)(c:Addr):hX:=(mF (ly (b1 tB<|d2 k6 (dV 2)<|dC .non)<|b1 tT<|ox 1 c G<|gI (dV 3)<|gI (dV 2) gL) (iA 2<|dA e<|gI (gO 3 0)<|gI (gO 3 1) gL) mG)
def Ap(a:Ad)(e G:gP)(c:Addr):hX:=(iu (iA 2 (dC .non))
    (iu (nT (λρ=>((dV 0) ρ).bind hJ) (gV 3) (oi a e G c))
    (jy (dV 2))))
def JE{F0:(gP)->D->R D}(T:Tx K o a)(F:iK K "first_of" "first_of" xB f M)
 (g:iP P w K o base 3 "fraction" ["top","bottom"]<|ip 2 K e)(t:∀G c d,F0 G d=.bad\/hU (Ap a e G c<|hA 4 [d,.ref c])=F0 G d):
   je P w K o base 4 f M ["values","comes_ahead"] (rF P w K o base 3 2 F0):=
  Gn F uC rfl t λG c u A i s H E n v=>(iF (jf 2 uC.nd rfl (Or.inl rfl) mn)
   (iF (sO mY rfl (jV (gK 0)) (jB 3 uC.nd rfl (Or.inl rfl)) (i9 (oy (DW.dt (qN (jR wX (gK 2) mn) (sR (sP (FC 1 v rfl (gM (gK 3) (gM (gK 2) g9)) (by rfl) (by first|exact Or.inl rfl|exact Or.inr (Or.inl rfl)|exact Or.inr (Or.inr rfl)) (by decide) (by decide) (by rfl) (by rfl)) (by intro _;rfl))))) (i9 (jf 2 uC.nd rfl (Or.inl rfl) (i7 g n rfl iT rfl (gM (hF 3) (gM (hF 3) g9))))) oz)) (by intro _;rfl))
   (i9 (kj (gK 2)))))
def nV:i3 ["mast","number","group","stood","with_values","total","least","greatest","marked","filled"] ["mast","number","group"] (hY uy):=by walk_at "sc"
def qS(a:Ad)(z r:gP)(p:(gP)->D->R D):hX:=(iu (iA 3 (dA kR (gI (ig (iq (λρ=>((dV 2) ρ).bind hJ) 1 [] (gV 0) (λ_=>.ok true) (gO 0 2))) gL)))
    (iu (iA 4 (ig (iq (λρ=>((dV 2) ρ).bind hJ) 1 [] (gV 0) (b1 tB (d2 lR (gO 0 2) (gJ 0))) (dV 0))))
    (iu (iA 5 (dA z (gI (ig (iq (λρ=>((dV 4) ρ).bind hJ) 1 [] (gV 0) (λ_=>.ok true) (gO 0 3))) gL)))
    (iu (iA 6 (sJ p r (ig (iq (λρ=>((dV 4) ρ).bind hJ) 1 [] (gV 0) (λ_=>.ok true) (gO 0 4)))))
    (iu (iA 7 (sJ p (λc=>(dA r (gI (dV 1) (gI (dV 0) gL))) (hA 2 c)) (ig (iq (λρ=>((dV 4) ρ).bind hJ) 1 [] (gV 0) (λ_=>.ok true) (gO 0 5)))))
    (iu (iA 8 (dA kR (gI (ig (iq (λρ=>((dV 2) ρ).bind hJ) 1 [] (gV 0) (λ_=>.ok true) (gO 0 6))) gL)))
    (iu (iA 9 (dA kR (gI (ig (iq (λρ=>((dV 2) ρ).bind hJ) 1 [] (gV 0) (λ_=>.ok true) (gO 0 7))) gL)))
    (jy (dA iZ (gI (dV 0) (gI (dV 1) (gI (dV 3) (gI (dV 5) (gI (dV 6) (gI (dV 7) (gI (dV 8) (gI (dV 9) gL)))))))))))))))))
def JG(T:Tx K o a)(F:iK K "group_told" "group_told" uy f M)
 (y:BM o base)(hi:oH K "group_told" c0 P0=true)(v:M.code=.ref c0)
 (d:iP P w K o base 5 "total_of" ["values"]<|ip 1 K z)
 (t:iP P w K o base 5 "under" ["one","other"]<|ip 2 K r)
 (c:iP P w K o base 5 "first_of" ["values","comes_ahead"]<|rF P w K o base 3 2 p)
 (i:iP P w K o base 3 "under" ["one","other"]<|ip 2 K r)(g:iP P w K o base 2 "under" ["one","other"]<|ip 2 K r):
   je P w K o base 6 f M ["mast","number","group"] (ip 3 K λx=>hU<|qS a z r p<|hA 10 x):=
  Gp F v nV λA u s H E n=>(iF (jf 3 nV.nd rfl (Or.inl rfl) (lM (sH rfl) rfl T.qH sG (gM (DN.de (nD (Nt:=["one"]) (tn:=1) rfl (jV (gK 2)) (λ_ _ _ _=>(jB 0 (show List.Nodup (["one"]:List Str)from by decide+kernel) rfl (Or.inl rfl))) (by simp) (λ_ _ _ _=>lN) (λ_ _ _ _=>(hF 0)) (by decide+kernel) rfl (by decide+kernel) (by decide+kernel) rfl)) g9)))
   (iF (zS 4 nV.nd rfl (Or.inl rfl) (zN (Nt:=["one"]) (tn:=1) rfl (jV (gK 2)) (λ_ _ _ _=>(jB 0 (show List.Nodup (["one"]:List Str)from by decide+kernel) rfl (Or.inl rfl))) (by simp) (λ_ _ _ _=>zG (jR uf (hF 0) gS)) (λ_ _ _ _=>(gK 0)) (by decide+kernel) rfl (by decide+kernel) (by decide+kernel) rfl (by intro _;rfl)) (by rfl) (by first|exact .inl rfl|exact .inr rfl|assumption))
   (iF (jf 5 nV.nd rfl (Or.inl rfl) (i7 d n rfl iT rfl (gM (DN.de (nD (Nt:=["one"]) (tn:=1) rfl (jV (gK 4)) (λ_ _ _ _=>(jB 0 (show List.Nodup (["one"]:List Str)from by decide+kernel) rfl (Or.inl rfl))) (by simp) (λ_ _ _ _=>lN) (λ_ _ _ _=>(hF 0)) (by decide+kernel) rfl (by decide+kernel) (by decide+kernel) rfl)) g9)))
   (iF (jf 6 nV.nd rfl (Or.inl rfl) (Fv c i n rfl rfl T.zh iT (DN.de (nD (Nt:=["one"]) (tn:=1) rfl (jV (gK 4)) (λ_ _ _ _=>(jB 0 (show List.Nodup (["one"]:List Str)from by decide+kernel) rfl (Or.inl rfl))) (by simp) (λ_ _ _ _=>lN) (λ_ _ _ _=>(hF 0)) (by decide+kernel) rfl (by decide+kernel) (by decide+kernel) rfl)) (by decide) (by decide) (by rfl) (by rfl) (by rfl)))
   (iF (jf 7 nV.nd rfl (Or.inl rfl) (Fy (N:=(["one","other"]:List Str)) (py:=(["one","other"]:List Str)) (qual:="group_told.<locals>.<lambda>") (xd:="group_told") ⟨by rfl,by rfl,by rfl,by decide+kernel,by rfl,by decide+kernel,by decide+kernel⟩ (λ_ _ _ _ _ _ _ n=>(i7 g n rfl iT rfl (gM (gK 1) (gM (gK 0) g9)))) y hi rfl c n rfl iT (DN.de (nD (Nt:=["one"]) (tn:=1) rfl (jV (gK 4)) (λ_ _ _ _=>(jB 0 (show List.Nodup (["one"]:List Str)from by decide+kernel) rfl (Or.inl rfl))) (by simp) (λ_ _ _ _=>lN) (λ_ _ _ _=>(hF 0)) (by decide+kernel) rfl (by decide+kernel) (by decide+kernel) rfl))))
   (iF (jf 8 nV.nd rfl (Or.inl rfl) (lM (sH rfl) rfl T.qH sG (gM (DN.de (nD (Nt:=["one"]) (tn:=1) rfl (jV (gK 2)) (λ_ _ _ _=>(jB 0 (show List.Nodup (["one"]:List Str)from by decide+kernel) rfl (Or.inl rfl))) (by simp) (λ_ _ _ _=>lN) (λ_ _ _ _=>(hF 0)) (by decide+kernel) rfl (by decide+kernel) (by decide+kernel) rfl)) g9)))
   (iF (jf 9 nV.nd rfl (Or.inl rfl) (lM (sH rfl) rfl T.qH sG (gM (DN.de (nD (Nt:=["one"]) (tn:=1) rfl (jV (gK 2)) (λ_ _ _ _=>(jB 0 (show List.Nodup (["one"]:List Str)from by decide+kernel) rfl (Or.inl rfl))) (by simp) (λ_ _ _ _=>lN) (λ_ _ _ _=>(hF 0)) (by decide+kernel) rfl (by decide+kernel) (by decide+kernel) rfl)) g9)))
   (i9 (kj (kZ (gM (gK 0) (gM (gK 1) (gM (gK 3) (gM (gK 5) (gM (gK 6) (gM (gK 7) (gM (gK 8) (gM (gK 9) g9))))))))))))))))))
def xK:i3 ["some","groups","one"] ["some"] (hY xF):=by walk_at "sc"
def pA(a:Ad)(l:gP):iI:=(uM (uO (zV 1) (oX<|iU (zD<|gO 2 1)<|iU (zD<|gO 2 0) kc)<|qq<|λρ=>(gL ρ).bind km)<|zD<|dV 2)
def qT(a:Ad)(l:gP)(b:Nat):iI:=(il (iy 1 qr)
    (il (nY (λρ=>((dV 0) ρ).bind hJ) (hV 2) (pA a l))
    (nZ (n0 (oW (n3 (zV 1))) [1] mJ (qp l (iU (zD (gO 0 1)) (iU (zD (gO 0 0)) (iU (nh (zV 1) (zD (dV 0))) kc))))))))
def JL(T:Tx K o a)(F:iK K "put_together" "put_together" xF f M)
 (c:iP P w K o base 6 "group_told" ["mast","number","group"]<|ip 3 K l):
   je P w K o base 7 f M ["some"] (mI 1 K λn S=>jW<|qT a l S.length (j9 3 n) S):=
  sY F xK λb t A d s H E g=>(ji (jT 1 xK.nd rfl (Or.inr rfl) Dn)
   (ji (yw mY rfl (jV (gK 0)) (uR 2 xK.nd rfl (Or.inl rfl) (by first|exact .inl rfl|exact .inr rfl|assumption)) (mK (Q4 fH dN fg (QT g.units (qv 1) (Dq (lH (iJ (hF 2)) (lH (iJ (hF 2)) o4))) (Dr (qM g9)) ⟨rfl,rfl,rfl,rfl⟩) (iJ (gK 2)))) (by intro _;rfl))
   (mK (rV (Dl (x:="key") (y:="groups") 1 [(".0",.local),("key",.local),("group_told",.globalImplicit),("groups",.cell)] rfl (Du (Dp rfl rfl T.sE (qv 1) (by rfl) (by rfl))) (λ_ _ _ _=>(uj (i:=0) (show List.Nodup (["key","groups"]:List Str)from by decide+kernel) rfl (Or.inl rfl) (by first|exact .inl rfl|exact .inr rfl|assumption))) (λ_ _ _ _=>Ds) (λ_ _ _ _=>(QR c g rfl pX rfl (lH (iJ (hF 0)) (lH (iJ (hF 0)) (lH (Dm g.units (qv 1) (iJ (gK 0)) (by exact λ_ _=>rfl)) o4))) (by decide) (by rfl) (by rfl))) rfl (by decide+kernel) (by decide+kernel) rfl rfl rfl rfl rfl (by decide+kernel) (by decide+kernel) (by intro _;rfl))))))
def OF:i3 ["some"] ["some"] (hY xI):=by walk_at "sc"
def qV(a:Ad)(L:gP)(m:jU)(b:Nat):iI:=(nZ<|zZ m<|iU (zD<|ig<|iq (λρ=>((dV 0) ρ).bind hJ) 1 [] (gV 0) (λ_=>.ok true)<|d2 nA (dA iZ<|gI (gO 0 0)<|gI (dA L<|gI (gO 0 1) gL) gL)<|nC mH (dV 0) (λρ=>((gJ 2) ρ).bind pI)<|λ_=>.ok none) kc)
def JR(T:Tx K o a)(F:iK K "weeks" "weeks" xI f M)
 (d:iP P w K o base 7 "week_of" ["day"]<|ip 1 K L)
 (c:iP P w K o base 7 "put_together" ["some"]<|mI 1 K m):
   je P w K o base 8 f M ["some"] (mI 1 K λn S=>jW<|qV a L m S.length (j9 1 n) S):=
  sY F OF λb t A g s H E i=>(mK<|rV<|uQ c i rfl iT rfl (lH (iJ<|DN.de<|nD (Nt:=["one"]) (tn:=1) rfl (jV<|gK 0) (λ_ _ _ _=>(jB 0 (show List.Nodup (["one"]:List Str)from by decide+kernel) rfl<|Or.inl rfl)) (by simp) (λ_ _ _ _=>lN) (λ_ _ _ _=>(gW wW (kZ<|gM (hF 0)<|gM (i7 d i rfl pX rfl<|gM (hF 0) g9) g9)<|zz CA (gK 0) (vM gS) FR)) (by decide+kernel) rfl (by decide+kernel) (by decide+kernel) rfl) o4) (by decide) (by rfl)<|by rfl)
def OH:i3 rm rm (hY xQ):=by walk_at "sc"
def JS(T:Tx K o a)(F:iK K "_law_cell_at" "_law_cell_at" xQ f M):
    je P w K o base 1 f M rm (ip 2 K λd=>hU<|tw a<|hA 2 d):=
 lA F OH λg A c s H E i=>(iF (oy (jR ug (gK 1) (lM EM rfl T.yZ EE (gM (gK 0) g9))) (i9 (kj (kB kF (gK 0) (gK 1)))) oz)
  (i9 (kj gS)))
def Cu:i3 ["_law_cell","_law_k","_law_some"] pR (hY xT):=by walk_at "sc"
def JV(T:Tx K o a)(F:iK K "_law_mixed" "_law_mixed" xT f M):
    je P w K o base 1 f M pR (ip 2 K λd=>hU<|tA a<|hA 3 d):=
 lA F Cu λg A c s H E i=>(iF (jf 2 Cu.nd rfl (Or.inl rfl) (gW jM (gK 0) gS))
  (i9 (kj (gW jM (gW jm (gW jm (gW jY (gW jY (gK 2) (gW jm gS (gK 1))) gS) gS) (gW jY (gW jY (gK 2) (gW jm gS (gK 1))) gS)) gS))))
def xN:i3 ["_law_top","_law_bottom","_law_one","_law_other"] tM (hY xS):=by walk_at "sc"
def JU(T:Tx K o a)(F:iK K "_law_low" "_law_low" xS f M):
    je P w K o base 1 f M tM (ip 2 K λd=>hU<|tx a<|hA 4 d):=
 lA F xN λg A c s H E i=>(iF (zQ 2 3 rfl xN.nd rfl rfl (by decide) rfl rfl (gM (lM vC rfl T.sC vx (gM (gK 0) g9)) (gM (gK 1) g9)) (by rfl) (by rfl))
  (iF (zT pB mY (jR uf (gK 3) gS) (i9 (zQ 2 3 rfl xN.nd rfl rfl (by decide) rfl rfl (gM (gK 3) (gM (gW jM (gK 2) (gK 3)) g9)) (by rfl) (by rfl))))
  (i9 (kj (kZ (gM (gW jF (gK 0) (gK 2)) (gM (gW jF (gK 1) (gK 2)) g9)))))))
def oN:i3 ["_law_cell","_law_k","_law_letters","_law_stride","_law_pair","_law_more","_law_j"] pR (hY xV):=by walk_at "sc"
def JX(T:Tx K o a)(F:iK K "_law_word" "_law_word" xV f M):
    je P w K o base 1 f M pR (ip 2 K λd=>hU<|qY a<|hA 7 d):=
 lA F oN λg A c s H E i=>(iF (jf 2 oN.nd rfl (Or.inl rfl) sM)
  (iF (jf 3 oN.nd rfl (Or.inl rfl) (kB kF (DN.de (qM (gM gS (gM gS (gM gS (gM gS (gM gS (gM gS (gM gS (gM gS (gM gS (gM gS (gM gS (gM gS g9)))))))))))))) (gW jM (gW jF (gK 0) gS) gS)))
  (iF (jf 4 oN.nd rfl (Or.inl rfl) (gW jY (kB kF (gK 2) (gW jM (gW jY (gK 0) (gW jm (gK 1) (gK 3))) gS)) (kB kF sM (gW jM (gW jF (gK 1) gS) gS))))
  (iF (jf 5 oN.nd rfl (Or.inl rfl) sM)
  (iF (sO mY rfl (zJ rfl T.vo (gM (gW jM (gW jF (gK 0) gS) gS) g9) (by rfl)) (jB 6 oN.nd rfl (Or.inl rfl)) (i9 (jf 5 oN.nd rfl (Or.inl rfl) (gW jY (gK 5) (kB kF sM (gW jM (gW jF (gK 0) (gW jY gS (gK 6))) gS))))) (by intro _;rfl))
  (iF (oy (jR ry (gW jM (gW jF (gK 0) gS) gS) gS) (i9 (kj (gW jY (gK 5) (gK 4)))) oz)
  (i9 (kj (gW jY (gK 4) (gK 5))))))))))
def kq:i3 ["_law_script","_law_words","_law_first","_law_some","_law_cell","_law_word_here","_law_day","_law_stood","_law_least","_law_greatest","_law_total","_law_more","_law_marked"] wF (hY xR):=by walk_at "sc"
def oj(a:Ad)(h j k:gP):iI:=(il (iy 5 (zD (d2 hK (dV 1) (d2 ir (d2 ib (dA j (gI (dV 4) (gI (gJ 1) gL))) (gJ 5)) (gJ 3)))))
    (il (iy 6 (zD (d2 ik (dV 2) (d2 ir (d2 ib (dA j (gI (dV 4) (gI (gJ 2) gL))) (gJ 5)) (gJ 30)))))
    (il (iy 7 (zD (d2 ir (d2 ib (dA j (gI (dV 4) (gI (gJ 3) gL))) (gJ 5)) (gJ 3))))
    (il (iy 8 (zD (dC .non)))
    (il (iy 9 (zD (dC .non)))
    (il (iy 10 (zD (dA iZ (gI (gJ 0) (gI (gJ 1) gL)))))
    (il (ma (zB (b1 tB (d2 lR (dV 7) (gJ 0)))) (il (iy 8 (zD (dA k (gI (d2 nX (d2 ir (d2 ib (dA j (gI (dV 4) (gI (gJ 4) gL))) (gJ 5)) (gJ 11)) (gJ 5)) (gI (d2 ik (gJ 1) (d2 ir (d2 ib (dA j (gI (dV 4) (gI (gJ 5) gL))) (gJ 5)) (gJ 2))) gL)))))
    (il (iy 11 (zD (dA k (gI (d2 hD (d2 ir (d2 ib (dA j (gI (dV 4) (gI (gJ 6) gL))) (gJ 5)) (gJ 9)) (d2 nX (dV 7) (gJ 1))) (gI (d2 ik (gJ 1) (d2 ir (d2 ib (dA j (gI (dV 4) (gI (gJ 7) gL))) (gJ 5)) (gJ 3))) gL)))))
    (il (iy 9 (zD (dA k (gI (d2 ik (d2 hD (gO 8 0) (gO 11 1)) (d2 hD (gO 11 0) (gO 8 1))) (gI (d2 hD (gO 8 1) (gO 11 1)) gL)))))
    (il (iy 10 (zD (dV 8)))
    (ma (zB (b1 tB (d2 j5 (dV 7) (gJ 2)))) (iy 10 (zD (dA k (gI (d2 ik (d2 hD (gO 8 0) (gO 9 1)) (d2 hD (gO 9 0) (gO 8 1))) (gI (d2 hD (gO 8 1) (gO 9 1)) gL))))) oV))))) oV)
    (il (iy 12 (zD (d2 ir (d2 ib (dA j (gI (dV 4) (gI (gJ 8) gL))) (gJ 5)) (gJ 3))))
    (rS (zV 3) (oX (iU (zD (dV 6)) (iU (zD (dV 5)) kc))) (zD (dA iZ (gI (dV 7) (gI (dV 10) (gI (dV 8) (gI (dV 9) (gI (dV 12) (gI (d2 ik (gJ 1) (d2 ir (d2 ib (dA j (gI (dV 4) (gI (gJ 9) gL))) (gJ 5)) (gJ 4))) gL)))))))))))))))))
def qW(a:Ad)(h j k:gP)(b:Nat):iI:=(il (iy 2 (zD (d2 ir (dA h (gI (dV 0) (gI (gJ 1) gL))) (gJ 694000))))
    (il (iy 3 qr)
    (il (nY (λρ=>((nC mH (dV 0) (λρ=>((gJ 2) ρ).bind pI) (λρ=>((gJ 42) ρ).bind pI)) ρ).bind hJ) (hV 4) (oj a h j k))
    (nZ (n0 (oW (n3 (zV 3))) [3] mJ (z2 nA (zD (dA iZ (gI (gO 0 1) (gI (gO 0 0) gL)))) (nh (zV 1) (zD (dV 0)))))))))
def JT(T:Tx K o a)(F:iK K "_law_days" "_law_days" xR f M)
 (g:iP P w K o base 1 "_law_cell_at" rm<|ip 2 K h)
 (c:iP P w K o base 1 "_law_mixed" pR<|ip 2 K j)
 (d:iP P w K o base 1 "_law_low" tM<|ip 2 K k):
   je P w K o base 2 f M wF (mI 2 K λu S=>jW<|qW a h j k S.length (j9 13 u) S):=
  sY F kq λb v A t s H E n=>(ji (jT 2 kq.nd rfl (Or.inl rfl) (iJ (gW jM (i7 g n rfl iT rfl (gM (gK 0) (gM gS g9))) gS)))
   (ji (jT 3 kq.nd rfl (Or.inr rfl) Dn)
   (ji (yw mY rfl (jV (zz CA (gK 0) (vM gS) (vM gS))) (uR 4 kq.nd rfl (Or.inl rfl) (by first|exact .inl rfl|exact .inr rfl|assumption)) (ji (jT 5 kq.nd rfl (Or.inl rfl) (iJ (kB kF (gK 1) (gW jM (gW jF (i7 c n rfl iT rfl (gM (gK 4) (gM gS g9))) gS) gS))))
   (ji (jT 6 kq.nd rfl (Or.inl rfl) (iJ (gW jY (gK 2) (gW jM (gW jF (i7 c n rfl iT rfl (gM (gK 4) (gM gS g9))) gS) gS))))
   (ji (jT 7 kq.nd rfl (Or.inl rfl) (iJ (gW jM (gW jF (i7 c n rfl iT rfl (gM (gK 4) (gM gS g9))) gS) gS)))
   (ji (jT 8 kq.nd rfl (Or.inl rfl) (iJ mn))
   (ji (jT 9 kq.nd rfl (Or.inl rfl) (iJ mn))
   (ji (jT 10 kq.nd rfl (Or.inl rfl) (iJ (kZ (gM gS (gM gS g9)))))
   (ji (yx (uT (jR uf (gK 7) gS)) (ji (jT 8 kq.nd rfl (Or.inl rfl) (iJ (i7 d n rfl iT rfl (gM (gW Bu (gW jM (gW jF (i7 c n rfl iT rfl (gM (gK 4) (gM gS g9))) gS) gS) gS) (gM (gW jY gS (gW jM (gW jF (i7 c n rfl iT rfl (gM (gK 4) (gM gS g9))) gS) gS)) g9)))))
   (ji (jT 11 kq.nd rfl (Or.inl rfl) (iJ (i7 d n rfl iT rfl (gM (gW jm (gW jM (gW jF (i7 c n rfl iT rfl (gM (gK 4) (gM gS g9))) gS) gS) (gW Bu (gK 7) gS)) (gM (gW jY gS (gW jM (gW jF (i7 c n rfl iT rfl (gM (gK 4) (gM gS g9))) gS) gS)) g9)))))
   (ji (jT 9 kq.nd rfl (Or.inl rfl) (iJ (i7 d n rfl iT rfl (gM (gW jY (gW jm (hF 8) (hF 11)) (gW jm (hF 11) (hF 8))) (gM (gW jm (hF 8) (hF 11)) g9)))))
   (ji (jT 10 kq.nd rfl (Or.inl rfl) (iJ (gK 8)))
   (mK (yx (uT (jR ry (gK 7) gS)) (mK (jT 10 kq.nd rfl (Or.inl rfl) (iJ (i7 d n rfl iT rfl (gM (gW jY (gW jm (hF 8) (hF 9)) (gW jm (hF 9) (hF 8))) (gM (gW jm (hF 8) (hF 9)) g9)))))) yy)))))) yy)
   (ji (jT 12 kq.nd rfl (Or.inl rfl) (iJ (gW jM (gW jF (i7 c n rfl iT rfl (gM (gK 4) (gM gS g9))) gS) gS)))
   (mK (Q6 n.units (qv 3) (Dq (lH (iJ (gK 6)) (lH (iJ (gK 5)) o4))) (iJ (kZ (gM (gK 7) (gM (gK 10) (gM (gK 8) (gM (gK 9) (gM (gK 12) (gM (gW jY gS (gW jM (gW jF (i7 c n rfl iT rfl (gM (gK 4) (gM gS g9))) gS) gS)) g9)))))))) (by rfl))))))))))) (by intro _;rfl))
   (mK (rV (Dl (x:="_law_key") (y:="_law_some") 3 [(".0",.local),("_law_key",.local),("_law_some",.cell)] rfl (Du (Dp rfl rfl T.sE (qv 3) (by rfl) (by rfl))) (λ_ _ _ _=>(uj (i:=0) (show List.Nodup (["_law_key","_law_some"]:List Str)from by decide+kernel) rfl (Or.inl rfl) (by first|exact .inl rfl|exact .inr rfl|assumption))) (λ_ _ _ _=>Ds) (λ_ _ _ _=>(QU wW (iJ (kZ (gM (hF 0) (gM (hF 0) g9)))) (Dm n.units (qv 1) (iJ (gK 0)) (by exact λ_ _=>rfl)))) rfl (by decide+kernel) (by decide+kernel) rfl rfl rfl rfl rfl (by decide+kernel) (by decide+kernel) (by intro _;rfl)))))))
def l3:i3 ["_law_days_of","_law_top","_law_bottom","_law_least","_law_greatest","_law_one","_law_counts"] ["_law_days_of"] (hY xU):=by walk_at "sc"
def om(a:Ad)(k:gP):hX:=(iu (qb (dA k (gI (d2 ik (d2 hD (dV 1) (d2 hK (gO 5 3) (gJ 1))) (d2 hD (d2 hK (gO 5 3) (gJ 0)) (dV 2))) (gI (d2 hD (dV 2) (d2 hK (gO 5 3) (gJ 1))) gL))) (gT 2 (gC (gV 1) (gC (gV 2) gN))))
    (iu (mF (lL (b1 tB (d2 nE (gO 5 4) (dC .non))) (ly (b1 tB (d2 k6 (dV 3) (dC .non))) (b1 tB (d2 nL (d2 hD (d2 hK (gO 5 4) (gJ 0)) (gO 3 1)) (d2 hD (gO 3 0) (d2 hK (gO 5 4) (gJ 1))))))) (iA 3 (gO 5 4)) mG)
    (mF (lL (b1 tB (d2 nE (gO 5 5) (dC .non))) (ly (b1 tB (d2 k6 (dV 4) (dC .non))) (b1 tB (d2 lR (d2 hD (d2 hK (gO 5 5) (gJ 0)) (gO 4 1)) (d2 hD (gO 4 0) (d2 hK (gO 5 5) (gJ 1))))))) (iA 4 (gO 5 5)) mG)))
def qX(a:Ad)(k:gP):hX:=(iu (qb (dA iZ (gI (gJ 0) (gI (gJ 1) gL))) (gT 2 (gC (gV 1) (gC (gV 2) gN))))
    (iu (iA 3 (dC .non))
    (iu (iA 4 (dC .non))
    (iu (nT (λρ=>((dV 0) ρ).bind hJ) (gV 5) (om a k))
    (iu (iA 6 (ig (iq (λρ=>((dA iZ (gI (gJ 2) (gI (gJ 6) (gI (gJ 7) gL)))) ρ).bind hJ) 1 [0] (gV 0) (λ_=>.ok true) (dA kR (gI (ig (iq (λρ=>((dV 1) ρ).bind hJ) 1 [0] (gV 0) (λ_=>.ok true) (d2 hK (dV 0) (dV 1)))) gL)))))
    (jy (dA iZ (gI (gO 6 0) (gI (dA iZ (gI (dV 1) (gI (dV 2) gL))) (gI (dV 3) (gI (dV 4) (gI (gO 6 1) (gI (gO 6 2) gL)))))))))))))
def JW(T:Tx K o a)(F:iK K "_law_week" "_law_week" xU f M)
 (c:iP P w K o base 1 "_law_low" tM<|ip 2 K k):
   je P w K o base 2 f M ["_law_days_of"] (ip 1 K λi=>hU<|qX a k<|hA 7 i):=
  lA F l3 λn A d s H E g=>(iF (zP (kZ (gM gS (gM gS g9))) (zH rfl (sN (jB 1 l3.nd rfl (Or.inl rfl)) (sN (jB 2 l3.nd rfl (Or.inl rfl)) zI (by rfl)) (by rfl)) (by rfl) (by rfl)) (by rfl) (by rfl) (by rfl))
   (iF (jf 3 l3.nd rfl (Or.inl rfl) mn)
   (iF (jf 4 l3.nd rfl (Or.inl rfl) mn)
   (iF (sO mY rfl (jV (gK 0)) (jB 5 l3.nd rfl (Or.inl rfl)) (iF (zP (i7 c g rfl iT rfl (gM (gW jY (gW jm (gK 1) (kB kF (hF 5) gS)) (gW jm (kB kF (hF 5) gS) (gK 2))) (gM (gW jm (gK 2) (kB kF (hF 5) gS)) g9))) (zH rfl (sN (jB 1 l3.nd rfl (Or.inl rfl)) (sN (jB 2 l3.nd rfl (Or.inl rfl)) zI (by rfl)) (by rfl)) (by rfl) (by rfl)) (by rfl) (by rfl) (by rfl))
   (iF (oy (DW.dt (vQ (jR Bs (hF 5) mn) (vR (DW.dt (qN (jR wX (gK 3) mn) (sR (jR ug (gW jm (kB kF (hF 5) gS) (hF 3)) (gW jm (hF 3) (kB kF (hF 5) gS))))))))) (i9 (jf 3 l3.nd rfl (Or.inl rfl) (hF 5))) oz)
   (i9 (oy (DW.dt (vQ (jR Bs (hF 5) mn) (vR (DW.dt (qN (jR wX (gK 4) mn) (sR (jR uf (gW jm (kB kF (hF 5) gS) (hF 4)) (gW jm (hF 4) (kB kF (hF 5) gS))))))))) (i9 (jf 4 l3.nd rfl (Or.inl rfl) (hF 5))) oz)))) (by intro _;rfl))
   (iF (zS 6 l3.nd rfl (Or.inl rfl) (FQ (Nt:=["_law_k"]) (tn:=1) (y:="_law_k") (x:="_law_days_of") 0 [(".0",.local),("_law_k",.cell),("sum",.globalImplicit),("_law_days_of",.cell)] (by decide) rfl (jV (kZ (gM gS (gM gS (gM gS g9))))) (λ_ _ _ _=>(jB 0 (show List.Nodup (["_law_k","_law_days_of"]:List Str)from by decide+kernel) rfl (Or.inr rfl) (.inl Gm))) (by simp) (λ_ _ _ _=>lN) (λ_ _ _ _=>(lM (sH rfl) rfl T.qH sG (gM (DN.de (FL (Nt:=["_law_one"]) (tn:=1) (x:="_law_k") 0 [(".0",.local),("_law_one",.local),("_law_k",.cell)] rfl (jV (gK 1)) (λ_ _ _ _=>(jB 0 (show List.Nodup (["_law_one","_law_k"]:List Str)from by decide+kernel) rfl (Or.inl rfl))) (by simp) (λ_ _ _ _=>lN) (λ_ _ _ _=>(kB kF (gK 0) (gK 1))) rfl (by decide+kernel) (by decide+kernel) rfl rfl rfl rfl rfl rfl (by decide+kernel) (by decide+kernel) (by intro _;rfl))) g9))) rfl (λ_ _=>rfl) (λ_=>rfl) (by decide+kernel) rfl rfl rfl rfl rfl rfl (by decide+kernel) (by decide+kernel) (by intro _;rfl)) (by rfl) (by first|exact .inl rfl|exact .inr rfl|assumption))
   (i9 (kj (kZ (gM (hF 6) (gM (kZ (gM (gK 1) (gM (gK 2) g9))) (gM (gK 3) (gM (gK 4) (gM (hF 6) (gM (hF 6) g9))))))))))))))
def m6:i3 ["_law_script","_law_words","_law_some","_law_handed","_law_found","_law_due","_law_week_here","_law_word_here","_law_here"] ["_law_script"] (hY oM):=by walk_at "sc"
def mR(a:Ad)(h I J:gP)(C q:jU):iI:=(il (iy 8 (zD (ig (iq (λρ=>((dV 2) ρ).bind hJ) 1 [6,7] (gV 0) (lL (b1 tB (d2 j5 (gO 0 0) (dV 2))) (b1 tB (d2 j5 (d2 ib (gO 0 1) (gJ 7)) (dV 1)))) (dV 0)))))
    (rR 5 (zD (d2 nA (dA iZ (gI (dV 7) (gI (dV 6) gL))) (dA J (gI (dV 8) gL))))))
def tp(a:Ad)(h I J:gP)(C q:jU)(b:Nat):iI:=(il (iy 1 (zD (ig (iq (λρ=>((gI (gJ 3) gL) ρ).bind nS) 1 [0] (gV 0) (λ_=>.ok true) (dA I (gI (dA h (gI (dV 1) (gI (gJ 0) gL))) (gI (dV 0) gL)))))))
    (il (iy 2 (n6 (zZ C (iU (zD (dV 0)) (iU (zD (dV 1)) kc)))))
    (il (iy 3 (zD (dA wC (gI (dV 2) gL))))
    (il (iy 4 (n6 (zZ q (iU (zD (dV 3)) kc))))
    (il (ma (oY (zB (b1 tB (d2 lY (dV 3) (dV 2)))) (oY (zB (oo (b1 tT (dA (lB a.nF) (gI (dV 4) (gI (dC (.ty "list")) gL)))))) (rT tB (z2 lY (n6 (zZ q (iU (zD (ig (λρ=>(gL ρ).bind km))) kc))) (zD (ig (λρ=>(gL ρ).bind km))))))) (nZ (zD (dC (.bl false)))) oV)
    (il (iy 5 (qq (λρ=>(gL ρ).bind km)))
    (il (nY (λρ=>((ig (λρ=>((ig (iq (λρ=>((dV 2) ρ).bind hJ) 1 [] (gV 0) (λ_=>.ok true) (dA iZ (gI (d2 ib (gO 0 1) (gJ 7)) (gI (gO 0 0) gL))))) ρ).bind oQ)) ρ).bind hJ) (hT 2 (hC (hV 6) (hC (hV 7) P2.hN))) (mR a h I J C q))
    (nZ (zR (d2 qO (dV 4) (dV 5)))))))))))
def JI(T:Tx K o a)(F:iK K "law" "law" oM f M)
 (c:iP P w K o base 8 "_law_cell_at" rm<|ip 2 K h)
 (g:iP P w K o base 8 "_law_word" pR<|ip 2 K I)
 (i:iP P w K o base 8 "_law_week" ["_law_days_of"]<|ip 1 K J)
 (n:iP P w K o base 8 "_law_days" wF<|mI 2 K C)
 (d:iP P w K o base 8 "weeks" ["some"]<|mI 1 K q):
   je P w K o base 9 f M ["_law_script"] (mI 1 K λv S=>jW<|tp a h I J C q S.length (j9 9 v) S):=
  sY F m6 λb G A u s H E t=>(ji (Dv 1 m6.nd rfl (Or.inl rfl) (zO (Nt:=["_law_k"]) (tn:=1) (x:="_law_script") 0 [(".0",.local),("_law_k",.local),("_law_word",.globalImplicit),("_law_cell_at",.globalImplicit),("_law_script",.cell)] rfl (zJ rfl T.vo (gM gS g9) (by rfl)) (λ_ _ _ _=>(jB 0 (show List.Nodup (["_law_k","_law_script"]:List Str)from by decide+kernel) rfl (Or.inl rfl))) (by simp) (λ_ _ _ _=>lN) (λ_ _ _ _=>(i7 g t rfl pX rfl (gM (i7 c t rfl pX rfl (gM (gK 1) (gM gS g9))) (gM (gK 0) g9)))) rfl (by decide+kernel) (by decide+kernel) rfl rfl rfl rfl rfl rfl (by decide+kernel) (by decide+kernel) (by intro _;rfl)) (by rfl) (by first|exact .inl rfl|exact .inr rfl|assumption))
   (ji (jT 2 m6.nd rfl (Or.inl rfl) (yv (uQ n t rfl iT rfl (lH (iJ (gK 0)) (lH (iJ (gK 1)) o4)) (by decide) (by rfl) (by rfl))))
   (ji (jT 3 m6.nd rfl (Or.inl rfl) (iJ (FD ER rfl T.vn ze (gM (gK 2) g9) (by decide) (by decide) (by rfl) (by rfl))))
   (ji (jT 4 m6.nd rfl (Or.inl rfl) (yv (uQ d t rfl iT rfl (lH (iJ (gK 3)) o4) (by decide) (by rfl) (by rfl))))
   (ji (yx (ZW.zt (Dw (uT (jR (Bt t.units) (gK 3) (gK 2))) (Dw (uT (vN (sP (lM (vD T.tI) rfl T.sD vy (gM (gK 4) (gM (vJ rfl T.vn ze (by decide) (by decide)) g9))) (by intro _;rfl)))) (Q8 (Q7 (Bt t.units) (yv (uQ d t rfl iT rfl (lH (iJ (DN.de (qM g9))) o4) (by decide) (by rfl) (by rfl))) (iJ (DN.de (qM g9))) (by first|exact tW _|with_unfolding_all rfl)))))) (mK (rV (iJ FA))) yy)
   (ji (jT 5 m6.nd rfl (Or.inl rfl) (Dr (qM g9)))
   (ji (yw mY rfl (jV (DN.de (FN rfl t.units rfl T.sE rfl T.y6 (DN.de (nD (Nt:=["_law_one"]) (tn:=1) rfl (jV (gK 2)) (λ_ _ _ _=>(jB 0 (show List.Nodup (["_law_one"]:List Str)from by decide+kernel) rfl (Or.inl rfl))) (by simp) (λ_ _ _ _=>lN) (λ_ _ _ _=>(kZ (gM (gW jF (hF 0) gS) (gM (hF 0) g9)))) (by decide+kernel) rfl (by decide+kernel) (by decide+kernel) rfl)) (by rfl) (by rfl) (by rfl) (by rfl)))) (QY rfl (Dt (uR 6 m6.nd rfl (Or.inr rfl) (by first|exact .inl rfl|exact .inr rfl|assumption)) (Dt (uR 7 m6.nd rfl (Or.inr rfl) (by first|exact .inl rfl|exact .inr rfl|assumption)) QZ (by rfl)) (by rfl)) (by rfl) (by rfl)) (ji (Dv 8 m6.nd rfl (Or.inl rfl) (FO (Nt:=["_law_one"]) (tn:=1) (x:="_law_week_here") (y:="_law_word_here") 6 7 [(".0",.local),("_law_one",.local),("_law_week_here",.cell),("_law_word_here",.cell)] (by decide) rfl (jV (gK 2)) (λ_ _ _ _=>(jB 0 (show List.Nodup (["_law_one","_law_week_here","_law_word_here"]:List Str)from by decide+kernel) rfl (Or.inl rfl))) (by simp) (λ_ _ _ _=>zG (DW.dt (vQ (jR ry (hF 0) (gK 2)) (vR (jR ry (gW jF (hF 0) gS) (gK 1)))))) (λ_ _ _ _=>(gK 0)) rfl (by decide+kernel) (by decide+kernel) rfl rfl rfl rfl rfl rfl rfl rfl rfl (by decide+kernel) (by decide+kernel) (by intro _;rfl)) (by rfl) (by first|exact .inl rfl|exact .inr rfl|assumption))
   (mK (Q5 5 fH dN fg (iJ (gW wW (kZ (gM (gK 7) (gM (gK 6) g9))) (i7 i t rfl iT rfl (gM (gK 8) g9))))))) (by intro _;rfl))
   (mK (rV (QV (zy (Kb t.units) (gK 4) (gK 5) (by first|exact tW _|with_unfolding_all rfl))))))))))))
end
end og
namespace P2
open PySem
mutual
def jw:D->Bool
 |.non=>true
 |.int _=>true
 |.str z=>PyData.strOk z
 |.tup ds=>j7 ds
 |.lst ds=>j7 ds
 |_=>false
def j7:List D->Bool
 |[]=>true
 |d::r=>jw d&&j7 r
end
mutual
def jL:D->Nat
 |.tup ds=>mT ds+1
 |.lst ds=>mT ds+1
 |_=>0
def mT:List D->Nat
 |[]=>0
 |d::r=>max (jL d) (mT r)
end
mutual
theorem xl:∀{d},jw d=true->∃p,kI d=some p/\PyData.canLay0 p=true/\p.depth<=jL d
 |.non,_=>⟨.none,rfl,by simp[PyData.canLay0],by simp[PyData.depth]⟩
 |.int i,_=>⟨.int i,rfl,by simp[PyData.canLay0],by simp[PyData.depth]⟩
 |.str z,h=>⟨.str z,rfl,by have g:PyData.strOk z=true:=h;simpa [PyData.canLay0]using g,by simp[PyData.depth]⟩
 |.tup ds,h=>by obtain⟨a,f,c,j⟩:=xm (show j7 ds=true from h);exact⟨.tuple a,by show(jN ds).map PyData.tuple=_;rw[f];rfl,by simpa [PyData.canLay0]using c,by simp only[PyData.depth,jL];omega⟩
 |.lst ds,h=>by obtain⟨a,f,c,j⟩:=xm (show j7 ds=true from h);exact⟨.list a,by show(jN ds).map PyData.list=_;rw[f];rfl,by simpa [PyData.canLay0]using c,by simp only[PyData.depth,jL];omega⟩
 |.bl _,h=>by cases h
 |.ty _,h=>by cases h
 |.ref _,h=>by cases h
 |.exc _ _ _,h=>by cases h
theorem xm:∀{f},j7 f=true->∃a,jN f=some a/\PyData.canLayAll0 a=true/\PyData.depthAll a<=mT f
 |[],_=>⟨[],rfl,by simp[PyData.canLayAll0],by simp[PyData.depthAll]⟩
 |d::r,h=>by
  have c:(jw d&&j7 r)=true:=h;rw[aN]at c;obtain⟨p,k,j,m⟩:=xl c.1;obtain⟨a,i,g,l⟩:=xm c.2;refine⟨p::a,?_,?_,?_⟩
  ·show(kI d).bind (λp=>(jN r).map (p:: ·))=_;rw[k,i];rfl
  ·simp[PyData.canLayAll0,j,g]
  ·simp only[PyData.depthAll,mT];omega
end
def p5(h:kI (.tup ds)=some p):∃a,p=.tuple a/\jN ds=some a:=by obtain⟨a,d,c⟩:=aj.mp (show(jN ds).map PyData.tuple=some p from h);exact⟨a,c.symm,d⟩
def p0(h:kI (.lst ds)=some p):∃a,p=.list a/\jN ds=some a:=by obtain⟨a,d,c⟩:=aj.mp (show(jN ds).map PyData.list=some p from h);exact⟨a,c.symm,d⟩
mutual
theorem z7:∀{a b} {p q},jw a=true->jw b=true->kI a=some p->kI b=some q->(PyData.eqv p q=true↔a=b)
 |a,b,p,q,h,d,f,eq=>by
  cases a with
  |non=>
   cases f;cases b with
   |non=>cases eq;simp[PyData.eqv]
   |int i=>cases eq;simp[PyData.eqv]
   |str i=>cases eq;simp[PyData.eqv]
   |tup r=>obtain⟨c,rfl,_⟩:=p5 eq;simp[PyData.eqv]
   |lst r=>obtain⟨c,rfl,_⟩:=p0 eq;simp[PyData.eqv]
   |_=>cases d
  |int i=>
   cases f;cases b with
   |non=>cases eq;simp[PyData.eqv]
   |int i=>cases eq;simp[PyData.eqv]
   |str i=>cases eq;simp[PyData.eqv]
   |tup r=>obtain⟨c,rfl,_⟩:=p5 eq;simp[PyData.eqv]
   |lst r=>obtain⟨c,rfl,_⟩:=p0 eq;simp[PyData.eqv]
   |_=>cases d
  |str i=>
   cases f;cases b with
   |non=>cases eq;simp[PyData.eqv]
   |int i=>cases eq;simp[PyData.eqv]
   |str i=>cases eq;simp[PyData.eqv]
   |tup r=>obtain⟨c,rfl,_⟩:=p5 eq;simp[PyData.eqv]
   |lst r=>obtain⟨c,rfl,_⟩:=p0 eq;simp[PyData.eqv]
   |_=>cases d
  |tup l=>
   obtain⟨c,rfl,k⟩:=p5 f;cases b with
   |non=>cases eq;simp[PyData.eqv]
   |int i=>cases eq;simp[PyData.eqv]
   |str i=>cases eq;simp[PyData.eqv]
   |tup r=>obtain⟨g,rfl,j⟩:=p5 eq;have:=vU (show j7 l=true from h) (show j7 r=true from d) k j;simp only[PyData.eqv,this,D.tup.injEq]
   |lst r=>obtain⟨g,rfl,_⟩:=p0 eq;simp[PyData.eqv]
   |_=>cases d
  |lst l=>
   obtain⟨c,rfl,k⟩:=p0 f;cases b with
   |non=>cases eq;simp[PyData.eqv]
   |int i=>cases eq;simp[PyData.eqv]
   |str i=>cases eq;simp[PyData.eqv]
   |tup r=>obtain⟨g,rfl,_⟩:=p5 eq;simp[PyData.eqv]
   |lst r=>obtain⟨g,rfl,j⟩:=p0 eq;have:=vU (show j7 l=true from h) (show j7 r=true from d) k j;simp only[PyData.eqv,this,D.lst.injEq]
   |_=>cases d
  |_=>cases h
 termination_by a=>sizeOf a
theorem vU:∀{a b} {p q},j7 a=true->j7 b=true->jN a=some p->jN b=some q->(PyData.eqvAll p q=true↔a=b)
 |[],[],p,q,_,_,i,g=>by cases i;cases g;simp[PyData.eqvAll]
 |[],d::r,p,q,_,_,i,g=>by cases i;obtain⟨x,_,h⟩:=az.mp (show(kI d).bind (λp=>(jN r).map (p:: ·))=some q from g);obtain⟨j,_,rfl⟩:=aj.mp h;simp[PyData.eqvAll]
 |d::r,[],p,q,_,_,i,g=>by cases g;obtain⟨x,_,h⟩:=az.mp (show(kI d).bind (λp=>(jN r).map (p:: ·))=some p from i);obtain⟨j,_,rfl⟩:=aj.mp h;simp[PyData.eqvAll]
 |d::r,e::s,p,q,v,u,i,g=>by have f:(jw d&&j7 r)=true:=v;have c:(jw e&&j7 s)=true:=u;rw[aN]at f c;obtain⟨x,n,h⟩:=az.mp (show(kI d).bind (λp=>(jN r).map (p:: ·))=some p from i);obtain⟨j,m,rfl⟩:=aj.mp h;obtain⟨y,l,w⟩:=az.mp (show(kI e).bind (λp=>(jN s).map (p:: ·))=some q from g);obtain⟨z,k,rfl⟩:=aj.mp w;have t:=z7 f.1 c.1 n l;have o:=vU f.2 c.2 m k;simp only[PyData.eqvAll,aN,t,o,fY]
 termination_by a=>sizeOf a
end
def z6(g:jw a=true)(f:jw b=true)(m:jL a<=60)(l:jL b<=60):∃r,mU a b=some r/\(r=true↔a=b):=by obtain⟨p,d,i,k⟩:=xl g;obtain⟨q,c,h,j⟩:=xl f;refine⟨PyData.eqv p q,?_,z7 g f d c⟩;unfold mU;rw[d,c];show(if(SeqAt.shaped p&&SeqAt.shaped q)=true then some (PyData.eqv p q)else none)=_;rw[ai];simp only[SeqAt.shaped,aN,bF];exact⟨⟨i,by omega⟩,h,by omega⟩
def ne_self(c:jw a=true)(d:jL a<=60):lY a a=.ok (.bl false):=by obtain⟨r,e,h⟩:=z6 c c d d;unfold lY;rw[e,h.mpr rfl];rfl
def eq_self(c:jw a=true)(d:jL a<=60):qO a a=.ok (.bl true):=by obtain⟨r,e,h⟩:=z6 c c d d;unfold qO;rw[e,h.mpr rfl]
def JA{c:Type}{f:c->D}{l:List c}(h:∀x∈l,jw (f x)=true):j7 (l.map f)=true:=by
 induction l with
 |nil=>rfl
 |cons a l d=>show(jw (f a)&&j7 (l.map f))=true;rw[h a<|.head _,d λx g=>h x<|.tail _ g];rfl
def FT{c:Type}{f:c->D}{l:List c}{k:Nat}(h:∀x∈l,jL (f x)<=k):mT (l.map f)<=k:=by
 induction l with
 |nil=>exact bD _
 |cons a l d=>show max (jL<|f a) (mT<|l.map f)<=k;have:=h a (.head _);have:=d λx g=>h x (.tail _ g);omega
end P2
namespace FM
def g(a b:Int):Int:=(Int.gcd a b:Int)
def Au{a:Int}(c:0<=a):g a 0=a:=by unfold g;rw[Int.gcd_zero_right];omega
def Ar{a b:Int}(d:0<=a)(c:0<b):g b (a%b)=g a b:=by
 unfold g
 congr 1
 obtain⟨m,rfl⟩:=ck d;obtain⟨n,rfl⟩:=ck (fR c);show Nat.gcd n ((m:Int)%(n:Int)).natAbs=Nat.gcd m n;rw[show((m:Int)%(n:Int)).natAbs=m%n from by omega];rw[Nat.gcd_comm m n,Nat.gcd_rec n m,Nat.gcd_comm]
def Am(a b:Int):g (if a<0 then -a else a) (if b<0 then -b else b)=g a b:=by
 unfold g
 congr 1
 unfold Int.gcd
 congr 1
 ·split<;>omega
 ·split<;>omega
def Aq{a b:Int}(c:b≠0):0<g a b:=by unfold g;have h:=Int.gcd_pos_of_ne_zero_right a c;omega
def An(a b:Int):g a b∣a:=Int.gcd_dvd_left ..
def Ao(a b:Int):g a b∣b:=Int.gcd_dvd_right ..
def dv(t b:Int):Int:=if b<0 then -(g t b)else g t b
def top(t b:Int):Int:=t.fdiv (dv t b)
def bot(t b:Int):Int:=b.fdiv (dv t b)
def oA{t b:Int}(c:b≠0):dv t b≠0:=by have:=Aq (a:=t) c;unfold dv;split<;>omega
def Ab{a d q:Int}(c:d≠0)(h:a=d*q):a.fdiv d=q:=by subst h;rw[gE];exact Int.mul_fdiv_cancel q c
theorem split{t b:Int}(f:b≠0):t=dv t b*top t b/\b=dv t b*bot t b:=by
 have d:=oA (t:=t) f;have h:dv t b∣t:=by
  unfold dv;split;·exact Int.neg_dvd.mpr (An t b)
  ·exact An t b
 have g:dv t b∣b:=by
  unfold dv;split;·exact Int.neg_dvd.mpr (Ao t b)
  ·exact Ao t b
 obtain⟨p,c⟩:=h;obtain⟨q,a⟩:=g;constructor
 ·show t=dv t b*t.fdiv (dv t b);rw[Ab d c];exact c
 ·show b=dv t b*b.fdiv (dv t b);rw[Ab d a];exact a
structure kX(p q:Int):Prop where
 pos:0<q
 one:Int.gcd p q=1
def pQ{t b:Int}(c:b≠0):kX (top t b) (bot t b):=by
 obtain⟨l,i⟩:=split (t:=t) c;have m:=oA (t:=t) c;have j:=Aq (a:=t) c;have f:(dv t b).natAbs=Int.gcd t b:=by unfold dv g;split<;>omega
 refine⟨?_,?_⟩
 ·rcases Int.lt_trichotomy b 0 with h|h|h
  ·have e:dv t b= -(g t b):=by unfold dv;rw[ai h]
   rw[e]at i;refine Int.lt_of_not_ge λd=>?_;have:0<= -(g t b)*bot t b:=by have:=Int.mul_nonneg_of_nonpos_of_nonpos (show -(g t b)<=0 by omega) d;exact this
   omega
  ·exact absurd h c
  ·have e:dv t b=g t b:=by unfold dv;rw[ak<|by omega]
   rw[e]at i;refine Int.lt_of_not_ge λd=>?_;have:g t b*bot t b<=0:=Int.mul_nonpos_of_nonneg_of_nonpos (fR j) d;omega
 ·have e:Int.gcd (dv t b*top t b) (dv t b*bot t b)=(dv t b).natAbs*Int.gcd (top t b) (bot t b):=Int.gcd_mul_left ..;rw[<-l,<-i,f]at e;have k:0<Int.gcd t b:=by unfold g at j;omega
  exact(Nat.eq_of_mul_eq_mul_left k<|by rw[gH];exact e).symm
def E9{t b:Int}(a:b≠0):top t b*b=t*bot t b:=by
 obtain⟨d,c⟩:=split (t:=t) a;have g:top t b*b=top t b*(dv t b*bot t b):=by rw[<-c]
 have f:t*bot t b=(dv t b*top t b)*bot t b:=by rw[<-d]
 rw[g,f];rw[<-fh,gE<|top t b]
def zv{a b c:Int}(h:Int.gcd a b=1)(d:a∣b*c):a∣c:=by
 have f:Nat.Coprime a.natAbs b.natAbs:=h;have g:a.natAbs∣b.natAbs*c.natAbs:=by rw[<-cz];exact gb.mpr d
 exact gb.mp (f.dvd_of_dvd_mul_left g)
def IG{p q d c:Int}(a:kX p q)(b:kX d c)(h:p*c=d*q):p=d/\q=c:=by
 obtain⟨g,j⟩:=a;obtain⟨f,i⟩:=b;have d1:q∣c:=by
  have:q∣p*c:=by rw[h];exact Int.dvd_mul_left ..
  exact zv (by rw[Int.gcd_comm];exact j) this
 have d2:c∣q:=by
  have:c∣d*q:=by rw[<-h];exact Int.dvd_mul_left ..
  exact zv (by rw[Int.gcd_comm];exact i) this
 have e:q=c:=Int.dvd_antisymm (fR g) (fR f) d1 d2;subst e;exact⟨eO (by omega) h,rfl⟩
def scaled{p q k:Int}(L:kX p q)(a:k≠0):top (p*k) (q*k)=p/\bot (p*k) (q*k)=q:=by
 have f:q≠0:=by have:=L.pos;omega
 have d:q*k≠0:=dB f a;refine IG (pQ d) L ?_;have c:=E9 (t:=p*k) d
 refine eO a ?_;rw[fh,c,fh,fh,gE k]
def FZ(t b:Int):(dv t b).natAbs=Int.gcd t b:=by unfold dv g;split<;>omega
def F1{t b:Int}(a:b≠0):(dv t b).natAbs<=b.natAbs:=by rw[FZ];exact Nat.le_of_dvd (by omega) (Nat.gcd_dvd_right ..)
end FM
namespace T2
open PySem PySem.NumText TM
structure Ok(t b:Int):Prop where
 low:FM.kX t b
 ht:t.natAbs<10^60
 hb:b.natAbs<10^60
def Bc{t b:Int}(L:FM.kX t b):FM.top t b=t/\FM.bot t b=b:=by
 have:=FM.scaled (k:=1) L (by decide)
 rwa [gG,gG]at this
def rL(t:Int){b:Int}(c:b≠0):(FM.top t b).natAbs<=t.natAbs/\(FM.bot t b).natAbs<=b.natAbs:=by
 obtain⟨f,d⟩:=FM.split (t:=t) c;have i:=FM.oA (t:=t) c;have a:1<=(FM.dv t b).natAbs:=by omega
 have h:t.natAbs=(FM.dv t b).natAbs*(FM.top t b).natAbs:=by rw[<-cz,<-f]
 have g:b.natAbs=(FM.dv t b).natAbs*(FM.bot t b).natAbs:=by rw[<-cz,<-d]
 rw[h,g];exact⟨fS _ a,fS _ a⟩
end T2
namespace TR
open PySem PySem.NumText TM T2
def HU:List (List Nat):=[[109,97,114,107],[102,105,108,108],[104,101,114,101],[98,97,99,107],[111,110],[97,116],[97,103,111],[117,110,116,105,108],[97,98,115],[97,110,100],[111,114],[110,111,116]]
def IJ(c:Nat):Bool:=decide (97<=c)&&decide (c<=122)
def Qw(m:List Nat):Bool:=decide (m≠[])&&decide (m.length<=8)&&m.all IJ&&!decide (m∈HU)
structure Ok(m:List Nat)(t u:Nat)(n:Int):Prop where
 m:Qw m=true
 t:t<=1000000000
 u:u<=1000000000
 n:n.natAbs<10^60
end TR
set_option exponentiation.threshold 500
namespace P2
open PySem L2
def M5:OA i f ρ=toS (f ρ) λa=>if i<ρ.length then .nx (ρ.set i<|.ow a)else .bad:=rfl
def M6{fs}:ux i j fs ρ=toS (fs ρ) λa=>match a with
 |[d1,d2]=>if i<ρ.length/\j<ρ.length then .nx ((ρ.set i<|.sh d1).set j (.sh d2))else .bad
 |_=>.bad:=rfl
def LG:Cq 3 f (s0::s1::s2::.ow ds::r)=toS (f<|s0::s1::s2::.ow ds::r) λd=>if ds.length<sizeLine then .nx (s0::s1::s2::.ow (ds++[d])::r)else .bad:=rfl
def LH:Cq 4 f (s0::s1::s2::s3::.ow ds::r)=toS (f<|s0::s1::s2::s3::.ow ds::r) λd=>if ds.length<sizeLine then .nx (s0::s1::s2::s3::.ow (ds++[d])::r)else .bad:=rfl
def Mj:Al 3 (s0::s1::s2::.ow ds::r)=s0::s1::s2::.sh (.lst ds)::r:=rfl
def Ml:Al 4 (s0::s1::s2::s3::.ow ds::r)=s0::s1::s2::s3::.sh (.lst ds)::r:=rfl
def MO{i j:Int}:Jf [.int i,.int j]=.ok (.int<|if j<i then j else i):=rfl
def B8{j:Int}(c:0<=j)(a:j<1000000):nS [.int j]=.ok (m4 0 j.toNat):=by show(if -(2^62)<=j/\j<2^62 then R.ok (m4 0 j.toNat)else .bad)=_;rw[ai<|by omega]
end P2
local macro_rules|`(tactic|walk_at "d")=>`(tactic|try simp(disch:=first|assumption|decide|exact aG rfl)only[P2.LS,P2.LU,P2.LR,P2.Nu,P2.Nv,P2.Nr,P2.oJ,P2.M9,P2.Na,P2.M8,P2.Ca,P2.Nx,P2.Ny,P2.Nz,P2.Nw,P2.NA,P2.Md,P2.Mc,P2.Me,P2.MW,P2.MY,P2.MX,P2.l0,P2.M4,P2.M7,P2.M0,P2.ur,P2.B9,P2.LZ,P2.LV,P2.LW,P2.LM,P2.LN,P2.LO,P2.LQ,P2.LP,P2.LY,P2.L6,P2.L5,P2.L3,P2.L0,P2.LX,P2.Lw,P2.Lv,P2.LL,P2.L1,P2.L7,P2.B5,P2.M3,P2.M5,P2.M6,P2.LG,P2.LH,P2.Mj,P2.Ml,P2.MO,P2.B8,P2.Nq,P2.Mm,P2.Nj,P2.Nk,P2.Nl,P2.Nn,P2.Nm,P2.Np,P2.Lz,P2.Ni,P2.p9,P2.rC,P2.MM,P2.MI,P2.Mo,P2.Mn,P2.MV,P2.Ma,P2.Mb,P2.L9,P2.MT,P2.MU,P2.Mq,P2.MD,P2.MF,P2.ME,P2.Nf,P2.Ng,P2.MZ,P2.MK,P2.MJ,P2.ML,P2.Ly,P2.MN,P2.Mr,P2.LD,P2.LF,P2.Nh,P2.NQ,P2.Mp,P2.Mg,P2.rB,P2.LB,P2.MQ,P2.LI,P2.LK,P2.LJ,P2.Mh,P2.MH,P2.MG,P2.Mt,P2.Ms,P2.Mv,P2.Mw,P2.Mu,P2.Nb,P2.Nd,P2.Mx,P2.MA,P2.My,P2.MB,P2.Mz,P2.MC,P2.NB,P2.NC,P2.NI,P2.NJ,P2.NK,P2.NL,P2.NM,P2.NN,P2.NO,P2.NP,P2.ND,P2.NF,P2.NG,P2.NH,P2.hA,aE,cg,ao,fU,gB,Nat.reduceAdd,Nat.reduceSub,List.replicate_zero,List.replicate_succ,aZ,fT,bS,List.set_cons_zero,List.set_cons_succ,cB,bC,Nat.reduceLT,Nat.zero_lt_succ,d8,gy,bc,reduceIte,ej,dO,Int.reduceLT,Int.reduceEq,Int.reduceNeg,Int.reducePow,Int.reduceSub,Int.reduceAdd,Int.reduceMul,bp])
namespace WP
open PySem L2 P2 TM T2 PySem.NumText
variable{a:Ad}
def I9(i:Int):hU (tm a<|hA 1 [.int i])=.ok (.bl true):=by unfold tm;iterate 3 (walk_at "d")
theorem C2:∀(n:Nat) (x y:Int) (s2:Sl),0<=x->0<=y->y<n->
 ∃s,l8 (b1 tB<|d2 pU (dV 1)<|gJ 0) (vk a) n [.sh<|.int x,.sh<|.int y,s2]=.nx [.sh<|.int<|FM.g x y,.sh<|.int 0,s]
 |0,x,y,s2,c,f,h=>by omega
 |n+1,x,y,s2,c,f,h=>by
  rw[Cb];by_cases z:y=0
  ·subst z;refine⟨s2,?_⟩;walk_at "d"
   rw[FM.Au c]
  ·have d:0<y:=by omega
   have g:=Int.emod_lt_of_pos x d;obtain⟨s,e⟩:=C2 n y (x%y) (.sh<|.int<|x%y) f (Int.emod_nonneg x z) (by omega);refine⟨s,?_⟩;unfold vk;iterate 4 (walk_at "d";try simp only[z,rC d])
   rw[<-FM.Ar c d];exact e
def IP(x y:Int)(d:0<=x)(c:0<=y)(h:y.natAbs<10^400):hU (ti a<|hA 3 [.int x,.int y])=.ok (.int<|FM.g x y):=by
 obtain⟨s,e⟩:=C2 (a:=a) 10000000000000000000000000000000000000000000000000000000000000000000000000000000000000000000000000000000000000000000000000000000000000000000000000000000000000000000000000000000000000000000000000000000000000000000000000000000000000000000000000000000000000000000000000000000000000000000000000000000000000000000000000000000000000000000000000000000000000000000000000000000000000000000000000000000000000000 x y .no d c (by omega);unfold ti;walk_at "d"
 rw[e];walk_at "d"
def sQ{t b:Int}(c:b≠0)(h:b.natAbs<10^400):(FM.dv t b).natAbs<10^400:=by have:=FM.F1 (t:=t) (b:=b) c;omega
abbrev fr(t b:Int):D:=.tup [.int<|FM.top t b,.int<|FM.bot t b]
def IM{g j:gP}(f:∀i:Int,g [.int i]=.ok (.bl true))(k:∀x y:Int,0<=x->0<=y->y.natAbs<10^400->j [.int x,.int y]=.ok (.int<|FM.g x y))(t b:Int)(c:b≠0)(h:b.natAbs<10^400):
    hU (tj a g j<|hA 3 [.int t,.int b])=.ok (fr t b):=by
 have d:=k (if t<0 then -t else t) (if b<0 then -b else b) (by split<;>omega) (by split<;>omega) (by split<;>omega);rw[FM.Am t b]at d;have d1:=uo (i:=t) (FM.oA (t:=t) (b:=b) c) (sQ c h);have d2:=uo (i:=b) (FM.oA (t:=t) (b:=b) c) (sQ c h);unfold tj;by_cases b1:b<0
 ·have e:FM.dv t b= -(FM.g t b):=by unfold FM.dv;rw[ai b1]
  rw[ai b1]at d;rw[e]at d1 d2;iterate 8 (walk_at "d";try simp only[f,c,b1,d,d1,d2,dO,ej])
  unfold fr FM.top FM.bot;rw[e]
 ·have e:FM.dv t b=FM.g t b:=by unfold FM.dv;rw[ak b1]
  rw[ak b1]at d;rw[e]at d1 d2;iterate 8 (walk_at "d";try simp only[f,c,b1,d,d1,d2,dO,ej])
  unfold fr FM.top FM.bot;rw[e]
variable{a:Ad}
def Sz(n:Nat)(i:Int):Prop:=i.natAbs<10^n
def Sz.mono{m n:Nat}{i:Int}(h:Sz m i)(c:m<=n):Sz n i:=ay h (gx (by decide) c)
def Sz.mul{m n:Nat}{i j:Int}(h:Sz m i)(g:Sz n j):Sz (m+n) (i*j):=by unfold Sz at*;rw[cz,Nat.pow_add];exact Nat.mul_lt_mul'' h g
def Sz.add{n:Nat}{i j:Int}(h:Sz n i)(g:Sz n j):Sz (n+1) (i+j):=by unfold Sz at*;have:(10:Nat)^(n+1)=10^n*10:=cE ..;omega
def Sz.top{n:Nat}{t b:Int}(h:Sz n t)(c:b≠0):Sz n (FM.top t b):=cy (rL t c).1 h
def Sz.bot{n:Nat}{t b:Int}(h:Sz n b)(c:b≠0):Sz n (FM.bot t b):=cy (rL t c).2 h
def k7{i j:Int}(h:Sz 190 i)(g:Sz 190 j):hD (.int i) (.int j)=.ok (.int<|i*j):=MS (h.mono<|by decide) (g.mono<|by decide)
abbrev pr(p q:Int):D:=.tup [.int p,.int q]
section
variable{j:gP}(hf:∀t b:Int,b≠0->b.natAbs<10^400->j [.int t,.int b]=.ok (fr t b)){p q x y:Int}(i:Sz 190 p)(e:Sz 190 q)(h:Sz 190 x)(c:Sz 190 y)
include hf i e h c
theorem IY(s:q≠0)(r:y≠0):hU (tq a j<|hA 2 [pr p q,pr x y])=.ok (fr (p*y+x*q)<|q*y):=by have o:L2.iM [D.int p,D.int q] 0=some (.int p):=rfl;have n:L2.iM [D.int p,D.int q] 1=some (.int q):=rfl;have m:L2.iM [D.int x,D.int y] 0=some (.int x):=rfl;have l:L2.iM [D.int x,D.int y] 1=some (.int y):=rfl;have k:=k7 i c;have g:=k7 h e;have d:=k7 e c;have f:=hf (p*y+x*q) (q*y) (dB s r) ((e.mul c).mono (by decide));unfold tq;iterate 7 (walk_at "d";try simp only[o,n,m,l,k,g,d,f])
end
structure Ck where
 m:Str
 t:Int
 p:Int
 q:Int
abbrev Ck.d(c:Ck):D:=.tup [.str c.m,.int c.t,pr c.p c.q]
end WP
namespace WP
open PySem L2 P2 TM T2 PySem.NumText
variable{a:Ad}
def lt_size{n}(h:n<1000000):n<sizeLine:=ay h (by decide)
def Ep(c:List Int)(k)(h:k<c.length):L2.iM (c.map D.int) (k:Int)=some (.int<|c.getD k 0):=by refine Er ?_;rw[aB,au h,aX,au h];rfl
def Bh(c:List Int)(k:Nat):hU (tw a<|hA 2 [.lst<|c.map .int,.int k])=.ok (.int<|c.getD k 0):=by
 unfold tw;walk_at "d"
 rw[aD];by_cases h:k<c.length
 ·rw[ai<|aV<|by omega,Ep c k h];walk_at "d"
 ·rw[ak<|by simp;omega];walk_at "d"
  rw[aX,dZ<|by omega];rfl
def ie(c k:Int):Int:=(c%2147483647+31*k+1)*48271*(c%2147483647+3*k+7)%2147483629
def IW(c k:Int)(i:0<=k/\k<=1000):hU (tA a<|hA 3 [.int c,.int k])=.ok (.int<|ie c k):=by have h:hD (.int 31) (.int k)=.ok (.int<|31*k):=B7 (by decide) (by decide);have g:hD (.int 3) (.int k)=.ok (.int<|3*k):=B7 (by decide) (by decide);have f:hD (.int<|c%2147483647+31*k+1) (.int 48271)=.ok (.int<|(c%2147483647+31*k+1)*48271):=uq (by decide) (by decide);have d:hD (.int<|(c%2147483647+31*k+1)*48271) (.int<|c%2147483647+3*k+7)=.ok (.int<|(c%2147483647+31*k+1)*48271*(c%2147483647+3*k+7)):=uq (by omega) (by omega);unfold tA ie;iterate 5 (walk_at "d";try simp only[h,g,f,d])
theorem C3:∀(n:Nat) (x y:Int) (d c:Sl),0<=x->0<=y->y<n->
 l8 (b1 tB<|d2 lR (dV 3)<|gJ 0) (vm a) n [d,c,.sh<|.int x,.sh<|.int y]=.nx [d,c,.sh<|.int<|FM.g x y,.sh<|.int 0]
 |0,x,y,d,c,g,i,h=>by omega
 |n+1,x,y,d,c,g,i,h=>by
  rw[Cb];by_cases z:y=0
  ·subst z;walk_at "d"
   rw[FM.Au g]
  ·have f:0<y:=by omega
   have j:=Int.emod_lt_of_pos x f;have e:=C3 n y (x%y) d c i (Int.emod_nonneg x z) (by omega);unfold vm;iterate 4 (walk_at "d";try simp only[aV f,rC f,and_self])
   rw[<-FM.Ar g f];exact e
def IU(t b:Int)(d:0<b)(h:b.natAbs<10^400):hU (tx a<|hA 4 [.int t,.int b])=.ok (fr t b):=by
 have e:=C3 (a:=a) pB (if t<0 then -t else t) b (.sh<|.int t) (.sh<|.int b) (by split<;>omega) (by omega) (by unfold pB;omega);have c:FM.g (if t<0 then -t else t) b=FM.dv t b:=by have:=FM.Am t b;rw[ak<|show¬b<0 by omega]at this;rw[this];unfold FM.dv;rw[ak<|by omega]
 rw[c]at e;have d1:=uo (i:=t) (FM.oA (t:=t) (b:=b)<|by omega) (sQ (t:=t) (b:=b) (by omega) h);have d2:=uo (i:=b) (FM.oA (t:=t) (b:=b)<|by omega) (sQ (t:=t) (b:=b) (by omega) h);unfold tx;iterate 4 (walk_at "d";try simp only[and_self])
 rw[e];iterate 4 (walk_at "d";try simp only[d1,d2])
 rfl
structure Rg(p q:Int):Prop where
 low:FM.kX p q
 p:Sz 9 p
 q:Sz 6 q
def ub(d:PyData.strOk x=true)(c:PyData.strOk y=true):PyData.strOk (x++y)=true:=by unfold PyData.strOk at*;rw[<-Array.all_toList]at*;show((pC<|x++y).all _)=true;rw[zk,List.all_append,aN];exact⟨d,c⟩
def len_app{x y:Str}:(x++y).length=x.length+y.length:=by rw[wz,zk,aq,<-wz,<-wz]
def Et:∀n:Nat,n<3->∃c,c<128/\L2.iM (Str.ofString "qxz").cps.toList (n:Int)=some c:=by decide
def Es:∀n:Nat,n<26->∃c,c<128/\L2.iM (Str.ofString "abcdefghijklmnopqrstuvwxyz").cps.toList (n:Int)=some c:=by decide
def Eu:∀n:Nat,n<12->∃s:Int,0<s/\s<30/\L2.iM [D.int 1,.int 3,.int 5,.int 7,.int 9,.int 11,.int 15,.int 17,.int 19,.int 21,.int 23,.int 25] (n:Int)=some (.int s):=by
 intro n h;have:n=0\/n=1\/n=2\/n=3\/n=4\/n=5\/n=6\/n=7\/n=8\/n=9\/n=10\/n=11:=by omega
 rcases this with rfl|rfl|rfl|rfl|rfl|rfl|rfl|rfl|rfl|rfl|rfl|rfl<;>exact⟨_,by decide,by decide,rfl⟩
def wU(h:c<128):PyData.strOk ⟨#[c]⟩=true:=by unfold PyData.strOk;simp;omega
def AQ(j:Int)(h:0<=j/\j<3):∃c,c<128/\L2.iM (Str.ofString "qxz").cps.toList j=some c:=by obtain⟨n,rfl⟩:=ck h.1;exact Et n (by omega)
def HE(j:Int)(h:0<=j/\j<26):∃c,c<128/\L2.iM (Str.ofString "abcdefghijklmnopqrstuvwxyz").cps.toList j=some c:=by obtain⟨n,rfl⟩:=ck h.1;exact Es n (by omega)
def lq:(Str.ofString "qxz").length<=sizeLine:=by decide
def la:(Str.ofString "abcdefghijklmnopqrstuvwxyz").length<=sizeLine:=by decide
theorem C7(c:Int)(m l k h:Sl):∀(f:List Int) (z:Str) (o:Sl),(∀j∈f,0<=j/\j<100)->PyData.strOk z=true->z.length+f.length<=100->
 ∃g d,PyData.strOk g=true/\g.length=z.length+f.length/\jX (gV 6) (sA a) (f.map D.int) [.sh<|.int c,m,l,k,h,.sh<|.str z,o]=.nx [.sh<|.int c,m,l,k,h,.sh<|.str g,d]
 |[],z,o,_,q,r=>⟨z,o,q,by simp,rfl⟩
 |j::f,z,o,s,q,r=>by
  have u:=s j (bP ..);rw[ao]at r;obtain⟨n,v,t⟩:=AQ (c/(3+j)%3) (by omega);have A:ib (.int c) (.int<|3+j)=.ok (.int<|c/(3+j)):=p9 (by omega) (by omega);have p:(⟨#[n]⟩:Str).length=1:=rfl;have C:ik (.str z) (.str ⟨#[n]⟩)=.ok (.str (z++⟨#[n]⟩)):=rB (by omega) (by rw[p];decide);obtain⟨g,d,y,x,w⟩:=C7 c m l k h f (z++⟨#[n]⟩) (.sh (.int j)) (λi hi=>s i (bu _ hi)) (ub q (wU v)) (by rw[len_app,p];omega);refine⟨g,d,y,by rw[x,len_app,p,ao];omega,?_⟩;rw[aE,Mi];walk_at "d"
  have e:sA a [.sh<|.int c,m,l,k,h,.sh<|.str z,.sh<|.int j]=.nx [.sh<|.int c,m,l,k,h,.sh<|.str<|z++⟨#[n]⟩,.sh<|.int j]:=by unfold sA;iterate 4 (walk_at "d";try simp only[A,ai lq,t,C])
  rw[e,Ca];exact w
def N3(n):m4 0 n=((List.range n).map λ(k:Nat)=>(k:Int)).map D.int:=by unfold m4;rw[bw];refine bW λk _=>?_;show D.int (0+(k:Int))=D.int (k:Int);rw[Int.zero_add]
def Ja(c k:Int)(V:0<=k/\k<26):∃z,PyData.strOk z=true/\z.length<=20/\hU (qY a<|hA 7 [.int c,.int k])=.ok (.str z):=by
 obtain⟨n,w⟩:=ck (show 0<=c/26%12 by omega);obtain⟨p,C,A,l⟩:=Eu n (by omega);have mk:hD (.int k) (.int p)=.ok (.int<|k*p):=uq (by omega) (by omega);obtain⟨o,M,s⟩:=HE ((c+k*p)%26) (by omega);obtain⟨m,L,r⟩:=AQ (k/26%3) (by omega);have v:(⟨#[o]⟩:Str).length=1:=rfl;have u:(⟨#[m]⟩:Str).length=1:=rfl;have P:ik (.str ⟨#[o]⟩) (.str ⟨#[m]⟩)=.ok (.str (⟨#[o]⟩++⟨#[m]⟩)):=rB (by rw[v];decide) (by rw[u];decide);have f:=ub (wU M) (wU L);have F:((⟨#[o]⟩:Str)++⟨#[m]⟩).length=2:=by rw[len_app,v,u]
 obtain⟨d,g⟩:∃d,d=(⟨#[o]⟩:Str)++⟨#[m]⟩:=⟨_,rfl⟩;rw[<-g]at P f F;have I:0<=c/312%7/\c/312%7<7:=by omega
 have t:nS [.int<|c/312%7]=.ok (m4 0 (c/312%7).toNat):=B8 I.1 (by omega);have O:PyData.strOk (Str.ofString "")=true:=by decide+kernel
 have h:(Str.ofString "").length=0:=by decide
 obtain⟨z,T,y,N,q⟩:=C7 (a:=a) c (.sh (.int k)) (.sh (.str (Str.ofString "abcdefghijklmnopqrstuvwxyz"))) (.sh (.int p)) (.sh (.str d)) ((List.range (c/312%7).toNat).map λ(k:Nat)=>(k:Int)) (Str.ofString "") .no (λj J=>by obtain⟨i,hi,rfl⟩:=aP.mp J;have:=bz.mp hi;omega) O (by rw[h,aD,df];omega)
 rw[<-N3]at q;have U:z.length<=7:=by rw[N,h,aD,df];omega
 have G:[D.int 1,.int 3,.int 5,.int 7,.int 9,.int 11,.int 15,.int 17,.int 19,.int 21,.int 23,.int 25].length<=1000:=by decide
 have R:ik (.str z) (.str d)=.ok (.str<|z++d):=rB (by omega) (by omega);have Q:ik (.str d) (.str z)=.ok (.str<|d++z):=rB (by omega) (by omega);by_cases x:c/2184%2=1
 ·refine⟨z++d,ub y f,by rw[len_app];omega,?_⟩;unfold qY;iterate 6 (walk_at "d";try simp only[w,l,mk,ai lq,ai la,s,r,<-g,t])
  simp only[q];iterate 6 (walk_at "d";try simp only[x,R,ej])
 ·refine⟨d++z,ub f y,by rw[len_app];omega,?_⟩;unfold qY;iterate 6 (walk_at "d";try simp only[w,l,mk,ai lq,ai la,s,r,<-g,t])
  simp only[q];iterate 6 (walk_at "d";try simp only[x,Q,dO])
end WP
namespace WM
open PySem L2 P2 WP TM T2 PySem.NumText
variable{a:Ad}
variable{a:Ad}
section
variable{a b:gU}{S S1 j l:gR}{f g h:h8}{i:Nat}{z:Z}{c:gU->gR->RX Bool}{u v:iI}
def jh(e:u a S=.nx b S1):il u v a S=v b S1:=by unfold il;rw[e];rfl
def jH(e:f a S=.ok z S1)(hi:i<a.length):iy i f a S=.nx (a.set i<|some z) S1:=by unfold iy;rw[e];exact ai hi
def y_ret(e:f a S=.ok z S1):nZ f a S=.rt z S1:=by unfold nZ;rw[e];rfl
def Dd(e:c a S=.ok true S1):ma c u v a S=u a S1:=by unfold ma;rw[e];rfl
def yp(e:c a S=.ok false S1):ma c u v a S=v a S1:=by unfold ma;rw[e];rfl
def QC{w:iI}(e:c a S=.ok false S1):il (ma c u oV) w a S=w a S1:=jh (yp e)
def qu(e:a[i]?=some (some z)):zV i a S=.ok z S:=by unfold zV;rw[e]
def iE{q:g7}{d:D}(e:q (j8 a)=.ok d):zD q a S=.ok (.d d) S:=by unfold zD;rw[e];rfl
def qt{q:Ev->R Bool}{d:Bool}(e:q (j8 a)=.ok d):zB q a S=.ok d S:=by unfold zB;rw[e];rfl
def QD{q:g7}{d:D}(e:q (vw S a)=.ok d)(h:kH d=true):zR q a S=.ok (.d d) S:=by unfold zR;rw[e];exact ai h
def oZ:kc a S=.ok [] S:=rfl
def lG{r:gU->gR->RX (List Z)}{d:List Z}(e:f a S=.ok z S1)(k:r a S1=.ok d j):iU f r a S=.ok (z::d) j:=by unfold iU;rw[e];show((r a S1).bind _)=_;rw[k];rfl
def De{q:D->D->R D}{x y w:D}(m:f a S=.ok (.d x) S1)(k:g a S1=.ok (.d y) j)(d:q x y=.ok w):z2 q f g a S=.ok (.d w) j:=by unfold z2;rw[m];show((g a S1).bind _)=_;rw[k];show((ng (q x y) j).bind _)=_;rw[d];rfl
def QO{q:D->R Bool}{x:D}{k:Bool}(m:f a S=.ok (.d x) S1)(d:q x=.ok k):rT q f a S=.ok k S1:=by unfold rT;rw[m];show ng (q x) S1=_;rw[d];rfl
def uP{F:jU}{r:gU->gR->RX (List Z)}{d:List Z}{x:RX Z}(e:r a S=.ok d S1)(k:F d S1=x):zZ F r a S=x:=by unfold zZ;rw[e];exact k
def Dh{n:Nat}{ds:List D}{k:List Key}{d:List<|List Key×Z}(h:f a S=.ok (.loc n) S)(o:g a S=.ok (.d<|.tup ds) S)(p:kM ds=some k)(q:S[n]?=some (.dt d))(m:valZ d k=some z):nh f g a S=.ok z S:=by
 unfold nh;rw[h];show((g a S).bind _)=_;rw[o]
 show(match kM ds,S[n]? with
  |some k,some (.dt d)=>(match valZ d k with
   |some z=>RX.ok z S
   |none=>.bad)
  |_,_=>.bad)=_
 rw[p,q]
 show(match valZ d k with
  |some z=>RX.ok z S
  |none=>.bad)=_
 rw[m]
end
abbrev HF(Ff:gP):Prop:=∀t b:Int,b≠0->b.natAbs<10^400->Ff [.int t,.int b]=.ok (fr t b)
variable{a:Ad}
variable{a:Ad}
variable{a:Ad}
section
variable{b:Type}[DecidableEq b]{kvs:List<|b×Z}{k a:b}{v:Z}
def qk(x:b×Z):valZ (x::kvs) k=if x.1=k then some x.2 else valZ kvs k:=by
 unfold valZ;by_cases h:x.1=k;·rw[List.find?_cons_of_pos<|by simpa using h,ai h];rfl
 ·rw[List.find?_cons_of_neg<|by simpa using h,ak h]
def Qm(x:b×Z):valZ (kvs++[x]) k=(match valZ kvs k with|some z=>some z|none=>if x.1=k then some x.2 else none):=by
 induction kvs with
 |nil=>exact qk x
 |cons y r c=>
  rw[bS,qk,qk];by_cases h:y.1=k;·rw[ai h,ai h]
  ·rw[ak h,ak h,c]
def Qn(h:(kvs.any λc=>decide<|c.1=k)=false):valZ kvs k=none:=by unfold valZ;rw[List.find?_eq_none.mpr λx d=>by simpa using bM.mp h x d];rfl
def CV:valZ (jn kvs k v) a=if k=a then some v else valZ kvs a:=by
 unfold jn;cases h:kvs.any λf=>decide (f.1=k)with
 |false=>
  rw[ak aA,Qm];by_cases e:k=a;·subst e;rw[Qn h,ai rfl];try rfl
  ·rw[ak e];cases valZ kvs a<;>simp[e]
 |true=>
  rw[ai rfl];by_cases e:k=a
  ·subst e;rw[ai rfl];induction kvs with
   |nil=>cases h
   |cons x r d=>
    rw[aE,qk];by_cases c:x.1=k;·rw[ai c,ai c]
    ·rw[ak c,ak c];rw[cG,aW c,Bool.false_or]at h;exact d h
  ·rw[ak e];clear h;induction kvs with
   |nil=>rfl
   |cons x r d=>
    rw[aE,qk,qk,d];by_cases c:x.1=k;·rw[ai c,ak<|show¬(x.1,v).1=a from λw=>e<|c.symm.trans w,ak λw=>e<|c.symm.trans w]
    ·rw[ak c]
def Iv:(jn kvs k v).length<=kvs.length+1:=by
 unfold jn;split;·rw[aD];omega
 ·rw[aq];exact ah _
def GP{n:Nat}(h:((jn kvs k v).any λp=>kE n p.2)=true):(kvs.any λp=>kE n p.2)=true\/kE n v=true:=by
 obtain⟨x,c,q⟩:=cO.mp h;unfold jn at c;split at c
 ·obtain⟨y,d,rfl⟩:=aP.mp c;by_cases e:y.1=k;·rw[ai e]at q;exact .inr q
  ·rw[ak e]at q;exact .inl (cO.mpr ⟨y,d,q⟩)
 ·rcases bx.mp c with c|c;·exact .inl (cO.mpr ⟨x,c,q⟩)
  ·rw[aJ]at c;subst c;exact .inr q
end
abbrev pj(S:gR)(j:Nat):Prop:=S.any (kh j)=false
def me(S:gR):Prop:=∀j,S.length<=j->pj S j
def nU{S:gR}{j:Nat}{c:Cell}(h:pj S j)(d:kh j c=false):pj (S++[c]) j:=by show(S++[c]).any (kh j)=false;rw[List.any_append,h];simpa using d
def uA{S:gR}{j n:Nat}{c:Cell}(h:pj S j)(f:kh j c=false):pj (S.set n c) j:=
 bM.mpr λx d=>by
  rcases List.mem_or_eq_of_mem_set d with d|d;·exact bM.mp h x d
  ·subst d;rw[f];exact aA
def q7(L:List D)(j:Nat):kh j (.li<|L.map Z.d)=false:=by show(L.map Z.d).any (kE j)=false;rw[gF];exact bM.mpr λ_ _=>nofun
def oU{n:Nat}(h:n<100000):n<sizeLine:=ay h (by decide)
def lQ(S:gR)(c:Cell):(S++[c])[S.length]?=some c:=by simp
def set_same{S:gR}{n:Nat}{x:Cell}(h:n<S.length):(S.set n x)[n]?=some x:=aR h
def lW{S:gR}{n:Nat}{c:Cell}(h:S[n]?=some c):n<S.length:=(ar.mp h).1
section
variable{b:gU}{S S1 I H:gR}{f g h:h8}{i n:Nat}{z:Z}{q:g7}
def Di{fs:gU->gR->RX (List Z)}{ds:List D}{k:List Key}(h:fs b S=.ok (ds.map Z.d) S)(d:kM ds=some k)(j:k.length<1000):oX fs b S=.ok (.tk k) S:=by
 unfold oX;rw[h]
 show(match(kf (ds.map Z.d)).bind kM with
  |some c=>if c.length<=sizeLine then RX.ok (Z.tk c) S else .bad
  |none=>.bad)=_
 rw[qF]
 show(match kM ds with
  |some c=>if c.length<=sizeLine then RX.ok (Z.tk c) S else .bad
  |none=>.bad)=_
 rw[d];exact ai (bJ<|oU<|by omega)
def QB{k:List Key}{kvs:List<|List Key×Z}(j:h b S=.ok z S)(hf:f b S=.ok (.loc n) S)(d:g b S=.ok (.tk k) S)(l:S[n]?=some (.dt kvs))(c:kvs.length<100000):rS f g h b S=.nx b (S.set n<|.dt<|jn kvs k z):=by
 unfold rS;rw[j];show toZ (f b S) _=_;rw[hf];show toZ (g b S) _=_;rw[d]
 show(match S[n]? with
  |some (.dt kvs)=>if kvs.length<sizeLine then jI.nx b (S.set n<|.dt<|jn kvs k z)else .bad
  |_=>.bad)=_
 rw[l];exact ai (oU c)
def QA{zs uS:List Z}(hi:b[i]?=some (h9 n))(j:S[n]?=some (.li zs))(hf:f b S=.ok z S1)(d:S1[n]?=some (.li uS))(c:uS.length<100000):rR i f b S=.nx b (S1.set n<|.li<|uS++[z]):=by
 unfold rR;rw[hi]
 show(match S[n]? with
  |some (.li _)=>toZ (f b S) λz S1=>(match S1[n]? with
   |some (.li zs)=>if zs.length<sizeLine then jI.nx b (S1.set n<|.li<|zs++[z])else .bad
   |_=>.bad)
  |_=>.bad)=_
 rw[j];show toZ (f b S) _=_;rw[hf]
 show(match S1[n]? with
  |some (.li zs)=>if zs.length<sizeLine then jI.nx b (S1.set n<|.li<|zs++[z])else .bad
  |_=>.bad)=_
 rw[d];exact ai (oU c)
def Qq{L:List D}(j:S[n]?=some (.li<|L.map Z.d)):rP S (h9 n)=.sh (.lst L):=by
 show(match S[n]? with
  |some (.li d)=>(match kf d with
   |some c=>Sl.sh (.lst c)
   |none=>.no)
  |_=>.no)=_
 rw[j]
 show(match kf (L.map Z.d)with
  |some c=>Sl.sh (.lst c)
  |none=>.no)=_
 rw[qF]
variable{a:Ad}
variable{a:Ad}
def FY{c:Type}(B:List c)(f:c->List Key×D)(j:Nat):kh j (.dt<|B.map λp=>((f p).1,Z.d (f p).2))=false:=by show(B.map λp=>((f p).1,Z.d (f p).2)).any (λp=>kE j p.2)=false;rw[gF];exact bM.mpr λ_ _=>nofun
variable{J:gR}{hi x r:Nat}{M:List<|Key×Z}{P:List<|List Key×Z}{y:Str->Option Nat}{F:jU}
def xO(S:gR)(c d:Cell):(S++[c]).set S.length d=S++[d]:=by rw[List.set_append_right _ _<|ah _,gB];rfl
variable{a:Ad}
variable{a:Ad}
variable{a:Ad}
variable{a:Ad}
variable{a:Ad}
variable{a:Ad}
variable{a:Ad}
variable{a:Ad}
variable{a:Ad}
variable{E C:jU}{l:gP}{o s A:Nat}{m:List Str}
def yo{d:Ev->R (List D)}{h:D->gU->Option gU}{c:iI}{b:gU}{ds:List D}(e:d (j8 b)=.ok ds):nY d h c b S=kL h c ds b S:=by unfold nY;rw[e];rfl
abbrev Cl(l:gP):Prop:=∀(ns:List Int) (k:Nat),l [.lst<|ns.map .int,.int k]=.ok (.int<|ns.getD k 0)
end
variable{a:Ad}
variable{a:Ad}
def Bf{d:Type}{f:d->D}{l:List d}(h:∀x∈l,jw (f x)=true/\jL (f x)<=5):jw (.lst<|l.map f)=true/\jL (.lst<|l.map f)<=60:=by have:mT (l.map f)<=5:=FT λx c=>(h x c).2;exact⟨JA λx c=>(h x c).1,by show mT (l.map f)+1<=60;omega⟩
variable{a:Ad}
variable{a:Ad}
def I7{p q x y:Int}(g:Sz 190 p)(f:Sz 190 q)(d:Sz 190 x)(c:Sz 190 y):hU (tr a<|hA 2 [pr p q,pr x y])=.ok (.bl<|decide<|p*y<x*q):=by unfold tr;show hU (toS ((hD (.int p)<|.int y).bind λu=>(hD (.int x)<|.int q).bind λv=>nL u v) RT.rt)=_;rw[k7 g c,k7 d f];rfl
end WM
namespace WM
open PySem L2 P2 WP
def P4{K:PySem.W.Frag}{F:jU}{d:List V}{H:Hp}{Q:VK}{E:XK}{a:List Int}{al:Addr->Prop}{S':gR}(m:d.length=1)(i:gQ K al H d [.lst<|a.map D.int])(g:jt K H)(e:F [.d<|.lst<|a.map .int] [.mk]=.ok (.d<|.bl true) S')(q:∀H',iH K H H'->Q (.bl true) H'):mI 1 K F d H Q E:=by
 refine⟨m,g,λ_=>True,λ_=>none,[.d<|.lst<|a.map .int],[.mk],λ_ _=>trivial,⟨λ_ _ h=>(by cases h),λn c h _ l=>?_,λ_ _ h=>(by cases h),λ_ _ _ h=>(by cases h),λ_ _ _ _ _=>trivial⟩,.ofD (ds:=[.lst<|a.map .int])<|gQ.mv (.sub λ_ _=>trivial) i,?_⟩
 ·cases n with
  |zero=>cases h;exact absurd rfl l
  |succ n=>simp at h
 ·rw[e];intro s k H' v f j;have r:v=.bl true:=by cases j;rfl
  rw[r];exact q H' ⟨λb o no p=>f.fr b o no p λ_=>nofun,f.hf,λ_=>f.tt⟩
end WM
namespace og
open PySem L2 P2 WP WM TM T2 PySem.NumText
variable{a:Ad}
abbrev Fq:=Int×Int
def pq(p:Fq):D:=pr p.1 p.2
def oD:Option Fq->D
 |none=>.non
 |some p=>pq p
def iS(p q:Fq):Fq:=(FM.top (p.1*q.2+q.1*p.2)<|p.2*q.2,FM.bot (p.1*q.2+q.1*p.2)<|p.2*q.2)
structure Sm(n:Nat)(p:Fq):Prop where
 low:FM.kX p.1 p.2
 s1:Sz n p.1
 s2:Sz n p.2
def Sm.ne{n}(h:Sm n p):p.2≠0:=by have:=h.low.pos;omega
def Sm.mono{n}(h:Sm m p)(c:m<=n):Sm n p:=⟨h.low,h.s1.mono c,h.s2.mono c⟩
def Sm.add{n}(h:Sm n p)(g:Sm 2 q):Sm (n+3) (iS p q):=by
 have c:p.2*q.2≠0:=dB h.ne g.ne;have f:Sz (n+2) (p.1*q.2):=h.s1.mul g.s2;have d:Sz (n+2) (q.1*p.2):=by rw[Nat.add_comm];exact g.s1.mul h.s2
 exact⟨FM.pQ c,(f.add d).top c,((h.s2.mul g.s2).mono (by omega)).bot c⟩
def Ba:FM.kX 0 1:=⟨by decide,by decide⟩
def uE{n}(h:1<=n):Sm n (0,1):=⟨Ba,Sz.mono (m:=1) (by unfold Sz;decide) h,Sz.mono (m:=1) (by unfold Sz;decide) h⟩
def Ed{p:Fq}(h:FM.kX p.1 p.2):iS p (0,1)=p:=by
 unfold iS;dsimp only;have g:p.1*1+0*p.2=p.1:=by omega
 have f:p.2*1=p.2:=by omega
 obtain⟨d,c⟩:=Bc h;rw[g,f,d,c]
def Gr{p:Fq}(h:FM.kX p.1 p.2):fr p.1 p.2=pq p:=by obtain⟨d,c⟩:=Bc h;show pr (FM.top p.1 p.2) (FM.bot p.1 p.2)=_;rw[d,c];rfl
section
variable{Ff B:gP}
def yN(B:gP):Prop:=∀p q:Fq,Sz 190 p.1->Sz 190 p.2->Sz 190 q.1->Sz 190 q.2->p.2≠0->q.2≠0->B [pq p,pq q]=.ok (pq<|iS p q)
theorem A1(j:yN B):∀(L:List Fq) (k:Nat) (p:Fq) (f g:Sl),(∀q∈L,Sm 2 q)->Sm (3*k+1) p->k+L.length<=40->
 ∃c,jX (gV 2) (sy a Ff B) (L.map pq) [f,.sh<|pq p,g]=.nx [f,.sh<|pq<|L.foldl iS p,c]
 |[],k,p,f,g,_,_,_=>⟨g,rfl⟩
 |q::L,k,p,f,g,l,h,n=>by rw[ao]at n;have i:=l q (.head _);obtain⟨c,e⟩:=A1 j L (k+1) (iS p q) f (.sh<|pq q) (λx m=>l x<|.tail _ m) ((h.add i).mono (by omega)) (by omega);refine⟨c,?_⟩;show turnT (toS (B [pq p,pq q]) λd=>.nx [f,.sh d,.sh<|pq q]) (jX (gV 2) (sy a Ff B)<|L.map pq)=_;rw[j p q (h.s1.mono<|by omega) (h.s2.mono<|by omega) (i.s1.mono<|by omega) (i.s2.mono<|by omega) h.ne i.ne];exact e
def I0(hf:Ff [.int 0,.int 1]=.ok (pq (0,1)))(f:yN B)(L:List Fq)(g:∀q∈L,Sm 2 q)(j:L.length<=40):hU (qU a Ff B<|hA 3 [.lst<|L.map pq])=.ok (pq<|L.foldl iS (0,1)):=by
 obtain⟨c,e⟩:=A1 (a:=a) (Ff:=Ff) f L 0 (0,1) (.sh (.lst (L.map pq))) .no g (uE (by omega)) (by omega);have i:iA 1 (dA Ff<|gI (gJ 0)<|gI (gJ 1) gL) [.sh<|.lst<|L.map pq,.no,.no]=.nx [.sh<|.lst<|L.map pq,.sh<|pq (0,1),.no]:=by show toS (Ff [.int 0,.int 1]) (λd=>RT.nx [.sh<|.lst<|L.map pq,.sh d,.no])=_;rw[hf];rfl
 have h:nT (λρ=>((dV 0) ρ).bind hJ) (gV 2) (sy a Ff B) [.sh<|.lst<|L.map pq,.sh<|pq (0,1),.no]=.nx [.sh<|.lst<|L.map pq,.sh<|pq<|L.foldl iS (0,1),c]:=e;show hU (qU a Ff B [.sh<|.lst<|L.map pq,.no,.no])=_;unfold qU;rw[l0,i,oJ,l0,h,oJ];rfl
def pD(G:gP)(v c:D):R Bool:=((k6 c .non).bind tB).bind λb=>if b=true then R.ok true else(pV<|G [v,c]).bind tT
def my(Ff:gP)(v:D):R D:=(hK v<|.int 0).bind λx=>(hK v<|.int 1).bind λy=>Ff [x,y]
def mu(Ff G:gP):List D->D->R D
 |[],c=>.ok c
 |v::r,c=>(pD G v c).bind λk=>if k=true then(my Ff v).bind λn=>mu Ff G r n else mu Ff G r c
def sW(Ff G:gP)(d:D):R D:=(hJ d).bind λc=>mu Ff G c .non
theorem AX(G c):∀j d f h,hU (lF (jX (gV 3) (oi a Ff G c) j [.sh f,.sh<|.ref c,.sh d,h])<|jy<|dV 2)=mu Ff G j d
 |[],d,f,h=>rfl
 |v::r,d,f,h=>by
  have i:=λg=>AX G c r g f (.sh v);have e:oi a Ff G c [.sh f,.sh<|.ref c,.sh d,.sh v]=toS (pD G v d) λk=>if k=true then toS (my Ff v) (λn=>.nx [.sh f,.sh<|.ref c,.sh n,.sh v])else .nx [.sh f,.sh<|.ref c,.sh d,.sh v]:=by
   have p:ox 1 c G (gI (dV 3)<|gI (dV 2) gL) [.sh f,.sh<|.ref c,.sh d,.sh v]=pV (G [v,d]):=ai rfl;have o:ly (b1 tB<|d2 k6 (dV 2)<|dC .non) (b1 tT<|ox 1 c G<|gI (dV 3)<|gI (dV 2) gL) [.sh f,.sh<|.ref c,.sh d,.sh v]=pD G v d:=by show((k6 d .non).bind tB).bind (λk=>if k=true then R.ok true else((ox 1 c G (gI (dV 3)<|gI (dV 2) gL) [.sh f,.sh<|.ref c,.sh d,.sh v])).bind tT)=_;rw[p];rfl
   have m:dA Ff (gI (gO 3 0)<|gI (gO 3 1) gL) [.sh f,.sh<|.ref c,.sh d,.sh v]=my Ff v:=by
    show((hK v<|.int 0).bind λx=>((hK v<|.int 1).bind λy=>R.ok [y]).bind λl=>R.ok<|x::l).bind Ff=_;unfold my;cases hK v (.int 0)with
    |bad=>rfl
    |ex _ _ _=>rfl
    |ok x=>cases hK v (.int 1)<;>rfl
   show toS (ly (b1 tB<|d2 k6 (dV 2)<|dC .non) (b1 tT<|ox 1 c G<|gI (dV 3)<|gI (dV 2) gL) [.sh f,.sh<|.ref c,.sh d,.sh v]) (λk=>if k=true then toS (dA Ff (gI (gO 3 0)<|gI (gO 3 1) gL) [.sh f,.sh<|.ref c,.sh d,.sh v]) (λn=>.nx [.sh f,.sh<|.ref c,.sh n,.sh v])else .nx [.sh f,.sh<|.ref c,.sh d,.sh v])=_;rw[o,m]
  show hU (lF (turnT (oi a Ff G c [.sh f,.sh<|.ref c,.sh d,.sh v])<|jX (gV 3) (oi a Ff G c) r)<|jy<|dV 2)=_;rw[e];unfold mu;cases pD G v d with
  |bad=>rfl
  |ex _ _ _=>rfl
  |ok k=>
   cases k with
   |false=>exact i d
   |true=>
    show hU (lF (turnT (toS (my Ff v)<|λn=>.nx [.sh f,.sh<|.ref c,.sh n,.sh v])<|jX (gV 3) (oi a Ff G c) r)<|jy<|dV 2)=(my Ff v).bind λn=>mu Ff G r n;cases my Ff v with
    |bad=>rfl
    |ex _ _ _=>rfl
    |ok n=>exact i n
def IL(G c d):sW Ff G d=.bad\/hU (Ap a Ff G c<|hA 4 [d,.ref c])=sW Ff G d:=by
 right;unfold sW;show hU (lF (toS (hJ d) λf=>jX (gV 3) (oi a Ff G c) f [.sh d,.sh<|.ref c,.sh .non,.no])<|jy<|dV 2)=_;cases hJ d with
 |bad=>rfl
 |ex _ _ _=>rfl
 |ok f=>exact AX G c f .non d .no
def pY(lt:Fq->Fq->Bool):Option Fq->Fq->Option Fq
 |none,p=>some p
 |some q,p=>if lt p q=true then some p else some q
theorem sV{G:gP}{lt:Fq->Fq->Bool}(hf:∀p,Sm 2 p->Ff [.int p.1,.int p.2]=.ok (pq p))(g:∀p q,Sm 2 p->Sm 2 q->G [pq p,pq q]=.ok (.bl<|lt p q)):∀(L:List Fq) (o:Option Fq),(∀p∈L,Sm 2 p)->(∀p,o=some p->Sm 2 p)->mu Ff G (L.map pq) (oD o)=.ok (oD<|L.foldl (pY lt) o)
 |[],o,_,_=>rfl
 |p::L,o,f,l=>by
  have d:=f p (.head _);have j:my Ff (pq p)=.ok (pq p):=hf p d;rw[aE,cY];unfold mu;cases o with
  |none=>have h:pD G (pq p) (oD none)=.ok true:=rfl;rw[h];show(my Ff<|pq p).bind (λn=>mu Ff G (L.map pq) n)=_;rw[j];exact sV hf g L (some p) (λx c=>f x<|.tail _ c) λx e=>by cases e;exact d
  |some q=>
   have i:=l q rfl;have h:pD G (pq p) (oD<|some q)=.ok (lt p q):=by show(pV<|G [pq p,pq q]).bind tT=_;rw[g p q d i];cases lt p q<;>rfl
   rw[h];cases k:lt p q with
   |true=>
    show(my Ff<|pq p).bind (λn=>mu Ff G (L.map pq) n)=_;rw[j];have:pY lt (some q) p=some p:=by show(if lt p q=true then some p else some q)=_;rw[k];rfl
    rw[this];exact sV hf g L (some p) (λx c=>f x<|.tail _ c) λx e=>by cases e;exact d
   |false=>
    have:pY lt (some q) p=some q:=by show(if lt p q=true then some p else some q)=_;rw[k];rfl
    rw[this];exact sV hf g L (some q) (λx c=>f x<|.tail _ c) λx e=>by cases e;exact i
structure Dy where
 w:Str
 d:Int
 st:Int
 t:Fq
 lo:Option Fq
 hi:Option Fq
 mr:Int
 fl:Int
def Dy.v(x:Dy):D:=.tup [.str x.w,.int x.d,.int x.st,pq x.t,oD x.lo,oD x.hi,.int x.mr,.int x.fl]
structure Dy.Ok(x:Dy):Prop where
 w:PyData.strOk x.w=true
 t:Sm 2 x.t
 z:x.st<=0->x.t=(0,1)/\x.lo=none/\x.hi=none
 nz:0<x.st->∃p q,x.lo=some p/\x.hi=some q/\Sm 2 p/\Sm 2 q
def nJ(p q:Fq):Bool:=decide (p.1*q.2<q.1*p.2)
def kO(p q:Fq):Bool:=decide (q.1*p.2<p.1*q.2)
def total(g:List Dy):Fq:=g.foldl (λp x=>iS p x.t) (0,1)
def kQ(lt:Fq->Fq->Bool)(o:Option Fq):Option Fq->Option Fq
 |none=>o
 |some p=>pY lt o p
def least(g:List Dy):Option Fq:=g.foldl (λo x=>kQ nJ o x.lo) none
def most(g:List Dy):Option Fq:=g.foldl (λo x=>kQ kO o x.hi) none
def tell(g:List Dy):List D:=[.int (g.map Dy.st).sum,pq<|total g,oD<|least g,oD<|most g,.int (g.map Dy.mr).sum,.int (g.map Dy.fl).sum]
def pos(x:Dy):Bool:=decide (0<x.st)
theorem CN:∀(g:List Dy) (p:Fq),(∀x∈g,x.Ok)->FM.kX p.1 p.2->g.foldl (λp x=>iS p x.t) p=((g.filter pos).map Dy.t).foldl iS p
 |[],p,_,_=>rfl
 |x::g,p,h,c=>by
  have f:=h x (.head _);have d:=λp c=>CN g p (λy j=>h y<|.tail _ j) c;rw[cY];by_cases i:0<x.st
  ·rw[cS (p:=pos)<|aV i,aE,cY];exact d _ (FM.pQ<|dB (by have:=c.pos;omega) f.t.ne)
  ·rw[cT<|by unfold pos;simpa using i,(f.z<|by omega).1,Ed c];exact d p c
theorem xk(lt:Fq->Fq->Bool)(f:Dy->Option Fq):∀(g:List Dy) (o:Option Fq),(∀x∈g,(x.st<=0->f x=none)/\(0<x.st->∃p,f x=some p))->g.foldl (λo x=>kQ lt o<|f x) o=((g.filter pos).map λx=>(f x).getD (0,1)).foldl (pY lt) o
 |[],o,_=>rfl
 |x::g,o,h=>by
  obtain⟨k,j⟩:=h x (.head _);have d:=λo=>xk lt f g o λy i=>h y (.tail _ i);rw[cY];by_cases c:0<x.st
  ·obtain⟨p,e⟩:=j c;rw[cS (p:=pos)<|aV c,aE,cY,e];exact d _
  ·rw[cT<|by unfold pos;simpa using c,k<|by omega];exact d o
theorem zp{i:Type}{j:D->Ev->Option Ev}{c:Ev->R Bool}{e:g7}{g:Ev}(f h:i->D)(p:i->Bool):∀(L:List i),(∀r∈L,∃d,j (f r) g=some d/\c d=.ok (p r)/\e d=.ok (h r))->kK j c e g (L.map f)=some ((L.filter p).map h)
 |[],_=>rfl
 |r::L,l=>by
  obtain⟨d,s,o,n⟩:=l r (.head _);have k:=zp f h p L λx m=>l x (.tail _ m);rw[aE];unfold kK;rw[s];show(nO<|c d).bind _=_;rw[o];show(if p r=true then _ else _)=_;cases q:p r with
  |false=>rw[ak aA,k,cT<|by rw[q];exact aA]
  |true=>rw[ai rfl,n,cS q];show(kK j c e g<|L.map f).bind _=_;rw[k];rfl
def vA{c:Type}(f h:c->D)(p:c->Bool){fi:Ev->R (List D)}{ci:List Nat}{fc:Ev->R Bool}{fe:g7}{ρ kr:Ev}{L:List c}(hi:fi ρ=.ok (L.map f))(d:kg 1 ci ρ=.no::kr)(k:L.length<=1000)(j:∀x∈L,fc (.sh (f x)::kr)=.ok (p x))(i:∀x∈L,fe (.sh (f x)::kr)=.ok (h x)):ig (iq fi 1 ci (gV 0) fc fe) ρ=.ok (.lst<|(L.filter p).map h):=by unfold ig;rw[B5,hi,d];show((if(L.map f).length<=sizeLine then tZ (kK (gV 0) fc fe (.no::kr)<|L.map f)else .bad):R<|List D).bind _=_;rw[ai<|by rw[aD];exact bJ (oU<|by omega),zp f h p L λx g=>⟨.sh (f x)::kr,rfl,j x g,i x g⟩];rfl
def ot{d:Type}(f h:d->D){fi:Ev->R (List D)}{fe:g7}{L:List d}(hi:fi ρ=.ok (L.map f))(c:kg 1 ci ρ=.no::kr)(g:L.length<=1000)(i:∀x∈L,fe (.sh (f x)::kr)=.ok (h x)):ig (iq fi 1 ci (gV 0) (λ_=>.ok true) fe) ρ=.ok (.lst<|L.map h):=by have:=vA f h (λ_=>true) (fc:=λ_=>.ok true) hi c g (λ_ _=>rfl) i;rw[this,List.filter_eq_self.mpr λ_ _=>rfl]
def ints_map(c:List Int):q8 (c.map D.int)=some c:=by
 induction c with
 |nil=>rfl
 |cons n r d=>rw[aE];unfold q8;rw[d];rfl
def Cs{c:Type}(L:List c)(h:c->Int):kR [.lst<|L.map λx=>.int<|h x]=.ok (.int (L.map h).sum):=by
 have e:(L.map λx=>D.int<|h x)=(L.map h).map D.int:=by rw[bw];rfl
 unfold kR;rw[e];dsimp only;rw[ints_map]
variable{E A:gP}{C:(gP)->D->R D}
structure Gt(E A:gP)(C:(gP)->D->R D):Prop where
 t:∀L:List Fq,(∀q∈L,Sm 2 q)->L.length<=40->E [.lst<|L.map pq]=.ok (pq<|L.foldl iS (0,1))
 u:∀p q,Sm 2 p->Sm 2 q->A [pq p,pq q]=.ok (.bl<|nJ p q)
 f:∀(G:gP) (lt:Fq->Fq->Bool),(∀p q,Sm 2 p->Sm 2 q->G [pq p,pq q]=.ok (.bl<|lt p q))->∀L:List Fq,(∀q∈L,Sm 2 q)->C G (.lst<|L.map pq)=.ok (oD<|L.foldl (pY lt) none)
def IQ(H:Gt E A C)(w:Str)(k:Int)(g:List Dy)(t:∀x∈g,x.Ok)(Y:g.length<=40):hU (qS a E A C<|hA 10 [.str w,.int k,.lst<|g.map Dy.v])=.ok (.tup<|.str w::.int k::tell g):=by
 have s:∀x∈g.filter pos,x.Ok/\0<x.st:=λx l=>⟨t x (cC.mp l).1,bh (cC.mp l).2⟩;have O:(g.filter pos).length<=40:=aI (cZ ..) Y;have y:∀x∈g.filter pos,oD x.lo=pq (x.lo.getD (0,1))/\Sm 2 (x.lo.getD (0,1)):=λx l=>by obtain⟨o,z⟩:=s x l;obtain⟨p,q,v,V,U,T⟩:=o.nz z;rw[v];exact⟨rfl,U⟩
 have F:∀x∈g.filter pos,oD x.hi=pq (x.hi.getD (0,1))/\Sm 2 (x.hi.getD (0,1)):=λx l=>by obtain⟨o,z⟩:=s x l;obtain⟨p,q,v,V,U,T⟩:=o.nz z;rw[V];exact⟨rfl,T⟩
 have m:∀(ρ:Ev) (j:Int) (h:Dy->Int),ρ[2]?=some (.sh<|.lst<|g.map Dy.v)->(∀x:Dy,hK x.v (.int j)=.ok (.int<|h x))->dA kR (gI (ig<|iq (λρ=>((dV 2) ρ).bind hJ) 1 [] (gV 0) (λ_=>.ok true)<|gO 0 j) gL) ρ=.ok (.int (g.map h).sum):=λρ j h G P=>by have c:=ot (fi:=λρ=>((dV 2) ρ).bind hJ) (ci:=[]) (fe:=gO 0 j) (ρ:=ρ) (kr:=[]) Dy.v (λx=>.int<|h x) (L:=g) (by show(dV 2 ρ).bind hJ=_;unfold dV;rw[G];rfl) rfl (by omega) λx _=>P x;show(((ig (iq (λρ=>((dV 2) ρ).bind hJ) 1 [] (gV 0) (λ_=>.ok true)<|gO 0 j) ρ)).bind λx=>(R.ok [x]:R<|List D)).bind kR=_;rw[c];exact Cs g h
 have val:∀(ρ:Ev) (j:Int) (h:Dy->D),ρ[4]?=some (.sh<|.lst<|(g.filter pos).map Dy.v)->(∀x∈g.filter pos,hK x.v (.int j)=.ok (h x))->ig (iq (λρ=>((dV 4) ρ).bind hJ) 1 [] (gV 0) (λ_=>.ok true)<|gO 0 j) ρ=.ok (.lst<|(g.filter pos).map h):=λρ j h G P=>ot (fi:=λρ=>((dV 4) ρ).bind hJ) (ci:=[]) (fe:=gO 0 j) (ρ:=ρ) (kr:=[]) Dy.v h (L:=g.filter pos) (by show(dV 4 ρ).bind hJ=_;unfold dV;rw[G];rfl) rfl (by omega) P
 have Q:∀ρ:Ev,ρ[2]?=some (.sh<|.lst<|g.map Dy.v)->ig (iq (λρ=>((dV 2) ρ).bind hJ) 1 [] (gV 0) (b1 tB<|d2 lR (gO 0 2)<|gJ 0)<|dV 0) ρ=.ok (.lst<|(g.filter pos).map Dy.v):=λρ G=>vA (fi:=λρ=>((dV 2) ρ).bind hJ) (ci:=[]) (ρ:=ρ) (kr:=[]) Dy.v Dy.v pos (L:=g) (by show(dV 2 ρ).bind hJ=_;unfold dV;rw[G];rfl) rfl (by omega) (λx _=>rfl) λx _=>rfl
 have J:E [.lst ((g.filter pos).map λx=>pq x.t)]=.ok (pq (total g)):=by have e:=H.t ((g.filter pos).map Dy.t) (λq r=>by obtain⟨x,l,rfl⟩:=aP.mp r;exact(s x l).1.t) (by rw[aD];exact O);rw[bw]at e;unfold total;rw[CN g (0,1) t Ba];exact e
 have N:C A (.lst<|(g.filter pos).map λx=>oD x.lo)=.ok (oD<|least g):=by
  have e:=H.f A nJ H.u ((g.filter pos).map λx=>x.lo.getD (0,1)) λq r=>by obtain⟨x,l,rfl⟩:=aP.mp r;exact(y x l).2
  rw[bw]at e;rw[bW (g:=pq∘λx=>x.lo.getD (0,1)) λx l=>(y x l).1,e];unfold least;rw[xk nJ Dy.lo g none λx l=>⟨λh=>((t x l).z h).2.1,λh=>by obtain⟨p,q,v,_⟩:=(t x l).nz h;exact⟨p,v⟩⟩]
 have M:C (λI=>(dA A<|gI (dV 1)<|gI (dV 0) gL) (hA 2 I)) (.lst<|(g.filter pos).map λx=>oD x.hi)=.ok (oD<|most g):=by
  have e:=H.f (λI=>(dA A (gI (dV 1) (gI (dV 0) gL))) (hA 2 I)) kO (λp q z r=>by show A [pq q,pq p]=_;rw[H.u q p r z];rfl) ((g.filter pos).map λx=>x.hi.getD (0,1)) λq r=>by obtain⟨x,l,rfl⟩:=aP.mp r;exact(F x l).2
  rw[bw]at e;rw[bW (g:=pq∘λx=>x.hi.getD (0,1)) λx l=>(F x l).1,e];unfold most;rw[xk kO Dy.hi g none λx l=>⟨λh=>((t x l).z h).2.2,λh=>by obtain⟨p,q,_,v,_⟩:=(t x l).nz h;exact⟨q,v⟩⟩]
 show hU (qS a E A C [.sh<|.str w,.sh<|.int k,.sh<|.lst<|g.map Dy.v,.no,.no,.no,.no,.no,.no,.no])=_;unfold qS;have n:∀{i:Nat} {f:g7} {ρ:Ev} {d:D} {u:hX},f ρ=.ok d->i<ρ.length->iu (iA i f) u ρ=u (ρ.set i<|.sh d):=λ{i f ρ d u} h hi=>by rw[l0,ur,h];show lF (if i<ρ.length then .nx _ else .bad) u=_;rw[ai hi];rfl
 rw[n (m _ 2 Dy.st rfl λ_=>rfl)<|by show 3<10;decide];rw[n (Q _ rfl)<|by show 4<10;decide];rw[n (d:=pq<|total g) (by show((ig (iq (λρ=>((dV 4) ρ).bind hJ) 1 [] (gV 0) (λ_=>.ok true)<|gO 0 3) _).bind λx=>(R.ok [x]:R<|List D)).bind E=_;rw[val _ 3 (λx=>pq x.t) rfl λ_ _=>rfl];exact J)<|by show 5<10;decide]
 rw[n (d:=oD<|least g) (by show(ig (iq (λρ=>((dV 4) ρ).bind hJ) 1 [] (gV 0) (λ_=>.ok true)<|gO 0 4) _).bind (λx=>C A x)=_;rw[val _ 4 (λx=>oD x.lo) rfl λ_ _=>rfl];exact N)<|by show 6<10;decide]
 rw[n (d:=oD<|most g) (by show(ig (iq (λρ=>((dV 4) ρ).bind hJ) 1 [] (gV 0) (λ_=>.ok true)<|gO 0 5) _).bind (λx=>C (λI=>(dA A<|gI (dV 1)<|gI (dV 0) gL) (hA 2 I)) x)=_;rw[val _ 5 (λx=>oD x.hi) rfl λ_ _=>rfl];exact M)<|by show 7<10;decide]
 rw[n (m _ 6 Dy.mr rfl λ_=>rfl)<|by show 8<10;decide];rw[n (m _ 7 Dy.fl rfl λ_=>rfl)<|by show 9<10;decide];rfl
variable{a:Ad}
variable{m:gP}
def ml(m:gP):Prop:=∀t b:Int,0<b->b.natAbs<10^400->m [.int t,.int b]=.ok (fr t b)
def Sm.sz{n}(h:Sm n p)(c:n<=190):Sz 190 p.1/\Sz 190 p.2:=⟨h.s1.mono c,h.s2.mono c⟩
def BL{lt u}(f:∀p,o=some p->Sm 2 p)(d:∀p,u=some p->Sm 2 p):∀p,kQ lt o u=some p->Sm 2 p:=by
 intro p e;cases u with
 |none=>exact f p e
 |some v=>
  cases o with
  |none=>cases e;exact d _ rfl
  |some w=>
   have c:(if lt v w=true then some v else some w)=some p:=e;by_cases h:lt v w=true;·rw[ai h]at c;cases c;exact d _ rfl
   ·rw[ak h]at c;cases c;exact f _ rfl
def Dy.Ok.lo{x:Dy}(h:x.Ok):∀p,x.lo=some p->Sm 2 p:=λp e=>by
 by_cases d:0<x.st
 ·obtain⟨g,q,f,_,c,_⟩:=h.nz d;rw[f]at e;cases e;exact c
 ·rw[(h.z<|by omega).2.1]at e;cases e
def Dy.Ok.hi{x:Dy}(h:x.Ok):∀p,x.hi=some p->Sm 2 p:=λp e=>by
 by_cases d:0<x.st
 ·obtain⟨g,q,_,f,_,c⟩:=h.nz d;rw[f]at e;cases e;exact c
 ·rw[(h.z<|by omega).2.2]at e;cases e
def oq(d:D->D->R D)(f c:g7):Ev->R Bool:=lL (b1 tB<|d2 nE f<|dC .non) (ly (b1 tB<|d2 k6 c<|dC .non)<|b1 tB<|d2 d (d2 hD (d2 hK f<|gJ 0)<|d2 hK c<|gJ 1)<|d2 hD (d2 hK c<|gJ 0)<|d2 hK f<|gJ 1)
def Cy{ρ:Ev}{i:Nat}{s:Sl}(h:ρ[i]?=some s):ρ.set i s=ρ:=by
 refine eV λj=>?_;by_cases e:i=j;·subst e;rw[aR (ar.mp h).1,h]
 ·rw[ax e]
def AE{lt:Fq->Fq->Bool}{op:D->D->R D}(g:∀p q:Fq,op (.int<|p.1*q.2) (.int<|q.1*p.2)=.ok (.bl<|lt p q)){o cur:Option Fq}(t:∀q,o=some q->Sm 2 q)(u:∀q,cur=some q->Sm 2 q){ρ:Ev}{f c:g7}{i:Nat}(hf:f ρ=.ok (oD o))(d:c ρ=.ok (oD cur))(hi:ρ[i]?=some (.sh<|oD cur)):
    mF (oq op f c) (iA i f) mG ρ=.nx (ρ.set i<|.sh<|oD<|kQ lt cur o):=by
 have li:i<ρ.length:=(ar.mp hi).1;have j:iA i f ρ=.nx (ρ.set i<|.sh<|oD o):=by rw[ur,hf];show(if i<ρ.length then RT.nx _ else .bad)=_;rw[ai li]
 rw[B9];cases o with
 |none=>
  have e:oq op f c ρ=.ok false:=by unfold oq lL b1 d2;rw[hf];rfl
  rw[e];show RT.nx ρ=_;rw[show kQ lt cur none=cur from rfl,Cy hi]
 |some p=>
  cases cur with
  |none=>
   have e:oq op f c ρ=.ok true:=by unfold oq lL ly b1 d2;rw[hf,d];rfl
   rw[e];exact j
  |some q=>
   have l:=t p rfl;have k:=u q rfl;have s:=k7 (l.s1.mono (n:=190)<|by decide) (k.s2.mono (n:=190)<|by decide);have r:=k7 (k.s1.mono (n:=190)<|by decide) (l.s2.mono (n:=190)<|by decide);have e:oq op f c ρ=.ok (lt p q):=by unfold oq lL ly b1 d2;rw[hf,d];show(((hD (.int p.1)<|.int q.2).bind λx=>(hD (.int q.1)<|.int p.2).bind λy=>op x y).bind tB)=_;rw[s,r];show(op (.int<|p.1*q.2)<|.int<|q.1*p.2).bind tB=_;rw[g];rfl
   rw[e];cases h:lt p q with
   |true=>
    have:kQ lt (some q) (some p)=some p:=by show(if lt p q=true then some p else some q)=_;rw[h];rfl
    rw[this];exact j
   |false=>
    have:kQ lt (some q) (some p)=some q:=by show(if lt p q=true then some p else some q)=_;rw[h];rfl
    rw[this,Cy hi];rfl
def PN(L:ml m){x:Dy}(d:x.Ok){n}(N:n<=150)(g:Sm n p){lo hi}(j:∀q,lo=some q->Sm 2 q)(k:∀q,hi=some q->Sm 2 q)(s0 s6):
    om a m [s0,.sh<|.int p.1,.sh<|.int p.2,.sh<|oD lo,.sh<|oD hi,.sh x.v,s6]=.nx [s0,.sh<|.int (iS p x.t).1,.sh<|.int (iS p x.t).2,.sh<|oD<|kQ nJ lo x.lo,.sh<|oD<|kQ kO hi x.hi,.sh x.v,s6]:=by
 obtain⟨F,s⟩:=g.sz (by omega);obtain⟨w,l⟩:=d.t.sz (by omega);have J:=k7 F l;have I:=k7 w s;have G:=k7 s l;have f:=L (p.1*x.t.2+x.t.1*p.2) (p.2*x.t.2) (Int.mul_pos g.low.pos d.t.low.pos) (((g.s2.mul d.t.s2).mono (n:=400) (by omega)))
 have M:∀u:hX,iu (qb (dA m<|gI (d2 ik (d2 hD (dV 1)<|d2 hK (gO 5 3)<|gJ 1)<|d2 hD (d2 hK (gO 5 3)<|gJ 0)<|dV 2)<|gI (d2 hD (dV 2)<|d2 hK (gO 5 3)<|gJ 1) gL)<|gT 2<|gC (gV 1)<|gC (gV 2) gN) u [s0,.sh<|.int p.1,.sh<|.int p.2,.sh<|oD lo,.sh<|oD hi,.sh x.v,s6]
  =u [s0,.sh<|.int (iS p x.t).1,.sh<|.int (iS p x.t).2,.sh<|oD lo,.sh<|oD hi,.sh x.v,s6]:=λu=>by
  have h:dA m (gI (d2 ik (d2 hD (dV 1)<|d2 hK (gO 5 3)<|gJ 1)<|d2 hD (d2 hK (gO 5 3)<|gJ 0)<|dV 2)<|gI (d2 hD (dV 2)<|d2 hK (gO 5 3)<|gJ 1) gL) [s0,.sh<|.int p.1,.sh<|.int p.2,.sh<|oD lo,.sh<|oD hi,.sh x.v,s6]=.ok (fr (p.1*x.t.2+x.t.1*p.2)<|p.2*x.t.2):=by show((((hD (.int p.1)<|.int x.t.2).bind λu=>(hD (.int x.t.1)<|.int p.2).bind λv=>ik u v).bind λy=>((hD (.int p.2)<|.int x.t.2).bind λz=>(R.ok [z]:R<|List D)).bind λt=>R.ok<|y::t)).bind m=_;rw[J,I,G];exact f
  rw[l0];unfold qb;rw[h];rfl
 unfold om;rw[M,l0];refine(cn (λr=>lF r _)<|AE (lt:=nJ) (op:=nL) (o:=x.lo) (cur:=lo) (i:=3) (f:=gO 5 4) (c:=dV 3) (λ_ _=>rfl) d.lo j rfl rfl rfl).trans ?_;exact AE (lt:=kO) (op:=lR) (o:=x.hi) (cur:=hi) (i:=4) (f:=gO 5 5) (c:=dV 4) (λ_ _=>rfl) d.hi k rfl rfl rfl
theorem AZ(s:ml m)(i h:Sl):∀(g:List Dy) (k:Nat) (p:Fq) (lo hi:Option Fq) (s5:Sl),(∀x∈g,x.Ok)->Sm (3*k+1) p->k+g.length<=40->(∀q,lo=some q->Sm 2 q)->(∀q,hi=some q->Sm 2 q)->
 ∃c,jX (gV 5) (om a m) (g.map Dy.v) [i,.sh<|.int p.1,.sh<|.int p.2,.sh<|oD lo,.sh<|oD hi,s5,h]=.nx [i,.sh<|.int (g.foldl (λp x=>iS p x.t) p).1,.sh<|.int (g.foldl (λp x=>iS p x.t) p).2,.sh<|oD<|g.foldl (λo x=>kQ nJ o x.lo) lo,.sh<|oD<|g.foldl (λo x=>kQ kO o x.hi) hi,c,h]
 |[],k,p,lo,hi,s5,_,_,_,_,_=>⟨s5,rfl⟩
 |x::g,k,p,lo,hi,s5,r,l,u,d,f=>by rw[ao]at u;have j:=r x (.head _);obtain⟨c,e⟩:=AZ s i h g (k+1) (iS p x.t) (kQ nJ lo x.lo) (kQ kO hi x.hi) (.sh x.v) (λy t=>r y<|.tail _ t) ((l.add j.t).mono (by omega)) (by omega) (BL d j.lo) (BL f j.hi);refine⟨c,?_⟩;show turnT (om a m [i,.sh<|.int p.1,.sh<|.int p.2,.sh<|oD lo,.sh<|oD hi,.sh x.v,h]) (jX (gV 5) (om a m)<|g.map Dy.v)=_;rw[PN s j (n:=3*k+1) (by omega) l d f];exact e
def IV(n:ml m)(g:List Dy)(l:∀x∈g,x.Ok)(u:g.length<=40):hU (qX a m<|hA 7 [.lst<|g.map Dy.v])=.ok (.tup<|tell g):=by
 obtain⟨f,e⟩:=AZ (a:=a) n (.sh (.lst (g.map Dy.v))) .no g 0 (0,1) none none .no l (uE (by omega)) (by omega) (λ_ h=>nomatch h) (λ_ h=>nomatch h);have d:∀ρ:Ev,ρ[0]?=some (.sh<|.lst<|g.map Dy.v)->ig (iq (λρ=>((dA iZ<|gI (gJ 2)<|gI (gJ 6)<|gI (gJ 7) gL) ρ).bind hJ) 1 [0] (gV 0) (λ_=>.ok true)<|dA kR<|gI (ig<|iq (λρ=>((dV 1) ρ).bind hJ) 1 [0] (gV 0) (λ_=>.ok true)<|d2 hK (dV 0)<|dV 1) gL) ρ=.ok (.lst [.int (g.map Dy.st).sum,.int (g.map Dy.mr).sum,.int (g.map Dy.fl).sum]):=λρ t=>by
  have one:∀(j:Int) (h:Dy->Int),(∀x:Dy,hK x.v (.int j)=.ok (.int<|h x))->dA kR (gI (ig<|iq (λρ=>((dV 1) ρ).bind hJ) 1 [0] (gV 0) (λ_=>.ok true)<|d2 hK (dV 0)<|dV 1) gL) [.sh<|.int j,.sh<|.lst<|g.map Dy.v]=.ok (.int (g.map h).sum):=λj h k=>by have c:=ot (fi:=λρ=>((dV 1) ρ).bind hJ) (ci:=[0]) (fe:=d2 hK (dV 0)<|dV 1) (ρ:=[.sh<|.int j,.sh<|.lst<|g.map Dy.v]) (kr:=[.sh<|.int j]) Dy.v (λx=>.int<|h x) (L:=g) rfl rfl (by omega) λx _=>k x;show(((ig<|iq (λρ=>((dV 1) ρ).bind hJ) 1 [0] (gV 0) (λ_=>.ok true)<|d2 hK (dV 0)<|dV 1) [.sh<|.int j,.sh<|.lst<|g.map Dy.v]).bind λx=>(R.ok [x]:R<|List D)).bind kR=_;rw[c];exact Cs g h
  have c:=ot (fi:=λρ=>((dA iZ (gI (gJ 2) (gI (gJ 6) (gI (gJ 7) gL)))) ρ).bind hJ) (ci:=[0]) (fe:=dA kR (gI (ig (iq (λρ=>((dV 1) ρ).bind hJ) 1 [0] (gV 0) (λ_=>.ok true) (d2 hK (dV 0) (dV 1)))) gL)) (ρ:=ρ) (kr:=[.sh (.lst (g.map Dy.v))]) (λp:Int×(Dy->Int)=>D.int p.1) (λp=>.int (g.map p.2).sum) (L:=[(2,Dy.st),(6,Dy.mr),(7,Dy.fl)]) rfl (by unfold kg;rw[aE,cg,t];rfl) (by decide) (λp i=>by
   simp only[aF,cx,fm]at i;rcases i with rfl|rfl|rfl;· exact one 2 Dy.st λ_=>rfl
   · exact one 6 Dy.mr λ_=>rfl
   · exact one 7 Dy.fl λ_=>rfl)
  exact c
 show hU (qX a m [.sh<|.lst<|g.map Dy.v,.no,.no,.no,.no,.no,.no])=_;unfold qX;have s:qb (dA iZ<|gI (gJ 0)<|gI (gJ 1) gL) (gT 2<|gC (gV 1)<|gC (gV 2) gN) [.sh<|.lst<|g.map Dy.v,.no,.no,.no,.no,.no,.no]=.nx [.sh<|.lst<|g.map Dy.v,.sh<|.int 0,.sh<|.int 1,.no,.no,.no,.no]:=rfl;have r:iA 3 (dC .non) [.sh<|.lst<|g.map Dy.v,.sh<|.int 0,.sh<|.int 1,.no,.no,.no,.no]=.nx [.sh<|.lst<|g.map Dy.v,.sh<|.int 0,.sh<|.int 1,.sh .non,.no,.no,.no]:=rfl;have q:iA 4 (dC .non) [.sh<|.lst<|g.map Dy.v,.sh<|.int 0,.sh<|.int 1,.sh .non,.no,.no,.no]=.nx [.sh<|.lst<|g.map Dy.v,.sh<|.int 0,.sh<|.int 1,.sh .non,.sh .non,.no,.no]:=rfl;have o:nT (λρ=>((dV 0) ρ).bind hJ) (gV 5) (om a m) [.sh<|.lst<|g.map Dy.v,.sh<|.int 0,.sh<|.int 1,.sh .non,.sh .non,.no,.no]=.nx [.sh<|.lst<|g.map Dy.v,.sh<|.int (total g).1,.sh<|.int (total g).2,.sh<|oD<|least g,.sh<|oD<|most g,f,.no]:=e;rw[l0,s,oJ,l0,r,oJ,l0,q,oJ,l0,o,oJ,l0,ur,d _ rfl];rfl
variable{a:Ad}
def key(x:Dy):List Key:=[.inl x.d,.inr x.w]
def jg(k:List Key)(x:Dy):Bool:=decide (key x=k)
variable{l:List<|List Key×Z}{k:List Key}{z:Z}
def rO:k∈l.map Prod.fst↔(valZ l k).isSome=true:=by unfold valZ;rw[Option.isSome_map,List.find?_isSome,aP];exact⟨λ⟨p,d,c⟩=>⟨p,d,aV c⟩,λ⟨p,d,c⟩=>⟨p,d,bh c⟩⟩
def B1(h:valZ l k=none):jn l k z=l++[(k,z)]:=by
 have:(l.any λc=>decide<|c.1=k)=false:=bM.mpr λp d e=>by have:k∈l.map Prod.fst:=aP.mpr ⟨p,d,bh e⟩;rw[rO,h]at this;cases this
 unfold jn;rw[this];rfl
end
structure PJ(n:Nat)(done:List Dy)(S:gR)(kvs:List<|List Key×Z):Prop where
 lC:S[0]?=some .mk
 at_:S[n]?=some (.dt kvs)
 ln:kvs.length<=done.length
 nd:(kvs.map Prod.fst).Nodup
 ks:∀k,k∈kvs.map Prod.fst↔∃x∈done,key x=k
 vl:∀k z,valZ kvs k=some z->∃m,z=.loc m/\n<m/\S[m]?=some (.li<|((done.filter<|jg k).map Dy.v).map Z.d)
 ij:∀k k' m,valZ kvs k=h9 m->valZ kvs k'=h9 m->k=k'
 bnd:me S
section
variable{i:gU}{T:gR}{n:Nat}{f r g:h8}
def QL(hf:f i T=.ok (.loc n) T)(d:T[n]?=some (.dt M))(l:r i T=.ok (.tk k) T)(j:M.length<100000):uO f r (qq (λi=>(gL i).bind km)) i T=(match valZ M k with
    |some z=>RX.ok z (T++[Cell.li []])
    |none=>RX.ok (Z.loc T.length) ((T++[Cell.li []]).set n (.dt (jn M k (.loc T.length))))):=by
 have m:(T++[Cell.li []])[n]?=some (.dt M):=by rw[ag<|lW d];exact d
 unfold uO;rw[hf]
 show(match T[n]? with
  |some (.dt _)=>(r i T).bind λy o=>(qq (λi=>(gL i).bind km) i o).bind λx h=>(match y,h[n]? with
   |.tk k,some (.dt c)=>if c.length<sizeLine then(match valZ c k with
     |some z=>RX.ok z h
     |none=>RX.ok x (h.set n (.dt (jn c k x))))else RX.bad
   |_,_=>RX.bad)
  |_=>RX.bad)=_
 rw[d];show((r i T).bind _)=_;rw[l]
 show(match Z.tk k,(T++[Cell.li []])[n]? with
  |.tk k,some (.dt c)=>if c.length<sizeLine then(match valZ c k with
    |some z=>RX.ok z (T++[Cell.li []])
    |none=>RX.ok (.loc T.length) ((T++[Cell.li []]).set n (.dt (jn c k (.loc T.length)))))else RX.bad
  |_,_=>RX.bad)=_
 rw[m];exact ai (oU j)
def Dc(hf:f i S=.ok (.loc n) S1)(c:S1[n]?=some (.li zs))(j:g i S1=.ok z S1)(h:zs.length<100000):uM f g i S=.nx i (S1.set n<|.li<|zs++[z]):=by
 unfold uM;rw[hf]
 show(match S1[n]? with
  |some (.li _)=>toZ (g i S1) λz d=>(match d[n]? with
   |some (.li zs)=>if zs.length<sizeLine then .nx i (d.set n<|.li<|zs++[z])else .bad
   |_=>.bad)
  |_=>.bad)=_
 rw[c];show toZ (g i S1) _=_;rw[j]
 show(match S1[n]? with
  |some (.li zs)=>if zs.length<sizeLine then jI.nx i (S1.set n<|.li<|zs++[z])else .bad
  |_=>.bad)=_
 rw[c];exact ai (oU h)
variable{b:List Dy}{S:gR}{kvs:List<|List Key×Z}{Fg:gP}
def Ac(k x):(b++[x]).filter (jg k)=b.filter (jg k)++(if key x=k then[x]else[]):=by
 rw[List.filter_append];by_cases h:key x=k;·rw[ai h,cS (p:=jg k)<|aV h];rfl
 ·rw[ak h,cT<|by unfold jg;simpa using h];rfl
def PQ(I:PJ n b S kvs)(x:Dy)(hl:b.length<1000)(s0):∃S' A,pA a Fg [s0,h9 n,ic x.v] S=.nx [s0,h9 n,ic x.v] S'/\PJ n (b++[x]) S' A:=by
 have hn:=lW I.at_;have Y:n≠0:=λe=>by have:=I.at_;rw[e,I.lC]at this;cases this
 have hk:oX (iU (zD<|gO 2 1)<|iU (zD<|gO 2 0) kc) [s0,h9 n,ic x.v] S=.ok (.tk<|key x) S:=
  Di (ds:=[.int x.d,.str x.w]) (lG (iE rfl)<|lG (iE rfl) oZ) rfl (show 2<1000 by decide)
 have F:=QL (f:=zV 1) (qu rfl) I.at_ hk (by have:=I.ln;omega);have RF:(b++[x]).length=b.length+1:=by rw[aq];rfl
 cases q:valZ kvs (key x)with
 |some z=>
  obtain⟨m,rfl,hm,J⟩:=I.vl _ _ q;have V:=lW J;rw[q]at F;have O:(S++[Cell.li []])[m]?=some (.li<|((b.filter<|jg<|key x).map Dy.v).map Z.d):=by rw[ag V];exact J
  refine⟨_,kvs,Dc F O (iE rfl) (by rw[aD,aD];have:=cZ (jg<|key x) b;omega),?_,?_,by have:=I.ln;omega,I.nd,λk=>(I.ks k).trans ⟨λ⟨y,d,l⟩=>⟨y,bR _ d,l⟩,λ⟨y,d,l⟩=>?_⟩,λk z p=>?_,I.ij,λj G=>?_⟩;·rw[ax<|by omega,ag<|by omega];exact I.lC
  ·rw[ax<|by omega,ag<|by omega];exact I.at_
  ·rcases bx.mp d with d|d;·exact⟨y,d,l⟩
   ·rw[aJ.mp d]at l;exact(I.ks k).mp (rO.mpr<|by rw[<-l,q];rfl)
  ·obtain⟨D,rfl,s,o⟩:=I.vl _ _ p;refine⟨D,rfl,s,?_⟩;rw[Ac];by_cases e:key x=k
   ·subst e;rw[q]at p;cases p;rw[set_same<|by rw[aq];omega,ai rfl,bO,bO];rfl
   ·rw[ak e,aZ,ax<|λw=>by subst w;exact e (I.ij _ _ _ q p),ag<|lW o];exact o
  ·rw[bp,aq]at G;refine uA (nU (I.bnd j<|by omega) rfl) ?_;rw[show[Z.d x.v]=[x.v].map Z.d from rfl,<-bO];exact q7 _ _
 |none=>
  rw[q]at F;have N:∀y∈b,key y≠key x:=λy M e=>by have:=rO.mp ((I.ks _).mpr ⟨y,M,e⟩);rw[q]at this;cases this
  have hf:b.filter (jg<|key x)=[]:=List.filter_eq_nil_iff.mpr λy M e=>N y M (bh e);have O:((S++[Cell.li []]).set n (.dt<|jn kvs (key x)<|.loc S.length))[S.length]?=some (.li []):=by rw[ax<|by omega];exact lQ S _
  refine⟨_,jn kvs (key x)<|.loc S.length,Dc F O (iE rfl)<|by decide,?_,?_,?_,?_,λk=>?_,λk z p=>?_,λk Q m d l=>?_,λj G=>?_⟩;·rw[ax<|by omega,ax<|by omega,ag<|by omega];exact I.lC
  ·rw[ax<|by omega];exact set_same (by rw[aq];omega)
  ·have:=I.ln;have:=Iv (kvs:=kvs) (k:=key x) (v:=Z.loc S.length);omega
  ·rw[B1 q,bO,dU];refine⟨I.nd,by simp,λu U v R e=>?_⟩;rw[aE,cg,aJ]at R;subst R;rw[e,rO,q]at U;cases U
  ·rw[B1 q,bO,bx,I.ks];constructor
   ·rintro (⟨y,d,l⟩|h)
    ·exact⟨y,bR _ d,l⟩
    ·rw[aE,cg,aJ]at h;exact⟨x,aQ _<|.head _,h.symm⟩
   ·rintro ⟨y,d,l⟩
    rcases bx.mp d with d|d;·exact .inl ⟨y,d,l⟩
    ·rw[aJ.mp d]at l;exact .inr (by rw[<-l];exact .head _)
  ·rw[CV]at p;rw[Ac];by_cases e:key x=k
   ·subst e;rw[ai rfl]at p;cases p;refine⟨_,rfl,hn,?_⟩;rw[set_same<|by rw[bp,aq];simp,ai rfl,hf];rfl
   ·rw[ak e]at p;obtain⟨D,rfl,s,o⟩:=I.vl _ _ p;have:=lW o;refine⟨D,rfl,s,?_⟩;rw[ak e,aZ,ax<|by omega,ax<|by omega,ag this];exact o
  ·rw[CV]at d l;have t:∀k,valZ kvs k=h9 m->m<S.length:=λk h=>by
    obtain⟨D,e,_,J⟩:=I.vl _ _ h;cases e;exact lW J
   by_cases e:key x=k
   ·by_cases C:key x=Q;·rw[<-e,<-C]
    ·rw[ai e]at d;rw[ak C]at l;have:=t _ l;cases d;omega
   ·rw[ak e]at d;by_cases C:key x=Q
    ·rw[ai C]at l;have:=t _ d;cases l;omega
    ·rw[ak C]at l;exact I.ij _ _ _ d l
  ·rw[bp,bp,aq]at G;simp only[bq]at G;have P:=I.bnd j (by omega);refine uA (uA (nU P rfl) ?_) rfl;have L:kh j (.dt kvs)=false:=by
    have:=bM.mp P _ (aM I.at_);simpa using this
   cases c:kh j (.dt<|jn kvs (key x)<|.loc S.length)with
   |false=>rfl
   |true=>
    rcases GP c with h|h
    ·have:kh j (.dt kvs)=true:=h;rw[L]at this;cases this
    ·have:=bh (show decide (S.length=j)=true from h);omega
theorem A0(s0):∀(L b:List Dy) S kvs s2,PJ n b S kvs->b.length+L.length<=40->∃d S' c,kL (hV 2) (pA a Fg) (L.map Dy.v) [s0,h9 n,s2] S=.nx [s0,h9 n,d] S'/\PJ n (b++L) S' c
 |[],b,S,kvs,s2,I,_=>⟨s2,S,kvs,rfl,by rw[aZ];exact I⟩
 |x::L,b,S,kvs,s2,I,h=>by rw[ao]at h;obtain⟨o,k,m,p⟩:=PQ (a:=a) (Fg:=Fg) I x (by omega) s0;obtain⟨d,S',c,l,j⟩:=A0 s0 L (b++[x]) o k (ic x.v) p (by rw[aq,bq];omega);refine⟨d,S',c,?_,by rw[dc]at j;exact j⟩;show rM (pA a Fg [s0,h9 n,ic x.v] S) (kL (hV 2) (pA a Fg)<|L.map Dy.v)=_;rw[m];exact l
variable{a:Ad}
variable{l:gR}{o:gU}{e:h8}{h:D->D}
theorem yu:∀L (acc:List Z),(∀d∈L,∀c,e (o.set 0<|ic d) (l++[.li c])=.ok (.d<|h d) (l++[.li c]))->acc.length+L.length<100000->
 md mJ e o l.length L (l++[.li acc])=.ok (.loc l.length) (l++[.li<|acc++(L.map h).map Z.d])
 |[],acc,_,_=>by rw[cg,cg,aZ];rfl
 |d::L,acc,k,p=>by
  rw[ao]at p;unfold md
  show(match e (o.set 0 (ic d)) (l++[.li acc])with
   |.ok z m=>(match m[l.length]? with
    |some (.li j)=>if j.length<sizeLine then md mJ e o l.length L (m.set l.length<|.li<|j++[z])else .bad
    |_=>.bad)
   |_=>.bad)=_
  rw[k d (.head _) acc]
  show(match(l++[Cell.li acc])[l.length]? with
   |some (.li j)=>if j.length<sizeLine then md mJ e o l.length L ((l++[Cell.li acc]).set l.length (.li<|j++[Z.d<|h d]))else .bad
   |_=>RX.bad)=_
  rw[lQ];show(if acc.length<sizeLine then _ else _)=_;rw[ai<|oU<|by omega,xO,yu L (acc++[Z.d<|h d]) (λq s=>k q<|.tail _ s)<|by rw[aq];simp;omega,dc];rfl
end
def Dg{f:h8}{n}(hf:f ρ S=.ok (.loc n) S)(g:S[n]?=some (.dt kvs))(h:S[0]?=some .mk)(c:lT (ko<|kvs.map Prod.fst)=true)(d:kvs.length<64):oW (n3 f) ρ S=.ok (jq<|ko<|kvs.map Prod.fst) S:=by
 have e:n3 f ρ S=.ok (.d<|.lst<|jq<|ko<|kvs.map Prod.fst) S:=by
  unfold n3;rw[hf]
  show(match S[n]?,S[0]? with
   |some (Cell.dt kvs),some Cell.mk=>if lT (ko<|kvs.map Prod.fst)=true/\kvs.length<64 then RX.ok (Z.d<|.lst<|jq<|ko<|kvs.map Prod.fst) S else .bad
   |_,_=>.bad)=_
  rw[g,h];exact ai ⟨c,d⟩
 unfold oW;rw[e];rfl
def kn(L:List Dy):List D:=jq ((ki<|L.map key).map tD)
def mC(L:List Dy):D->D
 |.tup [.int i,.str w]=>.tup (.str w::.int i::tell (L.filter<|jg [.inl i,.inr w]))
 |d=>d
def out(L:List Dy):List D:=(kn L).map (mC L)
def xP{L:List Dy}{c:List (List Key)}(h:∀k∈c,∃x∈L,key x=k):∀d∈c.map tD,iD d=some [2,0,1]:=λd g=>by obtain⟨k,f,rfl⟩:=aP.mp g;obtain⟨x,_,rfl⟩:=h k f;rfl
def wJ{L:List Dy}(k):k∈ki (L.map key)↔∃x∈L,key x=k:=by rw[pS,aP]
def tO{d}(h:d∈kn L):∃x∈L,d=tD (key x):=by obtain⟨k,f,rfl⟩:=aP.mp ((nW _).mem_iff.mp h);obtain⟨x,c,rfl⟩:=(wJ k).mp f;exact⟨x,c,rfl⟩
def kds_len(L):(kn L).length<=L.length:=by unfold kn;rw[(nW _).length_eq,aD];exact aI (wA _) (by rw[aD];exact ah _)
def AS{L:List Dy}{c:List<|List Key}(d:c.Nodup)(h:∀k,k∈c↔∃x∈L,key x=k):jq (ko c)=kn L:=
 xX (ds:=c.map tD) (((List.perm_ext_iff_of_nodup d<|tU _).mpr λk=>by rw[h,wJ]).map tD) (xP λk f=>(wJ k).mp f)
def Jm(g w)(k:Int):kH (.tup<|.str w::.int k::tell g)=true:=by show rn (.str w::.int k::.int _::pq (total g)::oD (least g)::oD (most g)::.int _::.int _::[])=true;cases least g<;>cases most g<;>rfl
def DJ(c:gP):Prop:=∀w (k:Int) g,(∀x∈g,x.Ok)->g.length<=40->c [.str w,.int k,.lst<|g.map Dy.v]=.ok (.tup<|.str w::.int k::tell g)
structure n7(S S':gR)(n:Nat)(L:List D):Prop where
 at_:S'[n]?=some (.li<|L.map Z.d)
 le:S.length<=n
 sf:pj S' n
 bnd:me S'
 lC:S'[0]?=some .mk
section
variable{Fg:gP}
def IZ(O:DJ Fg)(L:List Dy)(N:∀x∈L,x.Ok)(q:L.length<=40)(S:gR)(A:S[0]?=some .mk)(M:me S)(b:Nat):∃S' u,jW (qT a Fg b (j9 3 [.d<|.lst<|L.map Dy.v]) S)=.ok (.loc u) S'/\n7 S S' u (out L):=by
 have p:=lW A;have Y:PJ S.length [] (S++[.dt []]) []:=⟨by rw[ag p];exact A,lQ S _,ah _,.nil,λk=>⟨λh=>(nomatch h),λ⟨_,h,_⟩=>(nomatch h)⟩,λ_ _ h=>(nomatch h),λ_ _ _ h=>(nomatch h),λj s=>nU (M j (by rw[aq]at s;omega)) rfl⟩;obtain⟨o,g,i,V,I⟩:=A0 (a:=a) (Fg:=Fg) (n:=S.length) (gX (L.map Dy.v)) L [] _ _ none Y (by simpa using q);rw[fT]at I;have w:=lW I.at_;have lk:i.length<=40:=aI I.ln q;refine⟨g++[.li ((out L).map Z.d)],g.length,?_,lQ _ _,bJ w,nU (I.bnd _ (ah _)) (q7 _ _),λj s=>nU (I.bnd j (by rw[aq]at s;omega)) (q7 _ _),by rw[ag (by omega)];exact I.lC⟩;show jW (qT a Fg b [gX<|L.map Dy.v,none,none] S)=_;have R:iy 1 qr [gX<|L.map Dy.v,none,none] S=.nx [gX<|L.map Dy.v,h9 S.length,none] (S++[.dt []]):=jH (f:=qr) rfl (aG rfl);have Q:nY (λρ=>((dV 0) ρ).bind hJ) (hV 2) (pA a Fg) [gX<|L.map Dy.v,h9 S.length,none] (S++[.dt []])=.nx [gX<|L.map Dy.v,h9 S.length,o] g:=(yo rfl).trans V;have P:n0 (oW<|n3<|zV 1) [1] mJ (qp Fg<|iU (zD<|gO 0 1)<|iU (zD<|gO 0 0)<|iU (nh (zV 1)<|zD<|dV 0) kc) [gX<|L.map Dy.v,h9 S.length,o] g=.ok (.loc g.length) (g++[.li<|(out L).map Z.d]):=by
  have l:=Dg (f:=zV 1) (ρ:=[gX<|L.map Dy.v,h9 S.length,o]) (qu rfl) I.at_ I.lC (tF<|xP (L:=L) λk r=>(I.ks k).mp r) (by omega);rw[AS I.nd I.ks]at l;unfold n0;rw[l];show md mJ _ [none,h9 S.length] g.length (kn L) (g++[.li []])=_;refine(yu (h:=mC L) (kn L) [] (λd J c=>?_) (by have:=kds_len L;simp;omega)).trans rfl;obtain⟨x,G,rfl⟩:=tO J;have r:key x∈i.map Prod.fst:=(I.ks _).mpr ⟨x,G,rfl⟩;obtain⟨z,v⟩:=cf.mp (rO.mp r);obtain⟨m,rfl,hm,C⟩:=I.vl _ _ v;have t:(g++[Cell.li c])[m]?=some (.li<|((L.filter<|jg<|key x).map Dy.v).map Z.d):=by rw[ag<|lW C];exact C
  have at':(g++[Cell.li c])[S.length]?=some (.dt i):=by rw[ag w];exact I.at_
  have U:iU (zD<|gO 0 1) (iU (zD<|gO 0 0)<|iU (nh (zV 1)<|zD<|dV 0) kc) [ic<|tD<|key x,h9 S.length] (g++[.li c])=.ok [.d<|.str x.w,.d<|.int x.d,.loc m] (g++[.li c]):=
   lG (iE rfl) (lG (iE rfl)<|lG (Dh (qu rfl) (iE rfl) (ds:=[.int x.d,.str x.w]) rfl at' v) oZ)
  show qp Fg _ [ic<|tD<|key x,h9 S.length] (g++[.li c])=_;unfold qp;rw[U];have T:qm (g++[Cell.li c]) [.d<|.str x.w,.d<|.int x.d,.loc m]=some [.str x.w,.int x.d,.lst<|(L.filter<|jg<|key x).map Dy.v]:=by
   have:ql (g++[Cell.li c]) (.loc m)=some (.lst<|(L.filter<|jg<|key x).map Dy.v):=by unfold ql;dsimp only;rw[t];show(kf _).map D.lst=_;rw[qF];rfl
   show(some<|D.str x.w).bind (λd=>((some<|D.int x.d).bind λd=>((ql (g++[Cell.li c])<|.loc m).bind λd=>(some []).map (d:: ·)).map (d:: ·)).map (d:: ·))=_;rw[this];rfl
  show(match qm (g++[Cell.li c]) [.d (.str x.w),.d (.int x.d),.loc m]with
   |some ds=>(match Fg ds with
    |.ok d=>if kH d=true then RX.ok (Z.d d) (g++[Cell.li c])else .bad
    |_=>.bad)
   |none=>.bad)=_
  rw[T]
  show(match Fg [.str x.w,.int x.d,.lst ((L.filter (jg (key x))).map Dy.v)]with
   |.ok d=>if kH d=true then RX.ok (Z.d d) (g++[Cell.li c])else .bad
   |_=>.bad)=_
  rw[O x.w x.d _ (λy F=>N y (cC.mp F).1)<|aI (cZ ..) q];exact ai (Jm ..)
 unfold qT;rw[jh R,jh Q,y_ret P];rfl
def Dy.wk(x:Dy):Dy:={x with d:=x.d/7}
def C6{x:Dy}(h:x.Ok):x.wk.Ok:=⟨h.w,h.t,h.z,h.nz⟩
def PY(g:List Dy):tell (g.map Dy.wk)=tell g:=by unfold tell total least most;rw[gz,gz,gz,bw,bw,bw];rfl
def jo{q:D->D->R D}{f g:g7}(h:f ρ=.ok x)(d:g ρ=.ok y)(c:q x y=r):d2 q f g ρ=r:=by unfold d2;rw[h,d];exact c
variable{i:gP}{o:jU}
def D8(o:jU):Prop:=∀L,(∀x∈L,x.Ok)->L.length<=40->∀S:gR,S[0]?=some .mk->me S->∃S' c,o [.d<|.lst<|L.map Dy.v] S=.ok (.loc c) S'/\n7 S S' c (out L)
def I8(k:∀d:Int,i [.int d]=.ok (.int<|d/7))(l:D8 o)(L:List Dy)(p:∀x∈L,x.Ok)(m:L.length<=40)(S:gR)(q:S[0]?=some .mk)(n:me S)(b:Nat):∃S' f,jW (qV a i o b (j9 1 [.d<|.lst<|L.map Dy.v]) S)=.ok (.loc f) S'/\n7 S S' f (out<|L.map Dy.wk):=by
 obtain⟨S',f,e,N⟩:=l (L.map Dy.wk) (λx j=>by obtain⟨y,h,rfl⟩:=aP.mp j;exact C6 (p y h)) (by rw[aD];exact m) S q n;refine⟨S',f,?_,N⟩;show jW (qV a i o b [gX<|L.map Dy.v] S)=_;unfold qV;have c:=ot (fi:=λρ=>((dV 0) ρ).bind hJ) (ci:=[]) (fe:=d2 nA (dA iZ<|gI (gO 0 0)<|gI (dA i<|gI (gO 0 1) gL) gL)<|nC mH (dV 0) (λρ=>((gJ 2) ρ).bind pI)<|λ_=>.ok none) (ρ:=[.sh<|.lst<|L.map Dy.v]) (kr:=[]) Dy.v (λx=>x.wk.v) (L:=L) rfl rfl (by omega) λx _=>by
  have t:dA iZ (gI (gO 0 0)<|gI (dA i<|gI (gO 0 1) gL) gL) [.sh x.v]=.ok (.tup [.str x.w,.int<|x.d/7]):=by show((((i [.int x.d]).bind λy=>(R.ok [y]:R<|List D)).bind λg=>R.ok<|.str x.w::g)).bind iZ=_;rw[k];rfl
  have s:nC mH (dV 0) (λρ=>((gJ 2) ρ).bind pI) (λ_=>.ok none) [.sh x.v]=.ok (.tup [.int x.st,pq x.t,oD x.lo,oD x.hi,.int x.mr,.int x.fl]):=rfl;exact jo t s rfl
 have r:zD (ig<|iq (λρ=>((dV 0) ρ).bind hJ) 1 [] (gV 0) (λ_=>.ok true)<|d2 nA (dA iZ<|gI (gO 0 0)<|gI (dA i<|gI (gO 0 1) gL) gL)<|nC mH (dV 0) (λρ=>((gJ 2) ρ).bind pI)<|λ_=>.ok none) [gX<|L.map Dy.v] S=.ok (.d<|.lst<|(L.map Dy.wk).map Dy.v) S:=by rw[bw];exact iE c
 rw[y_ret<|uP (lG r oZ) e];rfl
variable{a:Ad}
def qA(d:gP):Prop:=∀c k:Int,0<=k/\k<=1000->d [.int c,.int k]=.ok (.int<|ie c k)
structure Bd(X Y:Nat)(p:Fq):Prop where
 low:FM.kX p.1 p.2
 t:p.1.natAbs<=X
 b:p.2.natAbs<=Y
def Bd.add{V}(h:Bd X Y p)(g:Bd U V q):Bd (X*V+U*Y) (Y*V) (iS p q):=by
 have c:p.2*q.2≠0:=dB (by have:=h.low.pos;omega) (by have:=g.low.pos;omega);have l:=rL (p.1*q.2+q.1*p.2) c;refine⟨FM.pQ c,aI l.1 ?_,aI l.2 ?_⟩
 ·refine aI (Int.natAbs_add_le ..) ?_;rw[cz,cz];exact gd (eQ h.t g.b) (eQ g.t h.b)
 ·rw[cz];exact eQ h.b g.b
def Bd.sm(h:Bd X Y p)(d:X<100)(c:Y<100):Sm 2 p:=⟨h.low,cy h.t d,cy h.b c⟩
variable{s Fm Fl:gP}{ρ:Ev}
def m3(d:qA Fm){c:Int}(g:dV 4 ρ=.ok (.int c)){k m:Int}(f:0<=k/\k<=1000)(h:0<m):d2 ir (d2 ib (dA Fm<|gI (dV 4)<|gI (gJ k) gL)<|gJ 5) (gJ m) ρ=.ok (.int<|ie c k/5%m):=by
 have e:dA Fm (gI (dV 4)<|gI (gJ k) gL) ρ=.ok (.int<|ie c k):=by unfold dA gI gL;rw[g];exact d c k f
 exact jo (jo e rfl<|p9 (by decide)<|by decide) rfl (rC h)
def xn(c:ml Fl){f g:g7}{t b:Int}(hf:f ρ=.ok (.int t))(d:g ρ=.ok (.int b))(j:0<b)(h:b.natAbs<10^400):dA Fl (gI f<|gI g gL) ρ=.ok (fr t b):=by unfold dA gI gL;rw[hf,d];exact c t b j h
def B4(t:ml Fl){f g:g7}(hf:f ρ=.ok (pq p))(j:g ρ=.ok (pq q))(c:Sm 2 p)(sq:Sm 2 q):dA Fl (gI (d2 ik (d2 hD (d2 hK f (gJ 0)) (d2 hK g (gJ 1))) (d2 hD (d2 hK g (gJ 0)) (d2 hK f (gJ 1)))) (gI (d2 hD (d2 hK f (gJ 1)) (d2 hK g (gJ 1))) gL)) ρ=.ok (pq (iS p q)):=by obtain⟨r,h⟩:=c.sz (by decide);obtain⟨m,d⟩:=sq.sz (by decide);have v:d2 hK f (gJ 0) ρ=.ok (.int p.1):=jo hf rfl rfl;have l:d2 hK f (gJ 1) ρ=.ok (.int p.2):=jo hf rfl rfl;have u:d2 hK g (gJ 0) ρ=.ok (.int q.1):=jo j rfl rfl;have k:d2 hK g (gJ 1) ρ=.ok (.int q.2):=jo j rfl rfl;exact xn t (jo (jo v k<|k7 r d) (jo u l<|k7 m h) rfl) (jo l k<|k7 h d) (Int.mul_pos c.low.pos sq.low.pos) ((c.s2.mul sq.s2).mono (n:=400) (by decide))
def Dy.tl(x:Dy):D:=.tup [.int x.st,pq x.t,oD x.lo,oD x.hi,.int x.mr,.int x.fl]
def vals(Fm Fl:gP):iI:=ma (zB (b1 tB (d2 lR (dV 7) (gJ 0)))) (il (iy 8 (zD (dA Fl (gI (d2 nX (d2 ir (d2 ib (dA Fm (gI (dV 4) (gI (gJ 4) gL))) (gJ 5)) (gJ 11)) (gJ 5)) (gI (d2 ik (gJ 1) (d2 ir (d2 ib (dA Fm (gI (dV 4) (gI (gJ 5) gL))) (gJ 5)) (gJ 2))) gL)))))
    (il (iy 11 (zD (dA Fl (gI (d2 hD (d2 ir (d2 ib (dA Fm (gI (dV 4) (gI (gJ 6) gL))) (gJ 5)) (gJ 9)) (d2 nX (dV 7) (gJ 1))) (gI (d2 ik (gJ 1) (d2 ir (d2 ib (dA Fm (gI (dV 4) (gI (gJ 7) gL))) (gJ 5)) (gJ 3))) gL)))))
    (il (iy 9 (zD (dA Fl (gI (d2 ik (d2 hD (gO 8 0) (gO 11 1)) (d2 hD (gO 11 0) (gO 8 1))) (gI (d2 hD (gO 8 1) (gO 11 1)) gL)))))
    (il (iy 10 (zD (dV 8)))
    (ma (zB (b1 tB (d2 j5 (dV 7) (gJ 2)))) (iy 10 (zD (dA Fl (gI (d2 ik (d2 hD (gO 8 0) (gO 9 1)) (d2 hD (gO 9 0) (gO 8 1))) (gI (d2 hD (gO 8 1) (gO 9 1)) gL))))) oV))))) oV
def PR(u:qA Fm)(v:ml Fl)(c f:Int)(P:0<=f/\f<3)(S s0 s1 s2 s3 s5 s6 lE mE):∃lo hi t m,Sm 2 t/\(f<=0->t=(0,1)/\lo=none/\hi=none)/\(0<f->∃p q,lo=some p/\hi=some q/\Sm 2 p/\Sm 2 q)/\
    vals Fm Fl [s0,s1,s2,s3,iC c,s5,s6,iC f,ic .non,ic .non,ic<|pq (0,1),lE,mE] S=.nx [s0,s1,s2,s3,iC c,s5,s6,iC f,ic<|oD lo,ic<|oD hi,ic<|pq t,m,mE] S:=by
 by_cases h:0<f
 ·obtain⟨p,G⟩:∃p:Fq,p=(FM.top (ie c 4/5%11 - 5) (1+ie c 5/5%2),FM.bot (ie c 4/5%11 - 5) (1+ie c 5/5%2)):=⟨_,rfl⟩;obtain⟨q,F⟩:∃q:Fq,q=(FM.top (ie c 6/5%9*(f - 1)) (1+ie c 7/5%3),FM.bot (ie c 6/5%9*(f - 1)) (1+ie c 7/5%3)):=⟨_,rfl⟩;have A:Bd 5 2 p:=by
   have r:1+ie c 5/5%2≠0:=by omega
   have l:=rL (ie c 4/5%11 - 5) r;rw[G];exact⟨FM.pQ r,by dsimp only;omega,by dsimp only;omega⟩
  have I:Bd 8 3 q:=by
   have r:1+ie c 7/5%3≠0:=by omega
   have l:=rL (ie c 6/5%9*(f - 1)) r;rw[F];refine⟨FM.pQ r,aI l.1 ?_,by dsimp only;omega⟩;rw[cz];exact aI (eQ (show(ie c 6/5%9).natAbs<=8 by omega)<|show(f - 1).natAbs<=1 by omega) (by decide)
  have k:=A.sm (by decide) (by decide);have sq:=I.sm (by decide) (by decide);have J:=A.add I;have sh:=J.sm (by decide) (by decide);have y:=(A.add J).sm (by decide) (by decide);have M:hD (.int<|ie c 6/5%9) (.int<|f - 1)=.ok (.int<|ie c 6/5%9*(f - 1)):=uq (by omega) (by omega);have L:zB (b1 tB<|d2 lR (dV 7)<|gJ 0) [s0,s1,s2,s3,iC c,s5,s6,iC f,ic .non,ic .non,ic<|pq (0,1),lE,mE] S=.ok true S:=by refine qt ?_;show R.ok (decide<|0<f)=_;rw[aV h]
  have O:zD (dA Fl<|gI (d2 nX (d2 ir (d2 ib (dA Fm<|gI (dV 4)<|gI (gJ 4) gL)<|gJ 5)<|gJ 11)<|gJ 5)<|gI (d2 ik (gJ 1)<|d2 ir (d2 ib (dA Fm<|gI (dV 4)<|gI (gJ 5) gL)<|gJ 5)<|gJ 2) gL) [s0,s1,s2,s3,iC c,s5,s6,iC f,ic .non,ic .non,ic<|pq (0,1),lE,mE] S=.ok (.d<|pq p) S:=by rw[G];exact iE (xn v (jo (m3 u (c:=c) rfl (by decide)<|by decide) rfl rfl) (jo rfl (m3 u (c:=c) rfl (by decide)<|by decide) rfl) (by omega)<|ay (show(1+ie c 5/5%2).natAbs<10 by omega)<|by decide)
  have z:∀D C n,zD (dA Fl<|gI (d2 hD (d2 ir (d2 ib (dA Fm<|gI (dV 4)<|gI (gJ 6) gL)<|gJ 5)<|gJ 9)<|d2 nX (dV 7)<|gJ 1)<|gI (d2 ik (gJ 1)<|d2 ir (d2 ib (dA Fm<|gI (dV 4)<|gI (gJ 7) gL)<|gJ 5)<|gJ 3) gL) [s0,s1,s2,s3,iC c,s5,s6,iC f,D,C,n,lE,mE] S=.ok (.d<|pq q) S:=λD C n=>by rw[F];exact iE (xn v (jo (m3 u (c:=c) rfl (by decide)<|by decide) rfl M) (jo rfl (m3 u (c:=c) rfl (by decide)<|by decide) rfl) (by omega)<|ay (show(1+ie c 7/5%3).natAbs<10 by omega)<|by decide)
  have g:∀t,(f=2->t=iS p (iS p q))->(f≠2->t=p)->vals Fm Fl [s0,s1,s2,s3,iC c,s5,s6,iC f,ic .non,ic .non,ic<|pq (0,1),lE,mE] S=.nx [s0,s1,s2,s3,iC c,s5,s6,iC f,ic<|pq p,ic<|pq<|iS p q,ic<|pq t,ic<|pq q,mE] S:=λt N x=>by
   unfold vals;rw[Dd L,jh<|jH O<|aG rfl];refine(jh<|jH (z (ic<|pq p) (ic .non)<|ic<|pq (0,1))<|aG rfl).trans ?_;refine(jh<|jH (iE<|B4 v (p:=p) (q:=q) rfl rfl k sq)<|aG rfl).trans ?_;refine(jh<|jH (iE (d:=pq p) rfl)<|aG rfl).trans ?_;by_cases j:f=2
   ·refine(Dd (S1:=S)<|qt ?_).trans ?_
    ·show(j5 (.int f)<|.int 2).bind tB=_;rw[j];rfl
    ·refine(jH (iE<|B4 v (p:=p) (q:=iS p q) rfl rfl k sh)<|aG rfl).trans ?_;rw[N j];rfl
   ·refine(yp (S1:=S)<|qt ?_).trans ?_
    ·have:f=1:=by omega
     show(j5 (.int f)<|.int 2).bind tB=_;rw[this];rfl
    ·rw[x j];rfl
  by_cases x:f=2;·exact⟨some p,some<|iS p q,iS p<|iS p q,_,y,λw=>absurd h<|by omega,λ_=>⟨p,iS p q,rfl,rfl,k,sh⟩,g _ (λ_=>rfl) λw=>absurd x w⟩
  ·exact⟨some p,some<|iS p q,p,_,k,λw=>absurd h<|by omega,λ_=>⟨p,iS p q,rfl,rfl,k,sh⟩,g _ (λw=>absurd w x) λ_=>rfl⟩
 ·refine⟨none,none,(0,1),lE,uE<|by decide,λ_=>⟨rfl,rfl,rfl⟩,λw=>absurd w h,?_⟩;unfold vals;refine(yp (S1:=S)<|qt ?_).trans rfl;show R.ok (decide<|0<f)=_;rw[aW h]
end
variable{a:Ad}
def mm{f:g7}{r:Ev->R (List D)}(d:f ρ=.ok x)(c:r ρ=.ok xs):gI f r ρ=.ok (x::xs):=by unfold gI;rw[d,c];rfl
def um{F:gP}{r:Ev->R (List D)}{d}(f:r ρ=.ok xs)(c:F xs=d):dA F r ρ=d:=by unfold dA;rw[f];exact c
def iX(x:Dy):List Key×Z:=(key x,.d x.tl)
def mB(B:List Dy)(x:Dy):List Dy:=if(B.any λy=>decide<|key y=key x)=true then B.map λy=>if key y=key x then x else y else B++[x]
def Lr(B:List Dy)(x):jn (B.map iX) (key x) (.d x.tl)=(mB B x).map iX:=by
 unfold jn mB;have e:((B.map iX).any λc=>decide<|c.1=key x)=B.any λy=>decide (key y=key x):=by rw[gF];rfl
 rw[e];split
 ·rw[bw,bw];refine bW λy _=>?_;show(if key y=key x then(key y,Z.d x.tl)else iX y)=iX (if key y=key x then x else y);by_cases h:key y=key x;·rw[ai h,ai h,h];rfl
  ·rw[ak h,ak h]
 ·rw[bO];rfl
def Jd(h:y∈mB B x):y∈B\/y=x:=by
 unfold mB at h;split at h
 ·obtain⟨z,c,rfl⟩:=aP.mp h;by_cases w:key z=key x;·rw[ai w];exact .inr rfl
  ·rw[ak w];exact .inl c
 ·rcases bx.mp h with h|h;·exact .inl h
  ·exact .inr (aJ.mp h)
def Iw(B x):(mB B x).length<=B.length+1:=by
 unfold mB;split;·rw[aD];omega
 ·rw[aq];exact ah _
def Ql(B:List Dy)(k):valZ (B.map iX) k=(B.find?<|jg k).map λy=>.d y.tl:=by unfold valZ;rw[List.find?_map,Option.map_map];rfl
def Ji{B:List Dy}(h:(B.map key).Nodup):((mB B x).map key).Nodup:=by
 unfold mB;split
 ·have:(B.map λy=>if key y=key x then x else y).map key=B.map key:=by
   rw[bw];refine bW λy _=>?_;show key (if key y=key x then x else y)=key y;by_cases w:key y=key x;·rw[ai w,w]
   ·rw[ak w]
  rw[this];exact h
 ·rename_i q;rw[bO,dU];refine⟨h,by simp,λu f v c e=>?_⟩;rw[aE,cg,aJ]at c;obtain⟨y,d,rfl⟩:=aP.mp f;exact q (cO.mpr ⟨y,d,aV<|by rw[e,c]⟩)
def GO(B:List Dy)(j):kh j (.dt<|B.map iX)=false:=FY B (λx=>(key x,x.tl)) j
section
variable{Fc Fm Fl:gP}
def Ex:oj a Fc Fm Fl=il (iy 5<|zD<|d2 hK (dV 1)<|d2 ir (d2 ib (dA Fm<|gI (dV 4)<|gI (gJ 1) gL)<|gJ 5)<|gJ 3)
    (il (iy 6 (zD (d2 ik (dV 2) (d2 ir (d2 ib (dA Fm (gI (dV 4) (gI (gJ 2) gL))) (gJ 5)) (gJ 30)))))
    (il (iy 7 (zD (d2 ir (d2 ib (dA Fm (gI (dV 4) (gI (gJ 3) gL))) (gJ 5)) (gJ 3))))
    (il (iy 8 (zD (dC .non)))
    (il (iy 9 (zD (dC .non)))
    (il (iy 10 (zD (dA iZ (gI (gJ 0) (gI (gJ 1) gL)))))
    (il (vals Fm Fl)
    (il (iy 12 (zD (d2 ir (d2 ib (dA Fm (gI (dV 4) (gI (gJ 8) gL))) (gJ 5)) (gJ 3))))
    (rS (zV 3) (oX (iU (zD (dV 6)) (iU (zD (dV 5)) kc))) (zD (dA iZ (gI (dV 7) (gI (dV 10) (gI (dV 8) (gI (dV 9) (gI (dV 12) (gI (d2 ik (gJ 1) (d2 ir (d2 ib (dA Fm (gI (dV 4) (gI (gJ 9) gL))) (gJ 5)) (gJ 4))) gL)))))))))))))))):=rfl
def PL(o:qA Fm)(Q:ml Fl){m l j:Str}(G:PyData.strOk m=true/\PyData.strOk l=true/\PyData.strOk j=true)(c f:Int)(B:List Dy)(hB:B.length<1000)(i:gR)(F O N M L J D r q:Option Z):∃(x:Dy) (C A y v u s g p:Option Z),x.Ok/\
    oj a Fc Fm Fl [F,gX [.str m,.str l,.str j],iC f,h9 i.length,iC c,O,N,M,L,J,D,r,q] (i++[.dt<|B.map iX])=.nx [F,gX [.str m,.str l,.str j],iC f,h9 i.length,iC c,C,A,y,v,u,s,g,p] (i++[.dt<|(mB B x).map iX]):=by
 obtain⟨w,I,V⟩:∃w:Str,PyData.strOk w=true/\hK (.lst [.str m,.str l,.str j]) (.int (ie c 1/5%3))=.ok (.str w):=by
  have:ie c 1/5%3=0\/ie c 1/5%3=1\/ie c 1/5%3=2:=by omega
  rcases this with h|h|h<;>rw[h];·exact⟨m,G.1,rfl⟩
  ·exact⟨l,G.2.1,rfl⟩
  ·exact⟨j,G.2.2,rfl⟩
 obtain⟨lo,hi,t,g,U,T,R,Y⟩:=PR (Fm:=Fm) (Fl:=Fl) o Q c (ie c 3/5%3) (by omega) (i++[.dt (B.map iX)]) F (gX [.str m,.str l,.str j]) (iC f) (h9 i.length) (ic (.str w)) (iC (f+ie c 2/5%30)) r q;refine⟨⟨w,f+ie c 2/5%30,ie c 3/5%3,t,lo,hi,ie c 8/5%3,1+ie c 9/5%4⟩,ic<|.str w,iC<|f+ie c 2/5%30,iC<|ie c 3/5%3,ic<|oD lo,ic<|oD hi,ic<|pq t,g,iC<|ie c 8/5%3,⟨I,U,T,R⟩,?_⟩;rw[Ex,jh<|jH (iE<|jo rfl (m3 o (c:=c) rfl (by decide)<|by decide) V)<|aG rfl];refine(jh<|jH (iE<|jo (x:=.int f) rfl (m3 o (c:=c) rfl (by decide)<|by decide) rfl)<|aG rfl).trans ?_;refine(jh<|jH (iE<|m3 o (c:=c) rfl (by decide)<|by decide)<|aG rfl).trans ?_;refine(jh<|jH (iE (d:=.non) rfl)<|aG rfl).trans ?_;refine(jh<|jH (iE (d:=.non) rfl)<|aG rfl).trans ?_;refine(jh<|jH (iE (d:=pq (0,1)) rfl)<|aG rfl).trans ?_;refine(jh Y).trans ?_;refine(jh<|jH (iE<|m3 o (c:=c) rfl (by decide)<|by decide)<|aG rfl).trans ?_;have e9:∀ρ:Ev,dV 4 ρ=.ok (.int c)->d2 ik (gJ 1) (d2 ir (d2 ib (dA Fm<|gI (dV 4)<|gI (gJ 9) gL)<|gJ 5)<|gJ 4) ρ=.ok (.int<|1+ie c 9/5%4):=λρ h=>jo rfl (m3 o (c:=c) h (by decide)<|by decide) rfl;refine(QB (n:=i.length) (z:=.d (.tup [.int (ie c 3/5%3),pq t,oD lo,oD hi,.int (ie c 8/5%3),.int (1+ie c 9/5%4)])) (kvs:=B.map iX) (k:=[.inl (f+ie c 2/5%30),.inr w]) (iE ?_) (qu rfl) (Di (ds:=[.int (f+ie c 2/5%30),.str w]) (lG (iE rfl) (lG (iE rfl) oZ)) rfl (show 2<1000 by decide)) (lQ _ _) (by rw[aD];omega)).trans ?_;·exact um (mm rfl<|mm rfl<|mm rfl<|mm rfl<|mm rfl<|mm (e9 _ rfl) rfl) rfl
 ·rw[xO];exact cn (λP=>jI.nx _<|i++[Cell.dt P]) (Lr B ⟨w,f+ie c 2/5%30,ie c 3/5%3,t,lo,hi,ie c 8/5%3,1+ie c 9/5%4⟩)
theorem AW(Y:qA Fm)(hl:ml Fl){A z w:Str}(V:PyData.strOk A=true/\PyData.strOk z=true/\PyData.strOk w=true)(f:Int)(j:gR)(u:Option Z):∀(v:List Int) (B:List Dy) (C o n m l k i g d:Option Z),(∀x∈B,x.Ok)->(B.map key).Nodup->B.length+v.length<=40->∃(p:List Dy) (T R Q P O N t s r:Option Z),(∀x∈p,x.Ok)/\(p.map key).Nodup/\p.length<=40/\
 kL (hV 4) (oj a Fc Fm Fl) (v.map D.int) [u,gX [.str A,.str z,.str w],iC f,h9 j.length,C,o,n,m,l,k,i,g,d] (j++[.dt<|B.map iX])=.nx [u,gX [.str A,.str z,.str w],iC f,h9 j.length,T,R,Q,P,O,N,t,s,r] (j++[.dt<|p.map iX])
 |[],B,C,o,n,m,l,k,i,g,d,U,hN,h=>⟨B,C,o,n,m,l,k,i,g,d,U,hN,by simpa using h,rfl⟩
 |c::v,B,C,o,n,m,l,k,i,g,d,U,hN,h=>by rw[ao]at h;obtain⟨x,t5,t6,t7,t8,t9,M,L,J,hx,e⟩:=PL (a:=a) (Fc:=Fc) Y hl V c f B (by omega) j u o n m l k i g d;have:=Iw B x;obtain⟨p,u4,u5,u6,u7,u8,u9,I,G,F,o1,o2,o3,e'⟩:=AW Y hl V f j u v (mB B x) (iC c) t5 t6 t7 t8 t9 M L J (λy hy=>(Jd hy).elim (U y) λq=>by rw[q];exact hx) (Ji hN) (by omega);refine⟨p,u4,u5,u6,u7,u8,u9,I,G,F,o1,o2,o3,?_⟩;show rM (oj a Fc Fm Fl [u,gX [.str A,.str z,.str w],iC f,h9 j.length,iC c,o,n,m,l,k,i,g,d]<|j++[.dt<|B.map iX]) (kL (hV 4) (oj a Fc Fm Fl)<|v.map D.int)=_;rw[e];exact e'
def sL(B:List Dy):D->D
 |.tup [.int i,.str w]=>(match B.find? (jg [.inl i,.inr w])with
  |some y=>y.v
  |none=>.non)
 |d=>d
theorem zx(B):∀c:List D,(∀d∈c,∃y∈B,sL B d=y.v)->∃L:List Dy,c.map (sL B)=L.map Dy.v/\L.length=c.length/\∀x∈L,x∈B
 |[],_=>⟨[],rfl,rfl,λ_ h=>nomatch h⟩
 |d::c,h=>by obtain⟨y,g,e⟩:=h d (.head _);obtain⟨L,k,j,i⟩:=zx B c λx f=>h x (.tail _ f);exact⟨y::L,by rw[aE,aE,e,k],by rw[ao,ao,j],λx f=>(aF.mp f).elim (λq=>q▸g) (i x)⟩
def Fe(c:List Int):∃d:List Int,cutD (c.map D.int) (some 2) (some 42)=d.map D.int/\d.length<=40:=by unfold cutD;rw[aD];have g:HT.hI c.length 0 (some 2)=min 2 c.length:=HT.Cr c.length 0 2;have f:HT.hI c.length c.length (some 42)=min 42 c.length:=HT.Cr c.length c.length 42;rw[g,f,<-List.map_drop,<-List.map_take];exact⟨_,rfl,by rw[cw];omega⟩
def IK(hc:Cl Fc)(hm:qA Fm)(hl:ml Fl){l i g:Str}(hw:PyData.strOk l=true/\PyData.strOk i=true/\PyData.strOk g=true)(c:List Int)(S:gR)(O:S[0]?=some .mk)(hb:me S)(b:Nat):∃(L:List Dy) (S':gR) (P:Nat),(∀x∈L,x.Ok)/\L.length<=40/\jW (qW a Fc Fm Fl b (j9 13 [.d<|.lst<|c.map .int,.d<|.lst [.str l,.str i,.str g]]) S)=.ok (.loc P) S'/\n7 S S' P (L.map Dy.v):=by
 obtain⟨Q,em,lm⟩:=Fe c;obtain⟨f,ef⟩:∃f:Int,f=c.getD 1 0%694000:=⟨_,rfl⟩;obtain⟨B,M,J,I,G,F,C,q,o,n,o1,o2,o3,e⟩:=AW (a:=a) (Fc:=Fc) hm hl hw f S (gX (c.map .int)) Q [] none none none none none none none none none (λ_ h=>nomatch h) List.nodup_nil (by simpa using lm);have t:=lW O;have m:∀d∈kn B,∃y∈B,sL B d=y.v/\∃x∈B,d=tD (key x)/\B.find? (jg<|key x)=some y/\key y=key x:=λd w=>by
  obtain⟨x,v,rfl⟩:=tO w;have:(B.find?<|jg<|key x).isSome=true:=List.find?_isSome.mpr ⟨x,v,aV rfl⟩;obtain⟨y,u⟩:=cf.mp this;refine⟨y,List.mem_of_find?_eq_some u,?_,x,v,rfl,u,bh (p:=key y=key x)<|List.find?_some (p:=jg<|key x) u⟩
  show(match B.find? (jg (key x))with
   |some y=>y.v
   |none=>.non)=_
  rw[u]
 obtain⟨L,e1,e2,e3⟩:=zx B (kn B) λd w=>let⟨y,h1,h2,_⟩:=m d w;⟨y,h1,h2⟩;have kl:=kds_len B;have V:me (S++[.dt (B.map iX)]):=λj N=>nU (hb j (by rw[aq]at N;omega)) (GO B j);refine⟨L,S++[.dt (B.map iX)]++[.li ((L.map Dy.v).map Z.d)],(S++[Cell.dt (B.map iX)]).length,λx v=>o1 x (e3 x v),by omega,?_,lQ _ _,by rw[aq];omega,nU (V _ (ah _)) (q7 _ _),λj N=>nU (V j (by rw[aq]at N;omega)) (q7 _ _),by rw[ag (by rw[aq];omega),ag t];exact O⟩;show jW (qW a Fc Fm Fl b [gX<|c.map .int,gX [.str l,.str i,.str g],none,none,none,none,none,none,none,none,none,none,none] S)=_;have x2:zD (d2 ir (dA Fc<|gI (dV 0)<|gI (gJ 1) gL)<|gJ 694000) [gX<|c.map .int,gX [.str l,.str i,.str g],none,none,none,none,none,none,none,none,none,none,none] S=.ok (.d<|.int f) S:=by rw[ef];have:dA Fc (gI (dV 0)<|gI (gJ 1) gL) (j8 [gX<|c.map .int,gX [.str l,.str i,.str g],none,none,none,none,none,none,none,none,none,none,none])=.ok (.int<|c.getD 1 0):=hc c 1;exact iE (jo this rfl<|rC<|by decide)
 have x4:nY (λρ=>((nC mH (dV 0) (λρ=>((gJ 2) ρ).bind pI)<|λρ=>((gJ 42) ρ).bind pI) ρ).bind hJ) (hV 4) (oj a Fc Fm Fl) [gX<|c.map .int,gX [.str l,.str i,.str g],iC f,h9 S.length,none,none,none,none,none,none,none,none,none] (S++[.dt []])=.nx [gX<|c.map .int,gX [.str l,.str i,.str g],iC f,h9 S.length,M,J,I,G,F,C,q,o,n] (S++[.dt<|B.map iX]):=by refine(yo (ds:=Q.map D.int) ?_).trans e;show(R.ok<|D.lst<|cutD (c.map D.int) (some 2)<|some 42).bind hJ=_;rw[em];rfl
 have Y:n0 (oW<|n3<|zV 3) [3] mJ (z2 nA (zD<|dA iZ<|gI (gO 0 1)<|gI (gO 0 0) gL)<|nh (zV 1)<|zD<|dV 0) [gX<|c.map .int,gX [.str l,.str i,.str g],iC f,h9 S.length,M,J,I,G,F,C,q,o,n] (S++[.dt<|B.map iX])=.ok (.loc (S++[Cell.dt<|B.map iX]).length) (S++[.dt<|B.map iX]++[.li<|(L.map Dy.v).map Z.d]):=by
  have A:(B.map iX).map Prod.fst=B.map key:=by rw[bw];rfl
  have U:∀k,k∈(B.map iX).map Prod.fst↔∃x∈B,key x=k:=λk=>by rw[A,aP]
  have s:=Dg (f:=zV 3) (ρ:=[gX (c.map .int),gX [.str l,.str i,.str g],iC f,h9 S.length,M,J,I,G,F,C,q,o,n]) (S:=S++[.dt (B.map iX)]) (qu rfl) (lQ S _) (by rw[ag t];exact O) (tF (xP (L:=B) λk A=>(U k).mp A)) (by rw[aD];omega);rw[AS (by rw[A];exact o2) U]at s;unfold n0;rw[s];show md mJ _ [none,h9 S.length] (S++[Cell.dt<|B.map iX]).length (kn B) (S++[Cell.dt<|B.map iX]++[.li []])=_;rw[<-e1];refine(yu (h:=sL B) (kn B) [] (λd w r=>?_) (by simp;omega)).trans rfl;obtain⟨y,u,ey,x,v,rfl,fy,ky⟩:=m d w;rw[ey];have T:y.d=x.d/\y.w=x.w:=by have:([.inl y.d,.inr y.w]:List Key)=[.inl x.d,.inr x.w]:=ky;simp only[fY,Sum.inl.injEq,Sum.inr.injEq,and_true]at this;exact this
  have at':(S++[Cell.dt<|B.map iX]++[Cell.li r])[S.length]?=some (.dt<|B.map iX):=by rw[ag<|by rw[aq];simp];exact lQ S _
  have gv:nh (zV 1) (zD<|dV 0) [ic<|tD<|key x,h9 S.length] (S++[Cell.dt<|B.map iX]++[Cell.li r])=.ok (.d y.tl) (S++[Cell.dt<|B.map iX]++[Cell.li r]):=
   Dh (ds:=[.int x.d,.str x.w]) (k:=key x) (qu rfl) (iE rfl) rfl at' (by rw[Ql,fy];rfl)
  refine De (x:=.tup [.str x.w,.int x.d]) (iE rfl) gv ?_;rw[<-T.1,<-T.2];rfl
 unfold qW;rw[jh<|jH x2<|aG rfl];refine(cn jW<|(jh<|jH (f:=qr) (z:=.loc S.length) (S1:=S++[.dt []]) rfl<|aG rfl).trans ((jh x4).trans (y_ret Y))).trans ?_;rfl
end
variable{a:Ad}
def Dj{c:gU->gR->RX Bool}(d:c ρ S=.ok false S1):oY c e ρ S=e ρ S1:=by unfold oY;rw[d];rfl
def L8{d}(h:ρ[i]?=some (.sh d)):dV i ρ=.ok d:=by unfold dV;rw[h]
structure vc(S:gR):Prop where
 lC:S[0]?=some .mk
 bnd:me S
def yt{f:h8}{n}(i:vc S)(e:f ρ S=.ok (.loc n) S')(N:n7 S S' n L)(c:ρ.any (rE n)=false):n6 f ρ S=.ok (.d<|.lst L) (S'.set n .no)/\vc (S'.set n .no):=by
 constructor
 ·unfold n6;rw[e]
  show(match S'[n]? with
   |some (.li h)=>(match kf h with
    |some d=>if S.length<=n/\S'.any (kh n)=false/\ρ.any (rE n)=false then RX.ok (Z.d<|.lst d) (S'.set n .no)else .bad
    |none=>.bad)
   |_=>.bad)=_
  rw[N.at_]
  show(match kf (L.map Z.d)with
   |some d=>if S.length<=n/\S'.any (kh n)=false/\ρ.any (rE n)=false then RX.ok (Z.d<|.lst d) (S'.set n .no)else .bad
   |none=>.bad)=_
  rw[qF];exact ai ⟨N.le,N.sf,c⟩
 ·have:=N.le;have:=lW i.lC;refine⟨by rw[ax<|by omega];exact N.lC,λj g=>uA (N.bnd j<|by rw[bp]at g;exact g) rfl⟩
def ud(o):jw (oD o)=true/\jL (oD o)<=1:=by
 cases o with
 |none=>exact⟨rfl,bD _⟩
 |some p=>exact⟨rfl,show 1<=1 from ah _⟩
def JD{x:Dy}(h:PyData.strOk x.w=true):jw x.v=true/\jL x.v<=5:=by
 have d:=ud x.lo;have c:=ud x.hi;constructor
 ·show(PyData.strOk x.w&&(true&&(true&&((true&&(true&&true))&&(jw (oD x.lo)&&(jw (oD x.hi)&&(true&&(true&&true))))))))=true;rw[h,d.1,c.1];rfl
 ·show max 0 (max 0<|max 0<|max 1<|max (jL<|oD x.lo)<|max (jL<|oD x.hi)<|max 0<|max 0 0)+1<=5;omega
def JN{w}(h:PyData.strOk w=true)(k:Int)(g):jw (.tup<|.str w::.int k::tell g)=true/\jL (.tup<|.str w::.int k::tell g)<=5:=by
 have d:=ud (least g);have c:=ud (most g);constructor
 ·show(PyData.strOk w&&(true&&(true&&((true&&(true&&true))&&(jw (oD<|least g)&&(jw (oD<|most g)&&(true&&(true&&true))))))))=true;rw[h,d.1,c.1];rfl
 ·show max 0 (max 0<|max 0<|max 1<|max (jL<|oD<|least g)<|max (jL<|oD<|most g)<|max 0<|max 0 0)+1<=5;omega
def JJ(h:∀x∈L,x.Ok):jw (.lst (out L))=true/\jL (.lst (out L))<=60:=Bf λd f=>by obtain⟨x,c,rfl⟩:=tO f;exact JN (h x c).w x.d _
structure Fz(Fc Fw Fk:gP)(Zd Zw:jU):Prop where
 c:Cl Fc
 w:∀c k:Int,0<=k/\k<26->∃z:Str,PyData.strOk z=true/\Fw [.int c,.int k]=.ok (.str z)
 k:∀g:List Dy,(∀x∈g,x.Ok)->g.length<=40->Fk [.lst<|g.map Dy.v]=.ok (.tup<|tell g)
 d:∀w0 w1 w2:Str,PyData.strOk w0=true/\PyData.strOk w1=true/\PyData.strOk w2=true->∀(ns:List Int) (S:gR),S[0]?=some .mk->me S->∃(L:List Dy) (S':gR) (n':Nat),(∀x∈L,x.Ok)/\L.length<=40/\Zd [.d<|.lst<|ns.map .int,.d<|.lst [.str w0,.str w1,.str w2]] S=.ok (.loc n') S'/\n7 S S' n' (L.map Dy.v)
 s:∀L:List Dy,(∀x∈L,x.Ok)->L.length<=40->∀S:gR,S[0]?=some .mk->me S->∃S' n',Zw [.d<|.lst<|L.map Dy.v] S=.ok (.loc n') S'/\n7 S S' n' (out<|L.map Dy.wk)
variable{Fc K P:gP}{O J:jU}
def O4(L:List Dy)(h:L.length<=40):oQ (.lst<|L.map λx=>tD<|key x.wk)=.ok (kn<|L.map Dy.wk):=by
 have t:∀L:List Dy,qj (L.map λx=>tD<|key x.wk)=some ((L.map Dy.wk).map key):=λL=>by
  induction L with
  |nil=>rfl
  |cons x L f=>rw[aE,aE,aE];show(some<|key x.wk).bind (λc=>(qj<|L.map λx=>tD<|key x.wk).map (c:: ·))=_;rw[f];rfl
 unfold oQ;dsimp only;rw[t];refine ai ⟨tF (sg:=[2,0,1]) λd g=>?_,by rw[aD];omega⟩;obtain⟨x,_,rfl⟩:=aP.mp g;rfl
def Oo(L:List Dy)(x:Dy):mC (L.map Dy.wk) (tD<|key x.wk)=.tup (.str x.w::.int (x.d/7)::tell (L.filter λy=>jg (key x.wk) y.wk)):=by show D.tup (.str x.w::.int (x.d/7)::tell ((L.map Dy.wk).filter (jg<|key x.wk)))=_;rw[List.filter_map,PY];rfl
def PM(H:Fz Fc K P O J){L:List Dy}(w:∀x∈L,x.Ok)(u:L.length<=40){x:Dy}(G:x∈L)(d:List D)(I:d.length<1000)(S:gR)(j i h f t s o:Option Z):∃q p m,
    yh (hT 2 (hC (hV 6)<|hC (hV 7) P2.hN) (tD<|key x.wk) [j,i,gX<|L.map Dy.v,h,f,h9 S.length,t,s,o]) (λl=>mR a Fc K P O J l<|S++[.li<|d.map Z.d])=.nx [j,i,gX<|L.map Dy.v,h,f,h9 S.length,q,p,m] (S++[.li<|(d++[mC (L.map Dy.wk)<|tD<|key x.wk]).map Z.d]):=by
 have wk:∀y:Dy,jg (key x.wk) y.wk=(decide (y.w=x.w)&&decide (y.d/7=x.d/7)):=λy=>by
  have:(key y.wk=key x.wk)↔(y.w=x.w/\y.d/7=x.d/7):=by show([.inl<|y.d/7,.inr y.w]:List Key)=[.inl<|x.d/7,.inr x.w]↔_;simp only[fY,Sum.inl.injEq,Sum.inr.injEq,and_true];exact And.comm
  unfold jg;rw[<-Bool.decide_and];exact decide_eq_decide.mpr this
 have c:=vA (fi:=λρ=>((dV 2) ρ).bind hJ) (ci:=[6,7]) (fc:=lL (b1 tB<|d2 j5 (gO 0 0)<|dV 2)<|b1 tB<|d2 j5 (d2 ib (gO 0 1)<|gJ 7)<|dV 1) (fe:=dV 0) (ρ:=j8 [j,i,gX<|L.map Dy.v,h,f,h9 S.length,iC<|x.d/7,ic<|.str x.w,o]) (kr:=[.sh<|.int<|x.d/7,.sh<|.str x.w]) Dy.v Dy.v (λy=>jg (key x.wk) y.wk) (L:=L) rfl rfl (by omega) (λy _=>by rw[wk];have F:d2 j5 (gO 0 0) (dV 2) [.sh y.v,.sh<|.int<|x.d/7,.sh<|.str x.w]=.ok (.bl<|decide<|y.w=x.w):=rfl;have C:d2 j5 (d2 ib (gO 0 1)<|gJ 7) (dV 1) [.sh y.v,.sh<|.int<|x.d/7,.sh<|.str x.w]=.ok (.bl<|decide<|y.d/7=x.d/7):=jo (jo (x:=.int y.d) rfl rfl<|p9 (by decide)<|by decide) rfl rfl;unfold lL b1;rw[F,C];cases decide (y.w=x.w)<;>cases decide (y.d/7=x.d/7)<;>rfl) λ_ _=>rfl
 obtain⟨g,k⟩:∃g,g=L.filter λy=>jg (key x.wk) y.wk:=⟨_,rfl⟩;rw[<-k]at c;have v:∀y∈g,y.Ok:=λy r=>w y (by rw[k]at r;exact(cC.mp r).1);have A:g.length<=40:=by rw[k];exact aI (cZ ..) u
 refine⟨iC<|x.d/7,ic<|.str x.w,gX<|g.map Dy.v,?_⟩;show mR a Fc K P O J [j,i,gX<|L.map Dy.v,h,f,h9 S.length,iC<|x.d/7,ic<|.str x.w,o] (S++[.li<|d.map Z.d])=_;unfold mR;rw[jh<|jH (iE c)<|aG rfl];refine(QA (n:=S.length) (z:=.d<|.tup<|.str x.w::.int (x.d/7)::tell g) (S1:=S++[.li<|d.map Z.d]) (zs:=d.map Z.d) (uS:=d.map Z.d) rfl (lQ _ _) (iE<|jo (x:=.tup [.str x.w,.int<|x.d/7]) (y:=.tup<|tell g) rfl (um (xs:=[.lst<|g.map Dy.v]) rfl<|H.k g v A) rfl) (lQ _ _)<|by rw[aD];omega).trans ?_;rw[xO,Oo,<-k,bO];rfl
theorem AY(H:Fz Fc K P O J){L:List Dy}(s:∀x∈L,x.Ok)(q:L.length<=40)(S:gR)(j i h g:Option Z):∀(f:List D) (acc:List D) (l k c:Option Z),(∀d∈f,∃x∈L,d=tD (key x.wk))->acc.length+f.length<=900->∃p o n,
 kL (hT 2<|hC (hV 6)<|hC (hV 7) P2.hN) (mR a Fc K P O J) f [j,i,gX<|L.map Dy.v,h,g,h9 S.length,l,k,c] (S++[.li<|acc.map Z.d])=.nx [j,i,gX<|L.map Dy.v,h,g,h9 S.length,p,o,n] (S++[.li<|(acc++f.map (mC<|L.map Dy.wk)).map Z.d])
 |[],acc,l,k,c,_,_=>⟨l,k,c,by rw[cg,aZ];rfl⟩
 |d::f,acc,l,k,c,r,C=>by rw[ao]at C;obtain⟨x,G,rfl⟩:=r d (.head _);obtain⟨A,z,w,e⟩:=PM (a:=a) H s q G acc (by omega) S j i h g l k c;obtain⟨v,u,t,M⟩:=AY H s q S j i h g f (acc++[mC (L.map Dy.wk) (tD (key x.wk))]) A z w (λy F=>r y (.tail _ F)) (by rw[aq,bq];omega);refine⟨v,u,t,?_⟩;have I:yh (hT 2 (hC (hV 6)<|hC (hV 7) P2.hN) (tD<|key x.wk) [j,i,gX<|L.map Dy.v,h,g,h9 S.length,l,k,c]) (λm=>mR a Fc K P O J m<|S++[.li<|acc.map Z.d])=mR a Fc K P O J [j,i,gX<|L.map Dy.v,h,g,h9 S.length,iC<|x.d/7,ic<|.str x.w,c] (S++[.li<|acc.map Z.d]):=rfl;show rM (mR a Fc K P O J [j,i,gX<|L.map Dy.v,h,g,h9 S.length,iC<|x.d/7,ic<|.str x.w,c]<|S++[.li<|acc.map Z.d]) (kL (hT 2<|hC (hV 6)<|hC (hV 7) P2.hN) (mR a Fc K P O J) f)=_;rw[<-I,e,aE,List.append_cons acc (mC (L.map Dy.wk)<|tD<|key x.wk)<|f.map<|mC<|L.map Dy.wk];exact M
def IT(H:Fz Fc K P O J)(g:List Int)(hn:g.length<=63)(b:Nat):∃S',jW (tp a Fc K P O J b (j9 9 [.d<|.lst<|g.map .int]) [.mk])=.ok (.d<|.bl true) S':=by
 have I:vc [Cell.mk]:=⟨rfl,λ_ _=>rfl⟩;obtain⟨w,s⟩:∃w:Int->Str,∀k:Int,0<=k/\k<26->PyData.strOk (w k)=true/\K [.int (g.getD 0 0),.int k]=.ok (.str (w k)):=by refine⟨λk=>if h:0<=k/\k<26 then Classical.choose (H.w (g.getD 0 0) k h)else⟨#[]⟩,λk h=>?_⟩;simp only[dif_pos h];exact Classical.choose_spec (H.w (g.getD 0 0) k h)
 obtain⟨L,S1,n1,t,v,ed,d1⟩:=H.d (w 0) (w 1) (w 2) ⟨(s 0<|by decide).1,(s 1<|by decide).1,(s 2<|by decide).1⟩ g [.mk] I.lC I.bnd;have M:zD (ig<|iq (λρ=>((gI (gJ 3) gL) ρ).bind nS) 1 [0] (gV 0) (λ_=>.ok true)<|dA K<|gI (dA Fc<|gI (dV 1)<|gI (gJ 0) gL)<|gI (dV 0) gL) [gX<|g.map .int,none,none,none,none,none,none,none,none] [.mk]=.ok (.d<|.lst [.str<|w 0,.str<|w 1,.str<|w 2]) [.mk]:=by
  have c:=ot (fi:=λρ=>((gI (gJ 3) gL) ρ).bind nS) (ci:=[0]) (fe:=dA K<|gI (dA Fc<|gI (dV 1)<|gI (gJ 0) gL)<|gI (dV 0) gL) (ρ:=j8 [gX<|g.map .int,none,none,none,none,none,none,none,none]) (kr:=[.sh<|.lst<|g.map .int]) D.int (λk=>.str<|w k) (L:=[0,1,2]) rfl rfl (by decide) λk U=>by
   have A:0<=k/\k<26:=by simp only[aF,cx,fm]at U;omega
   have e0:dA Fc (gI (dV 1)<|gI (gJ 0) gL) [.sh<|.int k,.sh<|.lst<|g.map .int]=.ok (.int<|g.getD 0 0):=H.c g 0;exact um (mm e0<|mm (x:=.int k) rfl rfl) (s k A).2
  exact iE c
 obtain⟨f2,G⟩:=yt (f:=zZ O (iU (zD (dV 0)) (iU (zD (dV 1)) kc))) (ρ:=[gX (g.map .int),gX [.str (w 0),.str (w 1),.str (w 2)],none,none,none,none,none,none,none]) I (uP (lG (iE rfl) (lG (iE rfl) oZ)) ed) d1 rfl;obtain⟨r,o,ew,C⟩:=H.s L t v _ G.lC G.bnd;obtain⟨f4,F⟩:=yt (f:=zZ J (iU (zD (dV 3)) kc)) (ρ:=[gX (g.map .int),gX [.str (w 0),.str (w 1),.str (w 2)],gX (L.map Dy.v),gX (L.map Dy.v),none,none,none,none,none]) G (uP (lG (iE rfl) oZ) ew) C rfl;obtain⟨j,i,ez,d3⟩:=H.s [] (λ_ h=>nomatch h) (by decide) _ F.lC F.bnd;obtain⟨Y,N5⟩:=yt (f:=zZ J (iU (zD (ig (λρ=>(gL ρ).bind km))) kc)) (ρ:=[gX (g.map .int),gX [.str (w 0),.str (w 1),.str (w 2)],gX (L.map Dy.v),gX (L.map Dy.v),gX (out (L.map Dy.wk)),none,none,none,none]) F (uP (lG (iE (d:=.lst []) rfl) oZ) ez) d3 rfl;have n:=Bf (f:=Dy.v) (l:=L) λx p=>JD (t x p).w;have nO:=JJ (L:=L.map Dy.wk) λx p=>by obtain⟨y,u,rfl⟩:=aP.mp p;exact C6 (t y u)
 have m:oY (zB<|b1 tB<|d2 lY (dV 3)<|dV 2) (oY (zB<|oo<|b1 tT<|dA (lB a.nF)<|gI (dV 4)<|gI (dC<|.ty "list") gL)<|rT tB<|z2 lY (n6<|zZ J<|iU (zD<|ig<|λρ=>(gL ρ).bind km) kc)<|zD<|ig<|λρ=>(gL ρ).bind km) [gX<|g.map .int,gX [.str<|w 0,.str<|w 1,.str<|w 2],gX<|L.map Dy.v,gX<|L.map Dy.v,gX<|out<|L.map Dy.wk,none,none,none,none] (r.set o .no)=.ok false (j.set i .no):=by
  have T:zB (b1 tB<|d2 lY (dV 3)<|dV 2) [gX<|g.map .int,gX [.str<|w 0,.str<|w 1,.str<|w 2],gX<|L.map Dy.v,gX<|L.map Dy.v,gX<|out<|L.map Dy.wk,none,none,none,none] (r.set o .no)=.ok false (r.set o .no):=by refine qt ?_;show(lY (.lst<|L.map Dy.v)<|.lst<|L.map Dy.v).bind tB=_;rw[ne_self n.1 n.2];rfl
  have Q:zB (oo<|b1 tT<|dA (lB a.nF)<|gI (dV 4)<|gI (dC<|.ty "list") gL) [gX<|g.map .int,gX [.str<|w 0,.str<|w 1,.str<|w 2],gX<|L.map Dy.v,gX<|L.map Dy.v,gX<|out<|L.map Dy.wk,none,none,none,none] (r.set o .no)=.ok false (r.set o .no):=qt rfl;have N:=QO (q:=tB) (k:=false) (De (q:=lY) Y (iE (q:=ig<|λρ=>(gL ρ).bind km) (d:=.lst []) rfl) (w:=.bl false)<|ne_self rfl<|by decide) rfl;rw[Dj T,Dj Q];exact N
 obtain⟨u6,u7,u8,el⟩:=AY (a:=a) H t v (j.set i .no) (gX (g.map .int)) (gX [.str (w 0),.str (w 1),.str (w 2)]) (gX (L.map Dy.v)) (gX (out (L.map Dy.wk))) (kn (L.map Dy.wk)) [] none none none (λd V=>by obtain⟨x,p,rfl⟩:=tO V;obtain⟨y,u,rfl⟩:=aP.mp p;exact⟨y,u,rfl⟩) (by have:=kds_len (L.map Dy.wk);rw[aD]at this;simp;omega)
 refine⟨j.set i .no++[.li<|([]++(kn<|L.map Dy.wk).map (mC<|L.map Dy.wk)).map Z.d],?_⟩;show jW (tp a Fc K P O J b [gX<|g.map .int,none,none,none,none,none,none,none,none] [.mk])=_;unfold tp;rw[jh<|jH M<|aG rfl];refine(cn jW (a₂:=jI.rt (.d<|.bl true)<|j.set i .no++[.li<|([]++(kn<|L.map Dy.wk).map (mC<|L.map Dy.wk)).map Z.d])<|(jh<|jH f2<|aG rfl).trans ?_).trans ?_
 ·refine(jh<|jH (iE (d:=.lst<|L.map Dy.v) rfl)<|aG rfl).trans ?_;refine(jh<|jH f4<|aG rfl).trans ?_;refine(QC m).trans ?_;refine(jh<|jH (show qq (λρ=>(gL ρ).bind km) _ (j.set i .no)=.ok (.loc (j.set i .no).length) (j.set i .no++[.li []])from rfl)<|aG rfl).trans ?_;refine(jh<|(yo (ds:=kn<|L.map Dy.wk) ?_).trans el).trans ?_
  ·have c:=ot (fi:=λρ=>((dV 2) ρ).bind hJ) (ci:=[]) (fe:=dA iZ<|gI (d2 ib (gO 0 1)<|gJ 7)<|gI (gO 0 0) gL) (ρ:=j8 [gX<|g.map .int,gX [.str<|w 0,.str<|w 1,.str<|w 2],gX<|L.map Dy.v,gX<|L.map Dy.v,gX<|out<|L.map Dy.wk,h9 (j.set i .no).length,none,none,none]) (kr:=[]) Dy.v (λx=>tD<|key x.wk) (L:=L) rfl rfl (by omega) λx _=>um (mm (jo (x:=.int x.d) rfl rfl<|p9 (by decide)<|by decide)<|mm (x:=.str x.w) rfl rfl) rfl;show(R.bind ((R.bind ((ig<|iq (λρ=>((dV 2) ρ).bind hJ) 1 [] (gV 0) (λ_=>.ok true)<|dA iZ<|gI (d2 ib (gO 0 1)<|gJ 7)<|gI (gO 0 0) gL) (j8 [gX<|g.map .int,gX [.str<|w 0,.str<|w 1,.str<|w 2],gX<|L.map Dy.v,gX<|L.map Dy.v,gX<|out<|L.map Dy.wk,h9 (j.set i .no).length,none,none,none])) oQ).bind λds=>.ok<|.lst ds) hJ)=_;rw[c];show((oQ<|.lst<|L.map λx=>tD<|key x.wk).bind λds=>R.ok<|.lst ds).bind hJ=_;rw[O4 L v];rfl
  ·refine y_ret (z:=.d<|.bl true) (QD ?_ rfl);exact jo (x:=.lst<|out<|L.map Dy.wk) (y:=.lst<|out<|L.map Dy.wk) rfl (L8<|cn some<|Qq<|lQ _ _) (eq_self nO.1 nO.2)
 ·rfl
end og
namespace P2
open PySem PySem.Spec PyProof.Rows Fx L2
structure Wt(P:Program)(w:World)(K:W.Frag)(mg:iw)(base h:Heap):Prop where
 X:K.In h
 G:h.Ns mainGlobals mg
abbrev nq(K:W.Frag)(x:Str)(v:Value):Prop:=W.nsIn K mainGlobals x=some (some v)
abbrev lJ(K:W.Frag)(x:Str):Prop:=W.nsIn K mainGlobals x=some none
abbrev yB(K:W.Frag)(C:Addr)(x:Str)(b:String):Prop:=W.findIn K (.ref C) x=some (some<|.builtin b)
abbrev DH(K:W.Frag)(C:Addr)(x:Str):Prop:=W.findIn K (.ref C) x=some none
def jd(K:W.Frag)(x:Str)(a:Stmt):Prop:=∃f c,iK K x x a f c/\nq K x (.ref f)
variable{P:Program}{w:World}{K:W.Frag}{s:iw}{i h:Heap}{x y:Str}{q:Stmt}{C:Addr}{k:Nat}{r:List Str}{z:Sp}
def Wt.g{v:Value}(Y:Wt P w K s i h)(e:nq K x v):s x=some v:=gc Y.X Y.G e
def Wt.n(Y:Wt P w K s i h)(e:lJ K x):s x=none:=W.mg_none_of Y.X Y.G e
def EA{dV:Value}(l:r.length=1)(b:∀(kV a g:Value) (j:Option Addr) (c ct:Value) (f:Value),bindArgs (W.fnOf x y (kC q) (jK q) (hY q) dV kV a g j c ct) ⟨[f],[]⟩=pure (r.zip [f]))(kV a g:Value)(j:Option Addr)(c ct:Value)(d:List Value)(h:d.length=r.length):bindArgs (W.fnOf x y (kC q) (jK q) (hY q) dV kV a g j c ct) ⟨d,[]⟩=pure (r.zip d):=by
 rw[l]at h;cases d with
 |nil=>cases h
 |cons f d=>
  cases d with
  |nil=>exact b kV a g j c ct f
  |cons u d=>simp at h
def EB{dV:Value}(m:r.length=2)(b:∀(kV c j:Value) (l:Option Addr) (d ct:Value) (g f:Value),bindArgs (W.fnOf x y (kC q) (jK q) (hY q) dV kV c j l d ct) ⟨[g,f],[]⟩=pure (r.zip [g,f]))(kV c j:Value)(l:Option Addr)(d ct:Value)(a:List Value)(h:a.length=r.length):bindArgs (W.fnOf x y (kC q) (jK q) (hY q) dV kV c j l d ct) ⟨a,[]⟩=pure (r.zip a):=by
 rw[m]at h;cases a with
 |nil=>cases h
 |cons g a=>
  cases a with
  |nil=>cases h
  |cons f a=>
   cases a with
   |nil=>exact b kV c j l d ct g f
   |cons u a=>simp at h
def jd.mk{f:Addr}{o:Value}{n p:Option Addr}{g:Array<|Option Value}{kV j m d ct:Value}(a:W.nsIn K mainGlobals x=some (some<|.ref f):=by k_is)
    (l:K.lookup f=some ⟨o,n,.func<|W.fnOf x x (kC q) (jK q) (hY q) .none kV j m p d ct,g⟩:=by k_is)(c:W.codeIn K d x=true:=by k_is)(k:W.keepIn K (.ref f)=true:=by k_is):jd K x q:=⟨f,_,th l c k,a⟩
def jd.get(p:jd K x q)(Y:Wt P w K s i h)(b:∀(kV g l:Value) (m:Option Addr) (j ct:Value) (d:List Value),d.length=r.length->bindArgs (W.fnOf x x (kC q) (jK q) (hY q) .none kV g l m j ct) ⟨d,[]⟩=pure (r.zip d)):
    ∃f c,iK K x x q f c/\Binds K c r []/\W.keepIn K (.ref f)=true/\s x=some (.ref f):=let⟨f,c,F,a⟩:=p;⟨f,c,F,F.binds b,F.kp,Y.g a⟩
def jd.has(p:jd K x q)(Y:Wt P w K s i h)(o:∀f a,iK K x x q f a->je P w K s i k f a r z)
    (b:∀(kV d j:Value) (l:Option Addr) (g ct:Value) (c:List Value),c.length=r.length->bindArgs (W.fnOf x x (kC q) (jK q) (hY q) .none kV d j l g ct) ⟨c,[]⟩=pure (r.zip c)):
    iP P w K s i k x r z:=let⟨f,a,F,b,k,m⟩:=p.get Y b;⟨f,a,o f a F,b,k,m⟩
def jd.pL(p:jd K x q)(Y:Wt P w K s i h)(o:∀f g,iK K x x q f g->je P w K s i k f g r z)
    (l:r.length=1:=by rfl)(b:∀(kV a j:Value) (m:Option Addr) (c ct:Value) (d:Value),bindArgs (W.fnOf x x (kC q) (jK q) (hY q) .none kV a j m c ct) ⟨[d],[]⟩=pure (r.zip [d]):=by intros;rfl):iP P w K s i k x r z:=p.has Y o (EA l b)
def jd.mV(p:jd K x q)(Y:Wt P w K s i h)(o:∀f j,iK K x x q f j->je P w K s i k f j r z)
    (m:r.length=2:=by rfl)(b:∀(kV a l:Value) (n:Option Addr) (c ct:Value) (g d:Value),bindArgs (W.fnOf x x (kC q) (jK q) (hY q) .none kV a l n c ct) ⟨[g,d],[]⟩=pure (r.zip [g,d]):=by intros;rfl):iP P w K s i k x r z:=p.has Y o (EB m b)
def _root_.L2.kW.u{j:Nat}(G:iP P w K s i j x r z)(h:j<=k:=by first|decide|omega):iP P w K s i k x r z:=kW.up G h
end P2
namespace og
open PySem L2 P2 WP WM TM T2 PySem.NumText
abbrev fo(x q:Str)(st:Stmt)(dV kV doc pm:Value)(an:Option Addr)(cdv ct:Value):FuncData:=PySem.W.fnOf x q (kC st) (jK st) (hY st) dV kV doc pm an cdv ct
def xY(K:PySem.W.Frag):Sp:=λc H Q E=>∃(al:Addr->Prop) (ns:List Int),c.length=1/\(∀a,H a=none->al a)/\ns.length<=63/\gQ K al H c [.lst<|ns.map D.int]/\jt K H/\∀H',iH K H H'->Q (.bl true) H'
theorem xr{K:PySem.W.Frag}{al:Addr->Prop}{H:Hp}:∀a:List Int,gQ K al H (a.map V.int) (a.map D.int)
 |[]=>.nil
 |_::a=>.cons (.int _) (xr a)
def O5{K:PySem.W.Frag}{H:Hp}{a:Addr}{c:List Int}(f:c.length<=63)(d:jt K H)(r:Rep K (λ_=>True) H (.ref a)<|.lst<|c.map D.int):xY K [.ref a] H (λv _=>v=.bl true) λ_ _ _=>False:=
 ⟨λ_=>True,c,rfl,λ_ _=>trivial,f,.cons r .nil,d,λ_ _=>rfl⟩
def isF(K:PySem.W.Frag)(a:List Addr)(c:Addr)(u:Value):Option Bool:=if c∈a then PySem.W.kitOne K (.ref c) u else none
def Hv{K:PySem.W.Frag}{a:List Addr}(h:∀c∈a,sr K c):r3 K (isF K a):=λc u b e=>by
 unfold isF at e;split at e;·rename_i z;exact⟨h c z,e⟩
 ·cases e
variable(a:Ad)
abbrev DR:gP:=λds=>hU (ti a<|hA 3 ds)
abbrev DV:gP:=λds=>hU (tm a<|hA 1 ds)
abbrev o8:gP:=λds=>hU (tj a (DV a) (DR a)<|hA 3 ds)
abbrev DX:gP:=λds=>hU (tq a (o8 a)<|hA 2 ds)
abbrev yJ:gP:=λds=>hU (tr a<|hA 2 ds)
abbrev DZ:gP:=λds=>hU (As a<|hA 1 ds)
abbrev yI:gP:=λds=>hU (qU a (o8 a) (DX a)<|hA 3 ds)
abbrev va:(gP)->D->R D:=sW (o8 a)
abbrev DU:gP:=λds=>hU (qS a (yI a) (yJ a) (va a)<|hA 10 ds)
abbrev DY:jU:=λzs S=>jW (qT a (DU a) S.length (j9 3 zs) S)
abbrev D0:jU:=λzs S=>jW (qV a (DZ a) (DY a) S.length (j9 1 zs) S)
abbrev yK:gP:=λds=>hU (tw a<|hA 2 ds)
abbrev D2:gP:=λds=>hU (tA a<|hA 3 ds)
abbrev vb:gP:=λds=>hU (tx a<|hA 4 ds)
abbrev D4:gP:=λds=>hU (qY a<|hA 7 ds)
abbrev D1:jU:=λzs S=>jW (qW a (yK a) (D2 a) (vb a) S.length (j9 13 zs) S)
abbrev D3:gP:=λds=>hU (qX a (vb a)<|hA 7 ds)
def Ai:HF (o8 a):=λt b f h=>IM (λi=>I9 (a:=a) i) (λx y d c h=>IP (a:=a) x y d c h) t b f h
def Bb:ml (vb a):=λt b d c=>IU t b d c
def Aj(p:Fq)(h:Sm 2 p):o8 a [.int p.1,.int p.2]=.ok (pq p):=by rw[Ai a p.1 p.2 h.ne<|h.s2.mono (n:=400)<|by decide,Gr h.low]
def GB:Gt (yI a) (yJ a) (va a) where
 t:=λL g i=>I0 (a:=a) (Aj a (0,1)<|uE<|by decide) (λp q n m l k d c=>IY (a:=a) (Ai a) n m l k d c) L g i
 u:=λp q d c=>I7 (a:=a) (d.sz<|by decide).1 (d.sz<|by decide).2 (c.sz<|by decide).1 (c.sz<|by decide).2
 f:=λG lt j L g=>sV (Aj a) j L none g λ_ h=>nomatch h
def Gs:Fz (yK a) (D4 a) (D3 a) (D1 a) (D0 a) where
 c:=λi k=>Bh i k
 w:=λc k h=>let⟨z,q,_,p⟩:=Ja (a:=a) c k h;⟨z,q,p⟩
 k:=λg m f=>IV (Bb a) g m f
 d:=λu t r o i S l j=>IK (λi k=>Bh i k) (λc k h=>IW c k h) (Bb a) o i S l j _
 s:=λL n f S l j=>I8 (λd=>by show ib (.int d) (.int 7)=_;exact p9 (by decide) (by decide)) (λL n f S l j=>IZ (λw k g m f=>IQ (GB a) w k g m f) L n f S l j _) L n f S l j _
def all_mk{l:PySem.W.OpenLaw}{w:World}{K:PySem.W.Frag}{h:Heap}{L:iw}{fa f5 f9 vV g f:Addr}(X:K.In h)(G:h.Ns mainGlobals L)(hfa:L "law"=some (.ref fa))
    {Jw El Jx Em Jv R:Option Addr}{OT OU OS:Array<|Option Value}{Jt HN Fs La zi Fb Ju HP Ft Lb zj Fd Js M N J C O:Value}
    {y:Tok}
    (p1:jd K "common_divisor" xA)
    (p2:jd K "is_whole" xD)
    (p3:jd K "fraction" xC)
    (p4:jd K "plus" xE)
    (a5:nq K "under"<|.ref f5)
    (l5:K.lookup f5=some ⟨Jt,Jw,.func<|fo "under" "under" uz .none HN Fs La El zi Fb,OT⟩)(c5:PySem.W.codeIn K zi "under"=true)(k5:PySem.W.keepIn K (.ref f5)=true)
    (p6:jd K "week_of" xH)
    (p7:jd K "total_of" xG)
    (p8:jd K "first_of" xB)
    (a9:nq K "group_told"<|.ref f9)
    (l9:K.lookup f9=some ⟨Ju,Jx,.func<|fo "group_told" "group_told" uy .none HP Ft Lb Em zj Fd,OU⟩)(c9:PySem.W.codeIn K zj "group_told"=true)(k9:PySem.W.keepIn K (.ref f9)=true)
    (wZ:jd K "put_together" xF)
    (w8:jd K "weeks" xI)
    (xa:jd K "_law_cell_at" xQ)
    (xb:jd K "_law_mixed" xT)
    (xc:jd K "_law_low" xS)
    (xf:jd K "_law_word" xV)
    (xg:jd K "_law_days" xR)
    (xh:jd K "_law_week" xU)
    (a18:nq K "law"<|.ref vV)
    (wt:K.lookup vV=some ⟨Js,Jv,.func<|fo "law" "law" oM .none M N J R C O,OS⟩)(vz:PySem.W.codeIn K C "law"=true)(wj:PySem.W.keepIn K (.ref vV)=true)
    (wD:wu K "group_told"=true)
    (vY:PySem.W.fnIn K f5=true)
    (i:nq K "WeatherError"<|.ref g)
    (r:nq K "NoFraction"<|.ref f)
    (o:PySem.W.excIn K f [.type "ValueError",.type "Exception",.type "BaseException",.type "object"] "ValueError.__new__"=true)(m:PySem.W.keepIn K (.ref f)=true)(n:yB K f "__getattribute__" "BaseException.__getattribute__")(k:DH K f "__getattr__")
    (p:yB K f "__class__" "object.__class__")
    (pK:nq K "WEEK_DAYS"<|.int 7 y)
    (yr:lJ K "abs")(I:lJ K "bool")(Z:lJ K "int")(t:lJ K "isinstance")(Y:lJ K "len")(D:lJ K "list")(A:lJ K "range")(V:lJ K "set")(z:lJ K "sorted")(U:lJ K "sum"):
    ∃fd:FuncData,(∀(s:Shared) (v:Value),BindsTo s fd ⟨[v],[]⟩ [("_law_script",v)])/\∀base:Heap,K.In base->base.Ns mainGlobals L->BM L base->ku l.prog w K L base (hZ l.prog w) 9 fa fd ["_law_script"] (xY K):=by
 have e:=hfa.symm.trans (gc X G a18);cases e;have x:yR K f:=⟨o,m,n,k,p⟩;have IS:r3 K (isF K []):=Hv λc hc=>by simp only[aF,cx,fm]at hc
 have W:Wt l.prog w K L h h:=⟨X,G⟩;obtain⟨a,ea⟩:∃a:Ad,a={WeatherError:=g,NoFraction:=f,nF:=isF K []}:=⟨_,rfl⟩;have T:Tx K L a:=by subst ea;exact {sC:=W.n yr,yX:=W.n I,yY:=W.n Z,sD:=W.n t,yZ:=W.n Y,vn:=W.n D,vo:=W.n A,y6:=W.n V,sE:=W.n z,qH:=W.n U,pK:=.int<|W.g pK,EH:=W.g i,zg:=W.g r,zh:=⟨_,W.g a5,vY⟩,Df:=x,tI:=IS}
 have ei:a.nF=isF K []:=by rw[ea]
 have j:a.WeatherError=g:=by rw[ea]
 have u:a.NoFraction=f:=by rw[ea]
 clear ea;subst j;subst u;have F5:=th (st:=uz) l5 c5 k5;have b5:=F5.binds (ps:=["one","other"]) λ_ _ _ _ _ _ us hl=>match us,hl with|[_,_],_=>rfl
 have m5:=gc X G a5;have F9:=th (st:=uy) l9 c9 k9;have b9:=F9.binds (ps:=["mast","number","group"]) λ_ _ _ _ _ _ us hl=>match us,hl with|[_,_,_],_=>rfl
 have m9:=gc X G a9;have DF:=th (st:=oM) wt vz wj;refine⟨PySem.W.fnOf "law" "law" (kC oM) (jK oM) (hY oM) .none M N J R C O,λs v=>.of_eq rfl,λbase _ _ bm=>?_⟩;have W:Wt l.prog w K L base h:=⟨X,G⟩;obtain⟨Rp,Rl,G3,GU⟩:=Ik a9 l9 wD;have H1:=p1.mV W λ_ _ F=>JB T F;have H2:=p2.pL W λ_ _ F=>JH T F;have H3:=p3.mV W λ_ _ F=>JF T F H2.u H1.u;have H4:=p4.mV W λ_ _ F=>JK T F H3.u;have o5:=JP (P:=l.prog) (w:=w) (base:=base) T F5;have H5:kW _ _ _ _ _ _ _ _ _ _:=⟨_,_,o5,b5,k5,m5⟩;have H6:=p6.pL W λ_ _ F=>JQ T F;have H7:=p7.pL W λ_ _ F=>JO T F H3.u H4.u;have H8:=p8.mV W λ_ _ F=>JE (F0:=va a) T F H3.u (λG c d=>IL (a:=a) (Ff:=o8 a) G c d);have o9:=JG (P:=l.prog) (w:=w) (base:=base) T F9 bm G3 GU H7.u H5.u H8.u H5.u H5.u;have H9:kW _ _ _ _ _ _ _ _ _ _:=⟨_,_,o9,b9,k9,m9⟩;have qx:=wZ.pL W λ_ _ F=>JL T F H9.u;have qy:=w8.pL W λ_ _ F=>JR T F H6.u qx.u;have nj:=xa.mV W λ_ _ F=>JS T F;have DK:=xb.mV W λ_ _ F=>JV T F;have yE:=xc.mV W λ_ _ F=>JU T F;have DL:=xf.mV W λ_ _ F=>JX T F;have DM:=xg.mV W λ_ _ F=>JT T F nj.u DK.u yE.u;have DP:=xh.pL W λ_ _ F=>JW T F yE.u;have Jr:=JI (P:=l.prog) (w:=w) (base:=base) T DF nj.u DL.u DP.u DM.u qy.u;refine Jr.imp λvs H Q E q=>?_;obtain⟨al,ns,hl,fr,hn,rv,tt,q⟩:=q;obtain⟨S',e⟩:=IT (Gs a) ns hn 1;exact P4 hl rv tt e q
def walk{l:PySem.W.OpenLaw}{q:Program}{k:List Str}{XP:(iw)->Heap->Prop}{I:World->Heap->Prop}{d:DefRec}{K:Params->PySem.W.Frag}(L:l.most=some 63)(y:d.params.defaults=[])
    (P:∀(w:World) (h:Heap),I w h->(K w.params).In h)(hT:∀w:World,(jr<|K w.params).all (λt=>((PyProof.Rows.recsOf q).find? λe=>e.name==t.1).isSome)=true)(hN:∀w:World,PySem.W.noTabs (K w.params)=true)
    (F:∀(w:World) (j:iw) (p:Addr) (h:Heap),(K w.params).In h->h.Ns mainGlobals j->j d.name=some (.ref p)->
      ∃A:FuncData,(∀(s:Shared) (u:Value),BindsTo s A ⟨[u],[]⟩ [("_law_script",u)])/\∀c:Heap,(K w.params).In c->c.Ns mainGlobals j->BM j c->ku l.prog w (K w.params) j c (hZ l.prog w) 9 p A ["_law_script"] (xY (K w.params))):
    PySem.W.WalkO q k XP I l.row.toRowW d [] (λf v=>PySem.call f v):=by
 refine yz.Ew L y λw D C j mb p o V cd T a v Z G Y ho hd N x g m i M=>?_;have r:=P w _ Y;obtain⟨A,O,R⟩:=F w j p _ r G.T.g x;refine Ip r G.T.g G.T.b G.T.builtins G.T.nolimit M g m (aI i<|by decide) ⟨rfl,by decide,by decide⟩ (PV G.T r<|hT w) (hN w) G.T.bmain R O (λH J Q=>O5 i J ?_) λH e U h=>?_
 ·rcases Q with h|⟨o,wh,n,h1,h2,h3,h4,h5,h6⟩;·exact .lst (.inl ⟨trivial,h⟩) (xr _)
  ·have e:=r a o h1;rw[g]at e;cases e;cases h4;exact .lst (.inr ⟨v,_,h1,by simpa using h5,by simpa using h6⟩) (xr _)
 ·obtain⟨_,_,_,_,_,_,_,_,_,_,_,_,z⟩:=h;exact z
end og
structure PySem.W.Fast:Prop where
 (tw333328864961526626 tw5924371539219330887 tw2959683770224597800 tw8772598273936967495 tw5955873002908287665 tw1981562416569024656 tw14385328426225473996 tw5890609591576308365 tw11496460728026097611 tw6008755773640121088 tw9140297257469811458 tw1708598586255869260 tw8590393559419658502 tw10211467800096092082 tw11502118237592482034 tw3302069969566257473 tw15610938806929478411 tw4054832762376483356 tw7765466790291850475 tw9017828445667057970 tw10532053892003682065 tw230477330594537234 tw12756210655242275031 tw12608303819034150907 tw8265529185781525216 tw13010526690341632228 tw15341603441701500685 tw13398792366604745231 tw4304172597095637478 tw5724809711986066247 tw12031505736399945098 tw4677251684249859498 tw13856901020019346229 tw7890334398561960890 tw10704060034078743404 tw1567510605929752456 tw3865224197059345806 tw14308914058287729554 tw7868403117038277234 tw631493305067066556 tw12581304263005642383 tw13486617814268517856 tw7030491343957560059 tw11807329262301316988 tw4591009805375910847 tw6656106320442468767 tw4981778641534239665 tw10817784392669984694 tw3690650445556366305 tw5268685440243826092 tw4238584436389802580 tw14684113200406467829 tw8172444927788735967 tw14001049497667149110 tw13762364339670719399 tw12523293746877515921 tw6464841669178912334 tw4420552733964453418 tw3667200878331148881 tw7446805197528775758 tw4946003819634891419 tw6079074048439135370 tw15927542886896779603 tw10158568371581313611 tw16668982150395914485 tw7348949363415593519 tw7418150029057487182 tw9743857746857301267 tw10282186507124092625 tw9504260263455649623 tw10527666382648336471 tw5639907849054125486 tw10366970806779085207 tw8502797469141469957 tw13174011770460483461 tw363044643645286422 tw477305984830902691 tw689095313677842170 tw4927884032136508817 tw4615875656413209657 tw15182669697263913053 tw15482278826686831075 tw15043427030320825673 tw3978545937427078585 tw15627676956511956641 tw6422953286139752354 tw9552085429728039397 tw13441964710695037316 tw1025496940426710864 tw13512345647860037159 tw17557979042930144469 tw17242582673380282926 tw9569280192977732632 tw6611053303313281378 tw17612351266649725786 tw5190017886149302608 tw3419571301918385335 tw17622277634379238463 tw12147784923421065186 tw4857648403475926650 tw5630432704895844904 tw15329966995999344577 tw17723129226448660720 tw12173862087751288604 tw1026916201514538134 tw11830238938643850421 tw3098960596661049787 tw17052735746697075958 tw13643475093559362031 tw14488507019192464610 tw2581244672805116365 tw16809227033059398741 tw15883319457835331862 tw1639255036350419684 tw12841793563255086559 tw13003576718286292414 tw3807287454682420865 tw2880616474402556969 tw15995507025935331167 tw11749554362155410346 tw16943723352040325152 tw15487096971660469042 tw5334247543894973483 tw16215641791892935971 tw7318919236910368868 tw9461893300529661936 tw2333988066787318880 tw17352952148137537917 tw10571072990673923345 tw12381876616544104318 tw1967779110508260231 tw9519511678550051852 tw16789043282601802641 tw8232128139483872809 tw11076164292949996254 tw9593378185623834942 tw3536661036278885313 tw8451388425552924766 tw4750266379219365833 tw11598092094982491473:True)
open PySem PySem.W PyProof.Rows
set_option maxRecDepth 100000 in
set_option maxHeartbeats 0 in
theorem PySem.Challenge.cw_weather_k63_weeks_holds : PySem.Challenge.rw_weather_k63_weeks.Holds := by
 w_on;o_law;k_head;(case hw=>w_witness2)
 k_fill
 refine og.walk (l:=PySem.Challenge.rw_weather_k63_weeks) rfl rfl (λw h Y=>by first|exact PySem.W.km_in_of Y|exact PySem.W.kIn_of Y) ?hT ?hN ?F;case hT=>exact λw=>by kernel_rfl
 case hN=>exact λw=>by kernel_rfl
 case F=>
  intro w mg fa h KX G G9;refine' og.all_mk KX G G9 ?p1 ?p2 ?p3 ?p4 ?a5 ?l5 ?c5 ?k5 ?p6 ?p7 ?p8 ?a9 ?l9 ?c9 ?k9 ?wZ ?w8 ?xa ?xb ?xc ?xf ?xg ?xh ?a18 ?wt ?vz ?wj ?wD ?vY ?Eb ?Ea ?QQ ?Q2 ?QX ?Q3 ?QP ?pK ?yr ?QE ?QF ?QG ?QH ?QI ?QJ ?QK ?QM ?QN;case p1|p2|p3|p4=>exact .mk
  case a5|l5|c5|k5=>(show _=_;k_is)
  case p6|p7|p8=>exact .mk
  case a9|l9|c9|k9=>(show _=_;k_is)
  case wZ|w8|xa|xb|xc|xf|xg|xh=>exact .mk
  case a18|wt|vz|wj=>(show _=_;k_is)
  case wD|vY=>kernel_rfl
  case Eb|Ea=>(show _=_;k_is)
  case QQ=>k_exc
  case Q2|QX|Q3|QP|pK|yr|QE|QF|QG|QH|QI|QJ|QK|QM|QN=>(show _=_;k_is)
