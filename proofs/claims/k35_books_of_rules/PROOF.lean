import PyProof.Rows.All
import Wide.All
import OpenK.AllK
import PySem.Challenge.RW_weather_k35_books_of_rules
set_option compiler.extract_closed false
set_option bootstrap.genMatcherCode false
set_option linter.all false
def aa:=@List.length_append
def ae:=@List.length_map
def af:=@if_pos
def ag:=@List.length_cons
def ah:=@PySem.wpAny_bind
def ai:=@List.getElem?_set_ne
def aj:=@PySem.Heap.get?_push_of_some
def ak:=@Nat.lt_of_lt_of_le
def ao:=@if_neg
def aq:=@Bool.and_eq_true
def au:=@Nat.le_refl
def av:=@Nat.le_trans
def aw:=@List.getElem?_set_self
def az:=@decide_eq_false
def aA:=@decide_eq_true_eq
def aB:=@decide_eq_true
def aC:=@List.cons.injEq
def aD:=@List.getElem?_eq_some_iff
def aE:=@PySem.wpAny_pure
def aF:=@List.map_cons
def aG:=@PySem.wpAny_loadPart_at
def aH:=@List.map_append
def aI:=@congrArg
def aJ:=@PySem.Heap.get?_push_size
def aK:=@PySem.wpAny_mono
def aL:=@Option.map_eq_some_iff
def aM:=@List.size_toArray
def aN:=@List.getElem?_map
def aO:=@Int.eq_ofNat_of_zero_le
def aP:=@List.append_nil
def aQ:=@List.mem_cons_of_mem
def aR:=@Bool.false_ne_true
def aS:=@List.mem_singleton
def aT:=@List.mem_cons
def aU:=@List.mem_append_right
def aV:=@List.append_assoc
def aW:=@Nat.ne_of_lt
def aX:=@List.getElem?_append_left
def aY:=@List.length_set
def aZ:=@List.all_eq_true
def a9:=@List.mem_append
def ba:=@Bool.or_eq_true
def bc:=@Nat.exists_eq_add_of_le'
def bf:=@List.mem_cons_self
def bh:=@List.getElem?_append_right
def bj:=@List.length_nil
def bo:=@cond_false
def bp:=@Option.bind_eq_some_iff
def bq:=@List.nil_append
def bu:=@List.map_map
def bw:=@List.getElem?_eq_getElem
def bx:=@Bool.eq_iff_iff
def bz:=@decide_false
def bA:=@PySem.wpAny_execs_nil
def bB:=@cond_true
def bC:=@PySem.Heap.get?_update_other
def bD:=@decide_true
def bE:=@PySem.Obj.data_mapFields
def bF:=@List.any_cons
def bG:=@List.length_replicate
def bH:=@List.length_singleton
def bJ:=@List.mem_map
def bK:=@beq_iff_eq
def bL:=@Nat.lt_succ_self
def bM:=@List.getElem?_replicate
def bN:=@PySem.mem_of_lookup
def bO:=@PySem.wpAny_isSubtype_exc
def bP:=@Nat.le_of_ble_eq_true
def bQ:=@Ne.symm
def bR:=@Array.getElem?_setIfInBounds_ne
def bS:=@List.forall_mem_singleton
def bT:=@PySem.Heap.get?_update_self
def bU:=@decide_eq_decide
def bV:=@Array.getElem?_eq_some_iff
def bW:=@Bool.not_eq_true'
def bX:=@List.drop_eq_nil_of_le
def bY:=@List.take_of_length_le
def bZ:=@Nat.ble_eq
def b7:=@List.forall_mem_append
def b8:=@if_true
def b9:=@List.drop_eq_getElem_cons
def cb:=@PySem.Obj.isFreed_of_fields
def cm:=@PySem.wpAny_execs_cons
def cq:=@List.contains_cons
def cu:=@List.cons_append
def cx:=@List.mem_append_left
def cy:=@Nat.zero_le
def cz:=@PySem.codeAny_call_builtin
def cA:=@List.eq_nil_of_length_eq_zero
def cC:=@PySem.wpAny_truthy_bool
def cD:=@List.dropLast_concat_getLast
def cE:=@PySem.F.plainAttrs_str
def cF:=@Nat.lt_irrefl
def cG:=@PySem.wpAny_field
def cI:=@PySem.wpAny_standAt
def cJ:=@List.lookup_cons
def cK:=@PySem.wpAny_Call_Name_kw
def cL:=@if_false
def cM:=@Int.emod_lt_of_pos
def cN:=@Nat.ble_eq_true_of_le
def cP:=@PySem.wpAny_passesOwn
def cQ:=@List.find?_cons
def cR:=@PySem.codeAny_mono
def cS:=@PySem.wpAny_newObj_type
def cT:=@Bool.eq_false_iff
def cU:=@beq_eq_false_iff_ne
def cV:=@ne_true_of_eq_false
def cW:=@List.takeWhile_cons
def cX:=@List.length_take
def cY:=@decide_eq_false_iff_not
def cZ:=@PySem.wpAny_getItem_str_slice
def c0:=@Nat.le_max_right
def c4:=@PySem.F.plainAttrs_list
def c5:=@PySem.F.slot_list_append
def c6:=@Nat.le_succ
def c7:=@PySem.Calls.callWith_builtin
def c8:=@List.map_nil
def c9:=@Int.emod_nonneg
def dc:=@Nat.le_max_left
def df:=@PySem.wpAny_holding
def dh:=@Bool.or_false
def dj:=@List.getElem?_eq_none
def dm:=@PySem.StrLaws.glued_eq_join
def dq:=@PySem.wpAny_pyIter_list
def du:=@PySem.F.typeOf_object_class
def dw:=@PySem.Heap.get?_none_of_le
def dB:=@PySem.wpAny_loadName_local
def dD:=@PySem.wpAny_setField
def dE:=@PySem.F.excBase_ValueError
def dF:=@List.length_drop
def dG:=@Bool.or_true
def dH:=@Option.bind_some
def dI:=@List.map_congr_left
def dJ:=@Array.size_setIfInBounds
def dM:=@PySem.F.type_list_append
def dN:=@List.mem_filter
def dO:=@List.nodup_cons
def dP:=@PySem.wpAny_loadPart'
def dQ:=@List.sum_append
def dR:=@PySem.wpAny_Constant_int
def dS:=@PySem.Calls.Constant_str
def dU:=@List.mem_filterMap
def dW:=@PySem.Calls.spliced_cons
def dX:=@PySem.Code.quiet_builtin
def dY:=@List.filter_append
def dZ:=@PySem.sizeLine_eq
def d6:=@List.length_eq_zero_iff
def d7:=@PySem.F.slot_str_split
def d8:=@List.mem_range
def d9:=@PySem.Heap.size_push
def ee:=@PySem.W.callWith_K
def ef:=@PySem.wpAny_Call_method_late
def eg:=@PySem.Obj.cls_mapFields
def eh:=@PySem.plainObj_wpAny_Assign_Attribute
def ej:=@PyProof.Rows.slot_tuple_getitem
def el:=@List.takeWhile_append_dropWhile
def eo:=@PySem.wpAny_call
def et:=@PySem.typeIs_str
def ey:=@List.getElem_mem
def eA:=@Int.mul_le_mul_of_nonneg_right
def eB:=@List.mem_of_getElem?
def eC:=@PySem.Calls.evalArgs_plain
def eD:=@Nat.pow_le_pow_right
def eE:=@Bool.or_eq_false_iff
def eF:=@List.of_mem_zip
def eG:=@PySem.post_val_or_str
def eH:=@Nat.min_eq_left
def eI:=@List.filterMap_cons
def eJ:=@Array.length_toList
def eK:=@List.replicate_succ
def eL:=@Nat.ne_of_gt
def eM:=@PyProof.Rows.callWith_type1
def eN:=@PySem.Txt.slice_le
def eO:=@PySem.F.slot_enumerate_next
def eP:=@PySem.W.kia_one
def eQ:=@gt_iff_lt
def eR:=@PySem.wpAny_Name
def eS:=@PySem.Calls.Name_function_global
def eT:=@PySem.wpAny_newFunctionEnv_cells
def eU:=@List.zip_cons_cons
def eV:=@PySem.F.args_str_split_2
def eW:=@Int.eq_of_mul_eq_mul_right
def eX:=@Bool.not_false
def eY:=@Int.cast_ofNat_Int
def eZ:=@PySem.wpAny_Assign_Name
def fh:=@PySem.wpAny_BinOp
def fk:=@PySem.Calls.spliced_nil
def fm:=@PySem.F.entry_str_split
def fq:=@List.flatMap_cons
def fv:=@List.length_range
def fx:=@Option.isSome_iff_exists
def fz:=@Int.mul_assoc
def fA:=@Bool.not_true
def fB:=@PySem.W.cellsFrom_some
def fC:=@PySem.F.attr_ValueError
def fE:=@PySem.W.kia_tup
def fF:=@List.filter_cons
def fG:=@PySem.call_meets
def fH:=@List.set_set
def fJ:=@UInt32.le_iff_toNat_le
def fK:=@Nat.lt_trans
def fL:=@Int.le_of_lt
def fM:=@Nat.le_mul_of_pos_left
def fN:=@PyProof.Rows.joinOk_of
def fO:=@List.any_nil
def fP:=@PySem.codeAny_builtin
def fQ:=@Nat.not_lt_zero
def fR:=@Array.getElem?_toList
def fS:=@PySem.F.entry_bexc_ga
def fT:=@Int.natAbs_dvd_natAbs
def fU:=@PySem.F.store_object
def fV:=@PySem.F.args_bexc_ga
def fW:=@Int.natAbs_mul
def fX:=@List.mem_of_mem_drop
def fY:=@List.all_cons
def fZ:=@List.map_take
def f6:=@Nat.le_of_lt
def f7:=@Nat.succ_pos
def f9:=@Int.mul_comm
def gb:=@List.all_map
def gf:=@false_and
def gg:=@true_and
abbrev gE:=PySem.Value
abbrev gr:=PySem.Addr
abbrev gQ:=PySem.Shared
abbrev gU:=PySem.Heap
abbrev iQ:=PySem.Program
abbrev jd:=PySem.Around
abbrev iK:=PySem.World
abbrev hD:=PySem.Expr
abbrev lT:=@Array
abbrev gH:=@Option
abbrev gp:=PySem.Str
abbrev gL:=Bool
abbrev gi:=@List
abbrev kQ:=PySem.Obj
abbrev kP:=PySem.FuncData
abbrev oY:gi PySem.Str:=["tokens"]
abbrev xl:gi PySem.Str:=["self","row"]
abbrev xm:gi PySem.Str:=["self","places"]
abbrev iR:=PySem.Value->PySem.Shared->Prop
abbrev iY:=PySem.Str->gH PySem.Value
abbrev wC:Nat:=10000000000000000000000000000000000000000000000000000000000000000000000000000000000000000000000000000000000000000000000000000000000000000000000000000000000000000000000000000000000000000000000000000000000000000000000000000000000000000000000000000000000000000000000000000000000000000000000000000000000000000000000000000000000000000000000000000000000000000000000000000000000000000000000000000000000000000
noncomputable section
set_option hygiene false in
open Lean in
def mR0(s:String):MacroM (TSyntax `tactic):=do let l:=(s.splitOn "|").toArray.map fun x=>mkIdent x.toName;`(tactic|first $[|exact $l:ident]*)
set_option hygiene false in
open Lean in
def mR5(s:String):MacroM (TSyntax `term):=do `(by $(← mR0 s):tactic)
set_option hygiene false in
open Lean in
def mR1:String→MacroM (TSyntax `term)|"?"=>`(?_)|"_"=>`(_)|"#0"=>`(‹_›)|"#1"=>`((by decide))|"#2"=>`((Nat.add_assoc _ _ _).symm)|"#3"=>`((by walk_at "h"))|"#4"=>mR5 "vi|MP"|"#5"=>mR5 "T.uj|T.yU|T.yW|T.yT|T.yR|T.wB|T.yS|T.yQ|T.yV|T.yX|T.wA|T.wz"|"#6"=>do `(by with_reducible $(← mR0 "wF|Cq|Cs|Cp|Cj|Co|Ci|Cr|Ct|yZ"):tactic)|"#7"=>mR5 "T.uK|T.uH|T.uE|T.uA|T.uF|T.uL|T.uz|T.uG|T.uD|T.sV|T.uB|T.uC|T.uJ|T.uI"|"#8"=>`((JP (x:="NoText") T.tU KW IC (hr.mono (by decide)) rfl T.um ?_))|"#9"=>`(100)|"#10"=>`((Sj _ (o:=.Name "" ⟨0,0,0,0⟩) c4 c5 dM ?_))|"#11"=>`((fun _ _ _ _=>?_))|"#12"=>`((by kernel_rfl))|"#13"=>`((by rfl))|"#14"=>`((by intro _;rfl))|s=>pure (mkIdent s.toName)
open Lean in
def mR4(s:String):MacroM (TSyntax `term):=do let l←(s.splitOn " ").foldlM (fun st x=>if x.startsWith "@" then pure (Syntax.mkApp (st.drop x.length).head! (st.take x.length).reverse.toArray::st.drop (x.length+1)) else (·::st)<$>mR1 x) [];pure l.head!
set_option hygiene false in
open Lean in
def mR2(s:String):MacroM (TSyntax `tactic):=do let l←(s.splitOn "|").toArray.mapM mR4;`(tactic|first $[|refine $l:term]*)
set_option hygiene false in
open Lean in
def mR3(s:String):MacroM (TSyntax `tactic):=do let p:=s.splitOn ":";let h:=p.head!;let t←mR2 p.getLast!;if h=="" then pure t else if h=="w" then `(tactic|with_reducible $t:tactic) else (do `(tactic|(show $(← mR4 h);$t:tactic)))
set_option hygiene false in
local macro_rules|`(tactic|walk_at "l")=>do let t←mR2 "Nat.le_of_lt #0 @|Nat.le_trans #0 #0 @@|Nat.lt_of_le_of_lt #0 #0 @@|Nat.le_succ_of_le #0 @|Nat.lt_succ_of_le #0 @|Nat.le_of_lt_succ #0 @|Nat.le_add_left _ _ @@|Int.le_of_lt #0 @|Nat.ne_of_gt #0 @|Nat.not_lt.mp #0 @|Nat.le_of_eq #0 @|Nat.add_le_add #0 #0 @@|Nat.le_trans Nat.le_add_right _ _ @@ #0 @@|Nat.le_trans #0 #1 @@|Nat.lt_of_le_of_lt #0 #1 @@|#2|Nat.add_comm _ _ @@";`(tactic|first|assumption|$t:tactic)
def bZ0(_:True:=by rfl):=0
def aZ0:Lean.Syntax:=bZ0._auto_1
def bZ1(_:True:=by decide):=0
def aZ1:Lean.Syntax:=bZ1._auto_1
def bZ2(_:True:=by first|exact .inl rfl|exact .inr rfl|assumption):=0
def aZ2:Lean.Syntax:=bZ2._auto_1
def bZ3(_:True:=by k_is):=0
def aZ3:Lean.Syntax:=bZ3._auto_1
def bZ4(_:True:=by first|exact Or.inl rfl|exact Or.inr (Or.inl rfl)|exact Or.inr (Or.inr rfl)):=0
def aZ4:Lean.Syntax:=bZ4._auto_1
def bZ5(_:True:=by intro _;rfl):=0
def aZ5:Lean.Syntax:=bZ5._auto_1
def bZ6(_:True:=by intro _ _ _ _ _ _ _;kernel_rfl):=0
def aZ6:Lean.Syntax:=bZ6._auto_1
def bZ7(_:True:=by first|exact EV _ (by decide) (by decide)|with_unfolding_all rfl):=0
def aZ7:Lean.Syntax:=bZ7._auto_1
def bZ8(_:True:=by exact λ_ _=>rfl):=0
def aZ8:Lean.Syntax:=bZ8._auto_1
def bZ9(_:True:=by first|decide|omega|(simp only[Nat.add_eq];omega)):=0
def aZ9:Lean.Syntax:=bZ9._auto_1
set_option Elab.async false
set_option maxRecDepth 100000
namespace L2
open PySem PySem.Spec PyProof.Rows
abbrev Key:=Sum Int gp
def uX:Key->gE->gL
 |.inl k,v=>Value.isInt k v
 |.inr x,v=>Value.isStrOf x v
def Wv(w:iK):Key->Int
 |.inl k=>hashInt k
 |.inr x=>hashStr w x
def qS:∀{k} {v},uX k v=true->(∃i t,k=Sum.inl i/\v=Value.int i t)\/(∃x t,k=Sum.inr x/\v=Value.str x t)
 |.inl i,v,h=>by obtain⟨t,e⟩:=Value.isInt_shape (k:=i) (v:=v) h;exact .inl ⟨i,t,rfl,e⟩
 |.inr x,v,h=>by obtain⟨t,e⟩:=Value.isStrOf_shape (x:=x) (v:=v) h;exact .inr ⟨x,t,rfl,e⟩
def Ww(i)(t):uX (.inl i) (.int i t)=true:=by simp[uX,Value.isInt]
def Wx(x t):uX (.inr x) (.str x t)=true:=by simp[uX,Value.isStrOf]
def Wz(a b):decide ((Sum.inl a:Key)=Sum.inl b)=(a==b):=by
 by_cases e:a=b;·subst e;simp
 ·have h:¬(Sum.inl a:Key)=Sum.inl b:=λq=>e (Sum.inl.inj q);rw[az h];exact(cU.mpr e).symm
def WD(a b):decide ((Sum.inr a:Key)=Sum.inr b)=decide (a=b):=by
 by_cases e:a=b;·subst e;simp
 ·have h:¬(Sum.inr a:Key)=Sum.inr b:=λq=>e (Sum.inr.inj q);rw[az h,az e]
def WA(a)(b):decide ((Sum.inl a:Key)=Sum.inr b)=false:=az (λq=>nomatch q)
def WB(a)(b):decide ((Sum.inr a:Key)=Sum.inl b)=false:=az (λq=>nomatch q)
def mY(c:iQ)(w:iK):PySem.KeyKind c w Key where
 is:=uX
 hash:=Wv w
 inj:=λv a b l f=>by
  rcases qS l with⟨i,t,rfl,rfl⟩|⟨x,t,rfl,rfl⟩
  ·rcases qS f with⟨j,u,rfl,e⟩|⟨y,u,rfl,e⟩;·injection e with e1 _;rw[e1]
   ·exact nomatch e
  ·rcases qS f with⟨j,u,rfl,e⟩|⟨y,u,rfl,e⟩;·exact nomatch e
   ·injection e with e1 _;rw[e1]
 byValue:=λk v h=>by rcases qS h with⟨i,t,rfl,rfl⟩|⟨x,t,rfl,rfl⟩<;>rfl
 pyHash:=λd h=>by
  rcases qS d with⟨i,t,rfl,rfl⟩|⟨x,t,rfl,rfl⟩;·exact wpAny_pyHash_int h
  ·exact wpAny_pyHash_str h
 eqBool:=λg d h=>by
  rcases qS g with⟨i,t,rfl,rfl⟩|⟨x,t,rfl,rfl⟩
  ·rcases qS d with⟨j,u,rfl,rfl⟩|⟨y,u,rfl,rfl⟩;·rw[Wz]at h;exact wpAny_eqBool_int h
   ·rw[WA]at h;exact SeqAt.EqAt.int_str i t y u _ _ _ _ h
  ·rcases qS d with⟨j,u,rfl,rfl⟩|⟨y,u,rfl,rfl⟩;·rw[WB]at h;exact SeqAt.EqAt.str_int x t j u _ _ _ _ h
   ·rw[WD]at h;exact wpAny_eqBool_str h
 «strs»:=λk x t v h=>by
  rcases qS h with⟨i,u,rfl,e⟩|⟨y,u,rfl,e⟩;·exact nomatch e
  ·injection e with e1 _;subst e1;cases v<;>rfl
def XO(prog w)(i)(t):(mY prog w).is (.inl i) (.int i t)=true:=Ww i t
def XQ(prog w x t):(mY prog w).is (.inr x) (.str x t)=true:=Wx x t
inductive V where
 |non|bl(b:Bool)|int(i:Int)|str(x:Str)|nO(b:Array UInt8)|flt(b:UInt64)|ref(a:Addr)|ty(n:String)
 deriving DecidableEq
def RelV:V->gE->Prop
 |.non,u=>u=Value.none
 |.bl b,u=>u=Value.bool b
 |.int i,u=>∃t,u=Value.int i t
 |.str x,u=>∃t,u=Value.str x t
 |.nO b,u=>∃t,u=Value.bytes b t
 |.flt b,u=>∃t,u=Value.float b t
 |.ref a,u=>u=Value.ref a
 |.ty n,u=>u=Value.type n
abbrev Vals:gi V->gi gE->Prop:=Paired RelV
abbrev _root_.jP:=gi gE
def Vals.length{a:gi V}{b:jP}(r:Vals a b):a.length=b.length:=Paired.length r
theorem Vals.get:∀{a:gi V} {b:jP} {i:Nat} {x:V},Vals a b->a[i]?=some x->∃u,b[i]?=some u/\RelV x u
 |_,_,_,_,.nil,e=>by simp at e
 |_,_,0,_,.cons r _,e=>by simp at e;subst e;exact⟨_,rfl,r⟩
 |_,_,i+1,x,.cons _ t,e=>by obtain⟨u,d,c⟩:=Vals.get (i:=i) (x:=x) t (by simpa using e);exact⟨u,by simpa using d,c⟩
theorem Vals.append:∀{b a} {d c},Vals b d->Vals a c->Vals (b++a) (d++c)
 |_,_,_,_,.nil,s=>s
 |_,_,_,_,.cons r t,s=>.cons r (Vals.append t s)
theorem Vals.take:∀{a} {b} n,Vals a b->Vals (a.take n) (b.take n)
 |_,_,0,_=>.nil
 |_,_,_+1,.nil=>.nil
 |_,_,n+1,.cons r t=>.cons r (Vals.take n t)
theorem Vals.drop:∀{a} {b} n,Vals a b->Vals (a.drop n) (b.drop n)
 |_,_,0,r=>r
 |_,_,_+1,.nil=>.nil
 |_,_,n+1,.cons _ t=>Vals.drop n t
def lS:gH V->gH gE->Prop
 |some v,some u=>RelV v u
 |none,none=>True
 |_,_=>False
def KV{a:Type}:gi (a×V)->gi (a×gE)->Prop:=Paired λ(p:a×V) (q:a×gE)=>p.1=q.1/\RelV p.2 q.2
def kV:Key->V
 |.inl i=>.int i
 |.inr x=>.str x
inductive HO where
  /-- a list -/
 |lst(xs:List V)
  /-- a tuple (never changes) -/
 |tup(xs:List V)
  /-- a dict whose keys are ints and texts; one whose keys are tuples of ints and texts (the empty one is both) -/
 |dK(kvs:List<|Key×V)|dT(kvs:List<|List Key×V)
  /-- a set of ints: its members, its size -/
 |set(S:Int->Bool)(n:Nat)
  /-- an instance of the class at C, its dict at dx, its attributes -/
 |ins(C dx:Addr)(fs:List<|Str×V)
  /-- the dict of the instance at x -/
 |own(x:Addr)
  /-- the dict of an exception -/
 |xd(fs:List<|Str×V)
  /-- a bound method, f of x -/
 |met(f x:Addr)
  /-- a range object lo, lo + 1, .. below hi -/
 |AD(lo hi:Int)
  /-- a thing that is known to the object (the script; a dict while a loop walks it): read, never written while it is so -/
 |nA(o:Obj)(u:HO)
  /-- a code object's table -/
 |kU(ps:Array Value)
  /-- any other thing, by what is true of its one object (a def of one's own: SetO a S n := HO.ext λh => ..) -/
 |ext(φ:Heap->Prop)
abbrev Hp:=gr->gH HO
def upd(H:Hp)(a:gr)(o:HO):Hp:=λb=>if b=a then some o else H b
def i8{o}:upd H a o a=some o:=by unfold upd;rw[af rfl]
def hA{o}(h:b≠a):upd H a o b=H b:=by unfold upd;rw[ao h]
def Ye{H:Hp}{o u}(h:H a=some o)(c:H b=some u)(d:o≠u):a≠b:=by intro e;subst e;rw[h]at c;exact d (Option.some.inj c)
def nD{H:Hp}{o}(h:H a=some o)(c:H b=none):a≠b:=by intro e;subst e;rw[h]at c;cases c
section
variable(P:iQ)(w:iK)
def kj(H:Hp)(h:gU)(a:gr):HO->Prop
 |.lst d=>d.length<=sizeLine/\∃c n,Vals d c/\h.get? a=some {cls:=.type "list",data:=.seq c.toArray n}
 |.tup d=>d.length<=sizeLine/\∃c:gi gE,Vals d c/\IsTup h a c.toArray
 |.dK b=>b.length<=sizeLine/\(a==sysModules)=false/\∃j,KV b j/\h.DictOf (mY P w) a j
 |.dT b=>b.length<=sizeLine/\(a==sysModules)=false/\∃d:gi (gi Key×gr×gE),
   Paired (λ(p:gi Key×V) (q:gi Key×gr×gE)=>p.1=q.1/\H q.2.1=some (.tup<|p.1.map kV)/\RelV p.2 q.2.2) b d/\
   ∃o m y,h.get? a=some o/\o.ExactDict/\o.data=.dict m y/\m.toList=d.map (entryOfKey<|tupleKind<|mY P w)/\(d.map (·.1)).Nodup
 |.set S n=>h.SetOf (intKind P w) a S n
 |.ins C g fs=>H g=some (.own a)/\fs.length<=1000/\g≠a/\h.get? a=some (W.instObj C g)/\
   ∃e,h.Ns1 g e/\(∀f,lS (fs.lookup f)<|e f)/\PySem.Within e (fs.map (·.1))
 |.own _=>∃o,h.get? a=some o
 |.xd fs=>∃e,h.Ns1 a e/\∀f,lS (fs.lookup f) (e f)
 |.AD lo s=>∃t u v,h.get? a=some {cls:=.type "range",data:=.fields #[.int lo t,.int s u,.int 1 v]}
 |.nA o u=>h.get? a=some o/\kj H h a u
 |.kU r=>h.get? a=some {cls:=.none,data:=.fields r}
 |.met f x=>h.get? a=some (W.methodObj (.ref f)<|.ref x)
 |.ext i=>i h/\(∃o,h.get? a=some o)/\∀l k:gU,i l->(∀o,l.get? a=some o->k.get? a=some o)->i k
def jJ(H:Hp)(h:gU):Prop:=∀a o,H a=some o->kj P w H h a o
variable{P:iQ}{w:iK}{H i:Hp}{h h':gU}{a:gr}{o:HO}
def kj.lt(x:kj P w H h a o):a<h.objs.size:=by
 cases o with
 |lst c=>obtain⟨_,_,_,_,e⟩:=x;exact Heap.lt_size e
 |tup c=>obtain⟨_,_,_,p⟩:=x;exact p.lt
 |dK b=>obtain⟨_,_,_,_,o,_,_,e,_⟩:=x;exact Heap.lt_size e
 |dT b=>obtain⟨_,_,_,_,o,_,_,e,_⟩:=x;exact Heap.lt_size e
 |set S n=>obtain⟨o,_,_,_,e,_⟩:=x;exact Heap.lt_size e
 |ins C l fs=>obtain⟨_,_,_,e,_⟩:=x;exact Heap.lt_size e
 |own y=>obtain⟨_,e⟩:=x;exact Heap.lt_size e
 |xd fs=>obtain⟨_,⟨_,_,_,e,_⟩,_⟩:=x;exact Heap.lt_size e
 |AD j k=>obtain⟨_,_,_,e⟩:=x;exact Heap.lt_size e
 |nA ob u=>obtain⟨e,_⟩:=x;exact Heap.lt_size e
 |kU g=>exact Heap.lt_size (show h.get? a=some _ from x)
 |met f y=>exact Heap.lt_size (show h.get? a=some _ from x)
 |ext d=>obtain⟨_,⟨_,e⟩,_⟩:=x;exact Heap.lt_size e
theorem Paired.lZ{G}:∀{d:gi α} {c:gi β},Paired F d c->(∀a b,F a b->G a b)->Paired G d c
 |_,_,.nil,_=>.nil
 |_,_,.cons r t,f=>.cons (f _ _ r) (Paired.lZ t f)
def kj.o8(x:kj P w H h a o)(k:∀b u,(b=a\/H b=some (.own a))->h.get? b=some u->h'.get? b=some u)
    (K:∀b,H b=some (.own a)->i b=some (.own a))(J:∀b m,H b=some (.tup m)->i b=some (.tup m)):kj P w i h' a o:=by
 induction o with
 |lst m=>obtain⟨z,l,n,r,e⟩:=x;exact⟨z,l,n,r,k _ _ (.inl rfl) e⟩
 |tup m=>obtain⟨z,l,r,ob,e,c⟩:=x;exact⟨z,l,r,ob,k _ _ (.inl rfl) e,c⟩
 |dK B=>obtain⟨z,y,F,r,ob,g,j,e,c⟩:=x;exact⟨z,y,F,r,ob,g,j,k _ _ (.inl rfl) e,c⟩
 |dT B=>obtain⟨z,y,m,r,ob,g,j,e,c⟩:=x;exact⟨z,y,m,Paired.lZ r λp q z=>⟨z.1,J _ _ z.2.1,z.2.2⟩,ob,g,j,k _ _ (.inl rfl) e,c⟩
 |set S n=>obtain⟨ob,g,j,t,e,c⟩:=x;exact⟨ob,g,j,t,k _ _ (.inl rfl) e,c⟩
 |ins C Q fs=>obtain⟨d,z,G,e,A,⟨s,g,j,L,c⟩,r⟩:=x;exact⟨K _ d,z,G,k _ _ (.inl rfl) e,A,⟨s,g,j,k _ _ (.inr d) L,c⟩,r⟩
 |own y=>obtain⟨ob,e⟩:=x;exact⟨ob,k _ _ (.inl rfl) e⟩
 |xd fs=>obtain⟨A,⟨s,g,j,e,c⟩,r⟩:=x;exact⟨A,⟨s,g,j,k _ _ (.inl rfl) e,c⟩,r⟩
 |AD N O=>obtain⟨t,u,v,e⟩:=x;exact⟨t,u,v,k _ _ (.inl rfl) e⟩
 |nA ob u I=>obtain⟨e,q⟩:=x;exact⟨k _ _ (.inl rfl) e,I q⟩
 |kU E=>have e:h.get? a=some {cls:=.none,data:=.fields E}:=x;show h'.get? a=some {cls:=.none,data:=.fields E};exact k a _ (.inl rfl) e
 |met f y=>have e:h.get? a=some (W.methodObj (.ref f)<|.ref y):=x;show h'.get? a=some (W.methodObj (.ref f)<|.ref y);exact k a _ (.inl rfl) e
 |ext M=>obtain⟨p,⟨o,e⟩,D⟩:=x;exact⟨D _ _ p λo q=>k _ _ (.inl rfl) q,⟨o,k _ _ (.inl rfl) e⟩,D⟩
def jJ.lt(x:jJ P w H h)(e:H a=some o):a<h.objs.size:=(x a o e).lt
def jJ.fresh(x:jJ P w H h)(e:h.objs.size<=a):H a=none:=by
 cases q:H a with
 |none=>rfl
 |some u=>exact absurd (ak (x.lt q) e) (cF _)
def jJ.kept(x:jJ P w H h)(k:∀b u,h.get? b=some u->h'.get? b=some u):jJ P w H h':=λa o e=>(x a o e).o8 (λb u _ q=>k b u q) (λ_ q=>q) λ_ _ q=>q
def jJ.laid(x:jJ P w H h)(k:∀b u,h.get? b=some u->h'.get? b=some u)(g:h.objs.size<=a)(new:kj P w (upd H a o) h' a o):jJ P w (upd H a o) h':=λb u e=>by
 have d:=x.fresh g;by_cases f:b=a;·subst f;rw[i8]at e;cases e;exact new
 ·rw[hA f]at e;exact(x b u e).o8 (λc v _ q=>k c v q) (λc q=>by rw[hA<|nD q d];exact q) λc j q=>by rw[hA<|nD q d];exact q
end
def Rd(H:Hp)(a:gr)(u:HO):Prop:=H a=some u\/∃o,H a=some (.nA o u)
def Rd.ok{w u}(r:Rd H a u)(x:jJ P w H h):kj P w H h a u:=by
 rcases r with r|⟨o,r⟩;·exact x a u r
 ·obtain⟨_,q⟩:=x a _ r;exact q
def wm:gH HO->Prop
 |some (.lst _)=>True
 |some (.dK _)=>True
 |some (.dT _)=>True
 |some (.set _ _)=>True
 |some (.ins _ _ _)=>True
 |some (.ext _)=>True
 |_=>False
section
variable{P:iQ}{w:iK}{H:Hp}{h h':gU}{x e:gr}{a:HO}
def jJ.write(ok:jJ P w H h)(j:wm<|H x)(p:e=x\/H e=some (.own x))(k:∀b u,b≠e->h.get? b=some u->h'.get? b=some u)(n:∃u,h'.get? e=some u)
 (new:kj P w (upd H x a) h' x a):jJ P w (upd H x a) h':=λb u q=>by
  have f:∀c y,H c=some (.own y)->c≠x:=λc y r z=>by subst z;rw[r]at j;exact j
  have g:∀c i,H c=some (.tup i)->c≠x:=λc i r z=>by subst z;rw[r]at j;exact j
  by_cases m:b=x;·subst m;rw[i8]at q;cases q;exact new
  ·rw[hA m]at q;by_cases d:b=e
   ·have o:H b=some (.own x):=by
     rcases p with z|z;·exact absurd (d.trans z) m
     ·rw[d];exact z
    rw[q]at o;cases o;obtain⟨v,s⟩:=n;exact⟨v,by rw[d];exact s⟩
   ·refine(ok b u q).o8 (λc v l r=>k c v ?_ r) (λc r=>by rw[hA<|f c b r];exact r) λc i r=>by rw[hA<|g c i r];exact r
    rcases l with rfl|l;·exact d
    ·rintro rfl
     rcases p with z|z;·exact f c b l z
     ·rw[l]at z;cases z;exact m rfl
end
abbrev _root_.pD:=gi gr
structure Un(fs ex:pD)(H H':Hp)(h h':gU):Prop where
 keep:∀b o,h.get? b=some o->H b=none->b∉fs->b∉ex->h'.get? b=some o
 slot:∀b o,h.get? b=some o->H b=none->b∈fs->b∉ex->∃sl,h'.get? b=some {o with slots:=sl}
 free:∀b o,h.get? b=some o->H b=none->b∉ex->H' b=none
 there:∀b o,h.get? b=some o->b∉ex->∃o',h'.get? b=some o'
 tups:∀b xs,H b=some (.tup xs)->H' b=some (.tup xs)
 nU:∀b o u,H b=some (.nA o u)->H' b=some (.nA o u)
 oJ:∀b ps,H b=some (.kU ps)->∃more,H' b=some (.kU<|ps++more)
section
variable{fs f ex i:pD}{H j m:Hp}{h c l h':gU}{a x e:gr}{o:HO}
def Un.any(u:Un fs ex H j h c){b:gr}{ob:kQ}(q:h.get? b=some ob)(n:H b=none)(d:b∉ex):∃k,c.get? b=some {ob with slots:=k}:=by
 by_cases g:b∈fs;·exact u.slot b ob q n g d
 ·exact⟨ob.slots,u.keep b ob q n g d⟩
def Un.kept(k:∀b u,h.get? b=some u->h'.get? b=some u):Un fs ex H H h h':=
 ⟨λb ob q _ _ _=>k b ob q,λb ob q _ _ _=>⟨ob.slots,k b ob q⟩,λ_ _ _ n _=>n,λb ob q _=>⟨ob,k b ob q⟩,λ_ _ q=>q,λ_ _ _ q=>q,λ_ d q=>⟨#[],by rw[q];simp⟩⟩
def Un.refl:Un fs ex H H h h:=Un.kept λ_ _ q=>q
def Un.laid(k:∀b u,h.get? b=some u->h'.get? b=some u)(p:h.objs.size<=a)(d:H a=none):Un fs ex H (upd H a o) h h' where
 keep:=λb u q _ _ _=>k b u q
 slot:=λb u q _ _ _=>⟨u.slots,k b u q⟩
 free:=λb u q n _=>by rw[hA<|aW<|ak (Heap.lt_size q) p];exact n
 there:=λb u q _=>⟨u,k b u q⟩
 tups:=λb g q=>by rw[hA<|nD q d];exact q
 nU:=λb u g q=>by rw[hA<|nD q d];exact q
 oJ:=λb r q=>⟨#[],by rw[hA<|nD q d,q];simp⟩
def Un.write(g:wm<|H x)(y:e=x\/H e=some (.own x))(k:∀b u,b≠e->h.get? b=some u->h'.get? b=some u)(s:∃u,h'.get? e=some u):Un fs ex H (upd H x o) h h':=by
 have t:∀b,H b=none->b≠x:=λb n z=>by subst z;rw[n]at g;exact g
 have v:∀b,H b=none->b≠e:=λb n z=>by
  subst z;rcases y with r|r;·exact t b n r
  ·rw[n]at r;cases r
 have p:∀b u,H b=some u->¬wm (some u)->b≠x:=λb u q nm z=>by subst z;rw[q]at g;exact nm g
 refine⟨λb u q n _ _=>k b u (v b n) q,λb u q n _ _=>⟨u.slots,k b u (v b n) q⟩,λb u q n _=>by rw[hA (t b n)];exact n,λb u q _=>?_,
  λb w q=>by rw[hA (p b _ q λz=>z)];exact q,λb u w q=>by rw[hA (p b _ q λz=>z)];exact q,λb A q=>⟨#[],by rw[hA (p b _ q λz=>z),q];simp⟩⟩
 by_cases d:b=e;·subst d;exact s
 ·exact⟨u,k b u d q⟩
end
def AU(h:gU)(H:Hp):gi gr:=(List.range h.objs.size).filter λa=>(H a).isSome
def ql(h:gU)(H:Hp):gU:=W.hideAll h (AU h H)
def U6(h H):(ql h H).objs.size=h.objs.size:=W.hideAll_size _ _
def U5{h}{H}{o}(e:h.get? b=some o)(n:H b=none):(ql h H).get? b=some o:=
 W.hideAll_get _ e λa=>by have q:(H b).isSome=true:=(dN.mp a).2;rw[n]at q;simp at q
def YE{o}(e:(ql h H).get? b=some o):h.get? b=some o/\H b=none:=by
 have a:h.get? b=some o:=W.of_hideAll (AU h H) e;refine⟨a,?_⟩;cases q:H b with
 |none=>rfl
 |some x=>have c:b∈AU h H:=dN.mpr ⟨d8.mpr<|Heap.lt_size a,by simp[q]⟩;have z:(ql h H).get? b=none:=W.hideAll_none (AU h H) c;rw[z]at e;cases e
noncomputable def Qc(g h:gU)(L:gr):gi (gr×kQ):=(List.range h.objs.size).filterMap λa=>if a=L\/(g.get? a).isSome=true then none else(h.get? a).map λo=>(a,o)
def rest(g h:gU)(L d:gr):gi (gr×kQ):=(Qc g h L).filter λp=>decide (p.1≠d)
abbrev _root_.gF:=W.Frag
structure Mod(K:gF)(mg:iY)(base:gU):Prop where
 qT:K.In base
 glob:base.Ns mainGlobals mg
 blt:∃mb,base.Ns builtinsNs mb/\∀x:gp,x≠"__name__"->mb x=bootBuiltins x
 nolimit:base.NoLimit
structure Cx where
 prog:iQ
 w:iK
 K:W.Frag
 mg:iY
 base:gU
 A:jd
 N:gi gp
 s₀:gQ
 H₀:Hp
 env:Env
 outer:gi Env
 stack:gi Env
 ex:gi gr
 fn:gp->gL
 calm:gL
 pn:gi (gr×kQ)
 xe:iR
abbrev _root_.jT:=gi hD
abbrev Cx.se(X:Cx)(e:hD)(es:jT):Prop:=starEach (e::es) X.env=(false,eval e X.env)::starEach es X.env
abbrev Cx.bk(X:Cx)(pos:Pos)(es:jT):Prop:=(backTo pos<|starEach es X.env).any (·.1)=false
abbrev jl(x:gp):Prop:=(x==("__debug__":gp))=false
abbrev Cx.hf(X:Cx)(x:gp):Prop:=X.fn x=true\/X.env.scope.names.lookup x=some .local
abbrev xk(s:Scope):Prop:=∀x∈s.names,x.2=.local->s.names.lookup x.1=some .local
abbrev u5(s:Scope):Prop:=∀y∈s.names,y.2≠.cell
abbrev _root_.kH:=gi Env
def frs(l:kH):gi gr:=l.filterMap (·.frame)
abbrev Cx.fs(X:Cx):gi gr:=frs X.outer
def pF(a:Scope)(x:gp):Prop:=a.names.lookup x=some .local\/a.names.lookup x=some .cell\/a.names.lookup x=some .free
def Loc(a:Scope)(x:gp):Prop:=a.names.lookup x=some .local\/a.names.lookup x=some .cell
def Look(a:Env)(h:gU)(m:iY)(x:gp)(u:gE):Prop:=
 (a.kindOf x=some .local/\m x=some u)\/((a.kindOf x=some .cell\/a.kindOf x=some .free)/\∃c,a.cells.lookup x=some c/\h.IsCell c (some u))
structure Cx.Ok(X:Cx):Prop where
 mod:Mod X.K X.mg X.base
 kind:X.env.scope.kind=.function
 glob:X.env.globals=mainGlobals
 blt:X.env.builtins=builtinsNs
 above:X.s₀.heap.objs.size<=X.env.locals
 inj:∀x y c,X.env.cells.lookup x=some c->X.env.cells.lookup y=some c->x=y
 has:∀x,(X.env.kindOf x=some .cell\/X.env.kindOf x=some .free)->∃c,X.env.cells.lookup x=some c
 cab:∀x c,X.fn x=true->X.env.cells.lookup x=some c->X.s₀.heap.objs.size<=c
 hd:X.calm=true->X.A.handled=none
 frames:X.A.frames=some X.stack
 AJ:X.stack=X.outer\/(X.stack=X.env::X.outer/\X.env.frame=some X.env.locals)
 C4:∀b∈X.ex,b≠X.env.locals/\∀x c,X.env.cells.lookup x=some c->c≠b
 bs:∀b o,X.base.get? b=some o->X.s₀.heap.get? b=some o/\X.H₀ b=none
 qL:X.base.objs.size<=X.s₀.heap.objs.size
 xx:∀b o,X.base.get? b=some o->b∉X.ex
 wQ:∀b∈X.ex,b∉X.fs
 nV:X.s₀.heap.FunFrames X.base X.outer
 sU:∀b∈X.fs,X.H₀ b=none
abbrev _root_.jG:=gi (gr×kQ)
structure Inv(X:Cx)(pins:jG)(σ:gi<|gH V)(H:Hp)(s:gQ):Prop where
 ok:X.Ok
 os:s.os=X.s₀.os
 bare:AllBare s.gens
 base:Un X.fs X.ex X.H₀ H X.s₀.heap s.heap
 loc:∃m,s.heap.Ns X.env.locals m/\∀(i:Nat) (x:gp) (v:V),X.N[i]?=some x->σ[i]?=some (some v)->pF X.env.scope x->∃u,RelV v u/\Look X.env s.heap m x u
 cell:∀x c,X.env.cells.lookup x=some c->∃v,s.heap.IsCell c v
 free:H X.env.locals=none
 oU:∀x c,X.env.cells.lookup x=some c->H c=none
 pin:∀p∈X.pn++pins,s.heap.get? p.1=some p.2/\H p.1=none/\p.1≠X.env.locals/\p.1∉X.fs/\∀v,p.2.data≠.cell v
 hok:jJ X.prog X.w H s.heap
 len:σ.length=X.N.length
section
variable{X:Cx}{f:jG}{B:gi<|gH V}{H C:Hp}{s:gQ}{h':gU}
def Cx.Ok.Yl(ok:X.Ok){o}(e:X.base.get? b=some o):b∉X.fs:=λa=>by have:=(ok.nV.mem a).1;rw[e]at this;cases this
def Inv.bs(I:Inv X f B H s):∀b o,X.base.get? b=some o->s.heap.get? b=some o/\H b=none:=λb o e=>⟨I.base.keep b o (I.ok.bs b o e).1 (I.ok.bs b o e).2 (I.ok.Yl e) (I.ok.xx b o e),I.base.free b o (I.ok.bs b o e).1 (I.ok.bs b o e).2 (I.ok.xx b o e)⟩
def Inv.bk(I:Inv X f B H s):∀b o,X.base.get? b=some o->s.heap.get? b=some o:=λb o e=>(I.bs b o e).1
def Inv.mod(I:Inv X f B H s):Mod X.K X.mg X.base:=I.ok.mod
def Inv.iN(I:Inv X f B H s):X.K.In s.heap:=I.ok.mod.qT.keeps I.bk
def Inv.lt(I:Inv X f B H s):X.env.locals<s.heap.objs.size:=let⟨_,a,_⟩:=I.loc;a.lt
def Inv.sz(I:Inv X f B H s):X.s₀.heap.objs.size<=s.heap.objs.size:=av I.ok.above (f6 I.lt)
def Inv.Yn(I:Inv X f B H s){a}(h:s.heap.objs.size<=a):a∉X.fs:=λc=>by obtain⟨_,o,b,_⟩:=I.ok.nV.mem c;exact absurd (ak (Heap.lt_size b)<|av I.sz h) (cF _)
def Inv.oq(I:Inv X f B H s):∀x c,X.env.cells.lookup x=some c->c≠X.env.locals:=λx c e z=>by obtain⟨v,o,d,g⟩:=I.cell x c e;obtain⟨m,⟨h,i,j,a,b,_⟩,_⟩:=I.loc;rw[z,a]at d;cases d;rw[b]at g;cases g
def Inv.nV(I:Inv X f B H s):s.heap.FunFrames X.base X.outer:=by
 have all:∀(l:kH),(∀b∈frs l,b∈X.fs)->X.s₀.heap.FunFrames X.base l->s.heap.FunFrames X.base l:=by
  intro l;induction l with
  |nil=>intro _ _;trivial
  |cons p r g=>intro d k;obtain⟨m,⟨L,o,hf,j,i,n⟩,h⟩:=k;have c:L∈X.fs:=d L (by unfold frs;rw[eI,hf];exact bf);obtain⟨q,e⟩:=I.base.slot L o i (I.ok.sU L c) c λz=>I.ok.wQ L z c;exact⟨m,⟨L,_,hf,j,e,n⟩,g (λb a=>d b (by unfold frs;rw[eI,hf];exact aQ _ a)) h⟩
 exact all X.outer (λ_ a=>a) I.ok.nV
def Inv.stack(I:Inv X f B H s):s.heap.FunFrames X.base X.stack:=by
 rcases I.ok.AJ with e|⟨e,hf⟩;·rw[e];exact I.nV
 ·rw[e];obtain⟨m,a,_⟩:=I.loc;refine .cons (by rw[I.ok.kind];decide) hf a ?_ I.nV;exact dw (av I.ok.qL I.ok.above)
def Inv.AK(I:Inv X f B H s):∀b∈frs X.stack,b∈X.env.locals::X.fs:=λb a=>by
 rcases I.ok.AJ with e|⟨e,hf⟩;·rw[e]at a;exact aQ _ a
 ·rw[e]at a;unfold frs at a;rw[eI,hf]at a;exact a
def Inv.Gd(I:Inv X f B H s):∀b∈frs X.stack,H b=none:=λb a=>by
 rcases aT.mp (I.AK b a)with e|a;·rw[e];exact I.free
 ·obtain⟨_,o,c,_⟩:=I.ok.nV.mem a;exact I.base.free b o c (I.ok.sU b a) λz=>I.ok.wQ b z a
def Inv.step{g':lT GenState}{t':Nat}{d':Drawn}{ch:pD}(I:Inv X f B H s)
    (j:∀b∈ch,(b∈X.ex\/X.s₀.heap.objs.size<=b)/\b≠X.env.locals/\(∀x c,X.env.cells.lookup x=some c->c≠b)/\∀p∈X.pn++f,p.1≠b)
    (h:∀b o,b≠X.env.locals->b∉X.fs->b∉ch->s.heap.get? b=some o->H b=none->h'.get? b=some o)
    (D:∀b o,b≠X.env.locals->b∈X.fs->b∉ch->s.heap.get? b=some o->H b=none->∃R,h'.get? b=some {o with slots:=R})(free:∀b o,b∉ch->s.heap.get? b=some o->H b=none->C b=none)
    (there:∀b o,b∉ch->s.heap.get? b=some o->∃K,h'.get? b=some K)
    (G:∀b A,H b=some (.tup A)->C b=some (.tup A))(N:∀b o u,H b=some (.nA o u)->C b=some (.nA o u))(J:∀b P,H b=some (.kU P)->∃M,C b=some (.kU<|P++M))
    (ns:∀m,s.heap.Ns X.env.locals m->h'.Ns X.env.locals m)(S:jJ X.prog X.w C h')(hg:AllBare g'):
    Inv X f B C {s with heap:=h',gens:=g',drawn:=d',toks:=t'}:=by
 have L:∀b o,X.s₀.heap.get? b=some o->b≠X.env.locals:=λb o e=>aW (ak (Heap.lt_size e) I.ok.above);have w:∀b o,X.s₀.heap.get? b=some o->b∉X.ex->b∉ch:=λb o e a E=>by
  rcases(j b E).1 with z|z;·exact a z
  ·exact absurd (ak (Heap.lt_size e) z) (cF _)
 have t:∀x c,X.env.cells.lookup x=some c->∀v,s.heap.IsCell c v->h'.IsCell c v:=λx c e v ⟨o,F,T⟩=>by
  have g:c∉ch:=λz=>(j c z).2.2.1 x c e rfl;by_cases Z:c∈X.fs
  ·obtain⟨R,q⟩:=D c o (I.oq x c e) Z g F (I.oU x c e);exact⟨_,q,T⟩
  ·exact⟨o,h c o (I.oq x c e) Z g F<|I.oU x c e,T⟩
 refine⟨I.ok,I.os,hg,⟨λb o e n E a=>?_,λb o e n E a=>?_,λb o e n a=>?_,λb o e a=>?_,λb A e=>G b A<|I.base.tups b A e,λb o A e=>N b o A<|I.base.nU b o A e,λb P e=>?_⟩,?_,λx c e=>?_,?_,λx c e=>?_,λp Y=>?_,S,I.len⟩;·exact h b o (L b o e) E (w b o e a) (I.base.keep b o e n E a) (I.base.free b o e n a)
 ·obtain⟨R,y⟩:=I.base.slot b o e n E a;obtain⟨Q,O⟩:=D b _ (L b o e) E (w b o e a) y (I.base.free b o e n a);exact⟨Q,O⟩
 ·obtain⟨K,y⟩:=I.base.there b o e a;exact free b K (w b o e a) y (I.base.free b o e n a)
 ·obtain⟨K,y⟩:=I.base.there b o e a;exact there b K (w b o e a) y
 ·obtain⟨m1,y⟩:=I.base.oJ b P e;obtain⟨m2,O⟩:=J b _ y;exact⟨m1++m2,by rw[O,Array.append_assoc]⟩
 ·obtain⟨m,hn,hl⟩:=I.loc;refine⟨m,ns m hn,λi x v y O e3=>?_⟩;obtain⟨u,r,l⟩:=hl i x v y O e3;refine⟨u,r,?_⟩;rcases l with l|⟨k,c,e,z⟩;·exact .inl l
  ·exact .inr ⟨k,c,e,t x c e _ z⟩
 ·obtain⟨v,z⟩:=I.cell x c e;exact⟨v,t x c e v z⟩
 ·obtain⟨m,⟨o,_,_,F,_⟩,_⟩:=I.loc;exact free _ o (λz=>(j _ z).2.1 rfl) F I.free
 ·obtain⟨v,o,F,T⟩:=I.cell x c e;exact free c o (λz=>(j c z).2.2.1 x c e rfl) F (I.oU x c e)
 ·obtain⟨e,n,W,U,d⟩:=I.pin p Y;have g:p.1∉ch:=λz=>(j p.1 z).2.2.2 p Y rfl;exact⟨h p.1 p.2 W U g e n,free p.1 p.2 g e n,W,U,d⟩
def Inv.un{t':Nat}(I:Inv X f B H s)(u:Un X.fs [] H C s.heap h')(c:jJ X.prog X.w C h'):Inv X f B C {s with heap:=h',toks:=t'}:=by obtain⟨m,⟨o,v,w,i,r⟩,_⟩:=id I.loc;obtain⟨p,l⟩:=u.any i I.free (by simp);exact I.step (g':=s.gens) (d':=s.drawn) (ch:=[]) (λ_ z=>nomatch z) (λb o _ d _ e n=>u.keep b o e n d (by simp)) (λb o _ d _ e n=>u.slot b o e n d (by simp)) (λb o _ e n=>u.free b o e n (by simp)) (λb o _ e=>u.there b o e (by simp)) u.tups u.nU u.oJ (λt k=>by obtain⟨q,g,h,a,j⟩:=k;rw[i]at a;cases a;exact⟨_,g,h,l,j⟩) c I.bare
def Inv.call{g':lT GenState}{t':Nat}{d':Drawn}{ch:pD}(I:Inv X f B H s)(u:Un (frs X.stack) ch H C s.heap h')(h:jJ X.prog X.w C h')(v:AllBare g')
    (g:∀b∈ch,(b∈X.ex\/X.s₀.heap.objs.size<=b)/\b≠X.env.locals/\(∀x c,X.env.cells.lookup x=some c->c≠b)/\∀p∈X.pn++f,p.1≠b):
    Inv X f B C {s with heap:=h',gens:=g',drawn:=d',toks:=t'}:=by
 obtain⟨m,⟨o,E,F,l,r⟩,_⟩:=id I.loc;obtain⟨y,i⟩:=u.any l I.free λz=>(g _ z).2.1 rfl;exact I.step (ch:=ch) g (λb o i w a e n=>u.keep b o e n (λz=>(aT.mp (I.AK b z)).elim i w) a) (λb o _ _ a e n=>u.any e n a) (λb o a e n=>u.free b o e n a) (λb o a e=>u.there b o e a) u.tups u.nU u.oJ (λD t=>by obtain⟨A,j,k,d,q⟩:=t;rw[l]at d;cases d;exact⟨_,j,k,i,q⟩) h v
def Inv.turned{t':Nat}(I:Inv X f B H s)(k:∀b o,b≠it->s.heap.get? b=some o->h'.get? b=some o)(i:H it=none)(g:it≠X.env.locals)
 (y:it∈X.ex\/X.s₀.heap.objs.size<=it)(w:∀x c,X.env.cells.lookup x=some c->c≠it)(t:∀p∈X.pn++f,p.1≠it):Inv X f B H {s with heap:=h',toks:=t'}:=by
  have d:∀b u,H b=some u->b≠it:=λb u e z=>by rw[z,i]at e;cases e
  refine I.step (g':=s.gens) (d':=s.drawn) (ch:=[it]) (λb l=>?_) (λb o _ _ a e _=>k b o (λz=>a<|by simp[z]) e) (λb o _ _ a e _=>⟨o.slots,k b o (λz=>a<|by simp[z]) e⟩) (λ_ _ _ _ n=>n)
   (λb o a e=>⟨o,k b o (λz=>a<|by simp[z]) e⟩) (λ_ _ e=>e) (λ_ _ _ e=>e) (λb E e=>⟨#[],by rw[e];simp⟩) (λm j=>?_) (λb u e=>?_) I.bare
  ·have e:b=it:=by simpa using l
   subst e;exact⟨y,g,w,t⟩
  ·obtain⟨o,A,D,h,r⟩:=j;exact⟨o,A,D,k _ o (bQ g) h,r⟩
  ·refine(I.hok b u e).o8 (λc v a q=>k c v ?_ q) (λ_ q=>q) λ_ _ q=>q;rcases a with z|z;·rw[z];exact d b u e
   ·exact d c _ z
def Inv.tok(I:Inv X f B H s)(t:Nat):Inv X f B H {s with toks:=t}:=I.un (h':=s.heap) (t':=t) Un.refl I.hok
def Inv.kept{t':Nat}(I:Inv X f B H s)(k:∀b u,s.heap.get? b=some u->h'.get? b=some u):Inv X f B H {s with heap:=h',toks:=t'}:=I.un (Un.kept k) (I.hok.kept k)
def Inv.laid{a:gr}{o:HO}{t':Nat}(I:Inv X f B H s)(k:∀b u,s.heap.get? b=some u->h'.get? b=some u)(c:s.heap.objs.size<=a)(new:kj X.prog X.w (upd H a o) h' a o):
    Inv X f B (upd H a o) {s with heap:=h',toks:=t'}:=I.un (Un.laid k c<|I.hok.fresh c) (I.hok.laid k c new)
def Inv.write{x e:gr}{o:HO}{t':Nat}(I:Inv X f B H s)(c:wm<|H x)(d:e=x\/H e=some (.own x))(k:∀b u,b≠e->s.heap.get? b=some u->h'.get? b=some u)(a:∃u,h'.get? e=some u)
    (new:kj X.prog X.w (upd H x o) h' x o):Inv X f B (upd H x o) {s with heap:=h',toks:=t'}:=I.un (Un.write c d k a) (I.hok.write c d k a new)
def Inv.weak(I:Inv X f B H s)(c:lr.length=B.length)(w:∀(i:Nat) v,lr[i]?=some (some v)->B[i]?=some (some v)):Inv X f lr H s:=
 ⟨I.ok,I.os,I.bare,I.base,let⟨m,b,a⟩:=I.loc;⟨m,b,λi x v g e d=>a i x v g (w i v e) d⟩,I.cell,I.free,I.oU,I.pin,I.hok,c.trans I.len⟩
def Inv.Fh(I:Inv X f B H s)(h:∀p∈aaL,s.heap.get? p.1=some p.2/\H p.1=none/\p.1≠X.env.locals/\p.1∉X.fs/\∀v,p.2.data≠.cell v):Inv X aaL B H s:=
 ⟨I.ok,I.os,I.bare,I.base,I.loc,I.cell,I.free,I.oU,λp a=>(a9.mp a).elim (λz=>I.pin p<|cx _ z) (h p),I.hok,I.len⟩
abbrev _root_.iH:=gi gp
def Ah{N:iH}(hN:N.Nodup){j:Nat}{x}(a:N[i]?=some x)(b:N[j]?=some x):i=j:=by obtain⟨g,d⟩:=aD.mp a;obtain⟨e,c⟩:=aD.mp b;exact(List.getElem_inj hN).mp (d.trans c.symm)
abbrev _root_.qH:=Unit->gQ->Prop
def Oo{A}{E:iR}{i:Nat}{x}{v}{u}{Q:qH}(I:Inv X f B H s)(hN:X.N.Nodup)(R:X.N[i]?=some x)(D:Loc X.env.scope x)(r:RelV v u)
 (h:∀s',Inv X f (B.set i<|some v) H s'->(∃a,Heap.SameBut a s.heap s'.heap/\(a=X.env.locals\/X.env.cells.lookup x=some a))->Q () s')(hf:X.hf x):wpAny M A (storeName X.env x u) Q E s:=by
  obtain⟨m,hn,hl⟩:=id I.loc;have S:(X.env.scope.kind==.class||(X.env.scope.kind==.module&&X.env.locals !=X.env.globals))=false:=by rw[I.ok.kind];rfl
  have J:i<B.length:=by rw[I.len];exact(aD.mp R).1
  have oq:=I.oq;have l:∀{a:gr} {h':gU},(∃o,s.heap.get? a=some o/\H a=none)->Heap.SameBut a s.heap h'->jJ X.prog X.w H h':=λ{a h'} ha g b ob e=>by
   obtain⟨_,_,F⟩:=ha;refine(I.hok b ob e).o8 (λc W w q=>(g.2 c ?_).trans q) (λ_ q=>q) λ_ _ q=>q
   rintro rfl
   rcases w with rfl|w;·rw[F]at e;cases e
   ·rw[F]at w;cases w
  rcases D with hk|hk
  ·refine wpAny_storeName_local hk hn (λh' Vv g=>?_) S;obtain⟨oL,_,_,Vy,_⟩:=id hn;refine h _ ⟨I.ok,I.os,I.bare,⟨λb o e n N D=>?_,λb o e n N D=>?_,I.base.free,λb o e D=>?_,I.base.tups,I.base.nU,I.base.oJ⟩,⟨_,Vv,λj y v' t G e3=>?_⟩,λy c e=>?_,I.free,I.oU,λp hp=>?_,l ⟨oL,Vy,I.free⟩ g,by simpa using I.len⟩ ⟨_,g,.inl rfl⟩;·exact(g.2 b<|aW<|ak (Heap.lt_size e) I.ok.above).trans (I.base.keep b o e n N D)
   ·obtain⟨sl,t⟩:=I.base.slot b o e n N D;exact⟨sl,(g.2 b<|aW<|ak (Heap.lt_size e) I.ok.above).trans t⟩
   ·obtain⟨o',t⟩:=I.base.there b o e D;exact⟨o',(g.2 b<|aW<|ak (Heap.lt_size e) I.ok.above).trans t⟩
   ·by_cases K:j=i
    ·subst K;rw[R]at t;cases t;rw[aw J]at G;cases G;exact⟨u,r,.inl ⟨hk,by simp⟩⟩
    ·rw[ai<|bQ K]at G;obtain⟨u',r',q⟩:=hl j y v' t G e3;refine⟨u',r',?_⟩;rcases q with⟨k,e⟩|⟨k,c,e,z⟩
     ·refine .inl ⟨k,?_⟩;have:y≠x:=λe=>K (Ah hN t<|e▸R);simp[this,e]
     ·exact .inr ⟨k,c,e,z.sameBut g<|oq y c e⟩
   ·obtain⟨W,z⟩:=I.cell y c e;exact⟨W,z.sameBut g<|oq y c e⟩
   ·obtain⟨e,n,Y,nf,d⟩:=I.pin p hp;exact⟨(g.2 p.1 Y).trans e,n,Y,nf,d⟩
  ·have L:X.fn x=true:=by
    rcases hf with z|z;·exact z
    ·rw[z]at hk;cases hk
   obtain⟨c,w⟩:=I.ok.has x (.inl hk);obtain⟨W,z⟩:=I.cell x c w;refine wpAny_storeName_cell I.ok.kind hk w z (λh' U g=>?_);obtain⟨oc,P,O⟩:=id z;refine h {s with heap:=h'} ⟨I.ok,I.os,I.bare,⟨λb o e n N D=>?_,λb o e n N D=>?_,I.base.free,λb o e D=>?_,I.base.tups,I.base.nU,I.base.oJ⟩,⟨m,hn.sameBut g<|bQ<|oq x c w,λj y v' t G e3=>?_⟩,λy Z e=>?_,I.free,I.oU,λp hp=>?_,l ⟨oc,P,I.oU x c w⟩ g,by simpa using I.len⟩ ⟨c,g,.inr w⟩;·exact(g.2 b<|aW<|ak (Heap.lt_size e)<|I.ok.cab x c L w).trans (I.base.keep b o e n N D)
   ·obtain⟨sl,t⟩:=I.base.slot b o e n N D;exact⟨sl,(g.2 b<|aW<|ak (Heap.lt_size e)<|I.ok.cab x c L w).trans t⟩
   ·obtain⟨o',t⟩:=I.base.there b o e D;exact⟨o',(g.2 b<|aW<|ak (Heap.lt_size e)<|I.ok.cab x c L w).trans t⟩
   ·by_cases K:j=i
    ·subst K;rw[R]at t;cases t;rw[aw J]at G;cases G;exact⟨u,r,.inr ⟨.inl hk,c,w,U⟩⟩
    ·rw[ai<|bQ K]at G;obtain⟨u',r',q⟩:=hl j y v' t G e3;refine⟨u',r',?_⟩;rcases q with q|⟨k,Z,e,z'⟩;·exact .inl q
     ·refine .inr ⟨k,Z,e,z'.sameBut g ?_⟩
      rintro rfl
      exact K (Ah hN t<|I.ok.inj _ _ _ e w▸R)
   ·by_cases T:Z=c;·subst T;exact⟨_,U⟩
    ·obtain⟨w2,z2⟩:=I.cell y Z e;exact⟨w2,z2.sameBut g T⟩
   ·obtain⟨e,n,Y,nf,d⟩:=I.pin p hp;refine⟨(g.2 p.1 ?_).trans e,n,Y,nf,d⟩;intro q;rw[q,P]at e;have q':oc=p.2:=Option.some.inj e;exact d W (by rw[<-q'];exact O)
def xZ{A}{E:iR}{x}{v}{u}{Q}(I:Inv X f B H s)(hN:X.N.Nodup)(c:X.N[i]?=some x)(b:Loc X.env.scope x)(r:RelV v u)
 (h:∀a,Inv X f (B.set i<|some v) H a->Q () a)(hf:X.hf x):wpAny M A (storeName X.env x u) Q E s:=
  Oo I hN c b r (λa d _=>h a d) hf
def Inv.IY{s'}(I:Inv X f B H s)(h:s'.os=s.os)(u:Un (frs X.stack) ch H C s.heap s'.heap)(a:jJ X.prog X.w C s'.heap)(i:AllBare s'.gens)
 (d:∀b∈ch,(b∈X.ex\/X.s₀.heap.objs.size<=b)/\b≠X.env.locals/\(∀x c,X.env.cells.lookup x=some c->c≠b)/\∀p∈X.pn++f,p.1≠b):Inv X f B C s':=by obtain⟨h',g',d',t',g⟩:=s';have e:g=s.os:=h;subst e;exact I.call (g':=g') (t':=t') (d':=d') u a i d
end
abbrev XK:=gE->gH gr->Hp->Prop
abbrev St:=gi (gH V)
abbrev VK:=V->Hp->Prop
abbrev TE:=St->Hp->VK->Prop
abbrev TT:=St->Hp->(gL->Hp->Prop)->Prop
abbrev TA:=St->Hp->(gi V->Hp->Prop)->Prop
structure Ends where
 nx:St->Hp->Prop
 rt:VK
 bk:St->Hp->Prop:=λ_ _=>False
 ct:St->Hp->Prop:=λ_ _=>False
abbrev TS:=Ends->St->Hp->Prop
def EP(X:Cx)(a:jG)(c:St)(Q:VK)(u:gE)(d:gQ):Prop:=∃v b,Inv X a c b d/\RelV v u/\Q v b
abbrev _root_.rE:=gL->Hp->Prop
def TP(X:Cx)(a:jG)(d:St)(Q:rE)(b:gL)(e:gQ):Prop:=∃c,Inv X a d c e/\Q b c
def AP(X:Cx)(a:jG)(d:St)(Q:gi V->Hp->Prop)(e:jP)(f:gQ):Prop:=∃b c,Inv X a d c f/\Vals b e/\Q b c
def SP(X:Cx)(b:jG)(D:Ends)(f:Flow)(d:gQ):Prop:=
 match f with
 |.next=>∃a c,Inv X b a c d/\D.nx a c
 |.brk=>∃a c,Inv X b a c d/\D.bk a c
 |.cont=>∃a c,Inv X b a c d/\D.ct a c
 |.ret u=>∃v a c,Inv X b a c d/\RelV v u/\D.rt v c
def PE(X:Cx)(e:hD)(t:TE):Prop:=
 ∀(a:jG) (s:gQ) (σ:St) (H:Hp) (Q:VK),Inv X a σ H s->t σ H Q->wpAny (model X.prog X.w) X.A (eval e X.env) (EP X a σ Q) X.xe s
def PT(X:Cx)(e:hD)(t:TT):Prop:=
 ∀(a:jG) (s:gQ) (σ:St) (H:Hp) (Q:rE),Inv X a σ H s->t σ H Q->wpAny (model X.prog X.w) X.A (isTrue e X.env<|eval e X.env) (TP X a σ Q) X.xe s
def PW(X:Cx)(e:hD)(t:TT):Prop:=
 ∀(a:Sem gE) (pins:jG) (s:gQ) (σ:St) (H:Hp) (Q:rE),Inv X pins σ H s->t σ H Q->wpAny (model X.prog X.w) X.A (isTrue e X.env a) (TP X pins σ Q) X.xe s
def PW.pt(h:PW X e t):PT X e t:=h _
def PA(X:Cx)(a:jT)(t:TA):Prop:=
 ∀(pos:Pos) (pins:jG) (s:gQ) (σ:St) (H:Hp) (Q:gi V->Hp->Prop),Inv X pins σ H s->t σ H Q->wpAny (model X.prog X.w) X.A (spliced<|backTo pos<|starEach a X.env) (AP X pins σ Q) X.xe s
def PS(X:Cx)(b:Stmt)(t:TS):Prop:=
 ∀(a:jG) (s:gQ) (σ:St) (H:Hp) (D:Ends),Inv X a σ H s->t D σ H->wpAny (model X.prog X.w) X.A (exec b X.env) (SP X a D) X.xe s
def md(X:Cx)(b:gi Stmt)(t:TS):Prop:=
 ∀(a:jG) (s:gQ) (σ:St) (H:Hp) (D:Ends),Inv X a σ H s->t D σ H->wpAny (model X.prog X.w) X.A (execs b X.env) (SP X a D) X.xe s
def g6{t}{Q}{A}{E}{s}(h:wpAny M A t Q E s)(b:∀a s,Q a s->Q' a s):wpAny M A t Q' E s:=aK h b λ_ _ x=>x
section
variable{X:Cx}
def aee(i:Nat):TE:=λa H Q=>∃v,a[i]?=some (some v)/\Q v H
def tC(v:V):TE:=λ_ H Q=>Q v H
def pN{x}{pos}(hN:X.N[i]?=some x)(n:pF X.env.scope x)(f:jl x)(g:(x==("__classdict__":gp))=false):PE X (.Name x pos) (aee i):=by
 intro d s k H Q I h;obtain⟨v,e,h⟩:=h;obtain⟨m,o,q⟩:=I.loc;obtain⟨u,r,l⟩:=q i x v hN e n;have fin:EP X d k Q u s:=⟨v,H,I,r,h⟩;rcases l with⟨b,p⟩|⟨b,c,j,a⟩;·exact eR (dB I.ok.kind b o p fin) f
 ·rcases b with b|b;·exact eR (wpAny_loadName_cell I.ok.kind b j a fin) f
  ·exact eR (wpAny_loadName_free I.ok.kind b j a fin g) f
def aap{i j pos}:PE X (.Constant (.int i) j pos) (tC<|.int i):=λ_ _ _ H _ I h=>dR ⟨.int i,H,I.tok _,⟨_,rfl⟩,h⟩
def aad{b j pos}:PE X (.Constant (.bool b) j pos) (tC<|.bl b):=λ_ _ _ H _ I h=>Constant_bool ⟨.bl b,H,I,rfl,h⟩
def aau{j pos}:PE X (.Constant .none j pos) (tC .non):=λ_ _ _ H _ I h=>Constant_none ⟨.non,H,I,rfl,h⟩
def MT{x j pos}:PE X (.Constant (.str x) j pos) (tC<|.str x):=λ_ _ _ H _ I h=>dS ⟨.str x,H,I.tok _,⟨_,rfl⟩,h⟩
def Gl(X:Cx)(x:gp):Prop:=X.env.kindOf x=some .globalImplicit
def qU{E}{a}{s}{b}{H}{x}{u}{pos}{Q}(I:Inv X a b H s)(d:Gl X x)(c:X.mg x=some u)(h:Q u s)
 (e:jl x):wpAny (model X.prog X.w) X.A (eval (.Name x pos) X.env) Q E s:=
  eS I.ok.kind d (Calls.loadGlobal_global (by rw[I.ok.glob];exact I.mod.glob.keeps I.bk) c h) e
def xg{E:iR}{a}{s}{b}{H}{x}{u}{pos}{Q}(I:Inv X a b H s)(f:Gl X x)(e:X.mg x=none)(c:bootBuiltins x=some u)(h:Q u s)
 (d:x≠"__name__")(g:jl x):wpAny (model X.prog X.w) X.A (eval (.Name x pos) X.env) Q E s:=by obtain⟨k,j,i⟩:=I.mod.blt;exact eS I.ok.kind f (Calls.loadGlobal_builtin (by rw[I.ok.glob];exact I.mod.glob.keeps I.bk) e (by rw[I.ok.blt];exact j.keeps I.bk) ((i x d).trans c) h) g
def aao{u pos}(b:Gl X x)(a:X.mg x=some u)(r:RelV v u)(c:jl x):PE X (.Name x pos) (tC v):=
 λ_ _ _ H _ I h=>qU I b a ⟨v,H,I,r,h⟩ c
def aae{u pos}(d:Gl X x)(c:X.mg x=none)(a:bootBuiltins x=some u)(r:RelV v u)(b:x≠"__name__")(e:jl x):PE X (.Name x pos) (tC v):=
 λ_ _ _ H _ I h=>xg I d c a ⟨v,H,I,r,h⟩ b e
variable{a b:hD}{F J:TE}{pos:Pos}
def tB(t:TE):TT:=λd H Q=>t d H λx e=>∃c,x=.bl c/\Q c e
variable{L M:TT}{rest:jT}
def adN(t u:TT):TT:=λd H Q=>t d H λc e=>if c=true then u d e Q else Q false e
def tOr(t u:TT):TT:=λd H Q=>t d H λc e=>if c=true then Q true e else u d e Q
def ad4(t:TT):TT:=λd H Q=>t d H λc e=>Q (!c) e
def Ng(g:PT X a L):PW X (.BoolOp .And [a] pos) L:=by
 intro i d s f H Q I h;refine isTrue_and (g6 (g d s f H Q I h) λc j e=>?_);cases c with
 |true=>exact isTrue_and_nil e
 |false=>exact e
def abh(g:PT X a L):PW X (.BoolOp .Or [a] pos) L:=by
 intro i d s f H Q I h;refine isTrue_or (g6 (g d s f H Q I h) λc j e=>?_);cases c with
 |false=>exact isTrue_or_nil e
 |true=>exact e
def Nf(m:PT X a L)(l:PW X (.BoolOp .And (b::rest) pos) M):PW X (.BoolOp .And (a::b::rest) pos) (adN L M):=by
 intro j d s e H Q I h;refine isTrue_and (g6 (m d s e H _ I h) λc k ⟨i,g,f⟩=>?_);cases c with
 |true=>exact l j d k e i Q g f
 |false=>exact⟨i,g,f⟩
def abg(m:PT X a L)(l:PW X (.BoolOp .Or (b::rest) pos) M):PW X (.BoolOp .Or (a::b::rest) pos) (tOr L M):=by
 intro j d s e H Q I h;refine isTrue_or (g6 (m d s e H _ I h) λc k ⟨i,g,f⟩=>?_);cases c with
 |true=>exact⟨i,g,f⟩
 |false=>exact l j d k e i Q g f
def aa9(f:PT X a L):PT X (.UnaryOp .Not a pos) (ad4 L):=by intro d s e H Q I h;exact isTrue_not (f d s e H (λc g=>Q (!c) g) I h)
def adO(F J:TE):TE:=λd H Q=>F d H λx e=>∃c,x=.bl c/\if c=true then J d e Q else Q (.bl false) e
def ad6(F J:TE):TE:=λd H Q=>F d H λx e=>∃c,x=.bl c/\if c=true then Q (.bl true) e else J d e Q
def ad5(F:TE):TE:=λd H Q=>F d H λx e=>∃c,x=.bl c/\Q (.bl<|!c) e
def aaw{e}(h:PE X a t):PE X (.BoolOp e [a] pos) t:=λc s d H Q I f=>BoolOp_one (h c s d H Q I f)
def aac(n:PE X a F)(m:PE X (.BoolOp .And (b::rest) pos) J):PE X (.BoolOp .And (a::b::rest) pos) (adO F J):=by
 intro d s g H Q I h;refine BoolOp_and (g6 (n d s g H _ I h) λv k f=>?_);obtain⟨x,j,i,l,e⟩:=f;obtain⟨c,rfl,e⟩:=e;cases l;refine cC ?_;cases c with
 |true=>exact m d k g j Q i e
 |false=>exact⟨.bl false,j,i,rfl,e⟩
def aax(n:PE X a F)(m:PE X (.BoolOp .Or (b::rest) pos) J):PE X (.BoolOp .Or (a::b::rest) pos) (ad6 F J):=by
 intro d s g H Q I h;refine BoolOp_or (g6 (n d s g H _ I h) λv k f=>?_);obtain⟨x,j,i,l,e⟩:=f;obtain⟨c,rfl,e⟩:=e;cases l;refine cC ?_;cases c with
 |false=>exact m d k g j Q i e
 |true=>exact⟨.bl true,j,i,rfl,e⟩
def aav(j:PE X a F):PE X (.UnaryOp .Not a pos) (ad5 F):=by intro d s g H Q I h;refine UnaryOp_ (g6 (j d s g H _ I h) λv m f=>?_);obtain⟨x,l,k,i,e⟩:=f;obtain⟨c,rfl,e⟩:=e;cases i;exact not_of (cC ⟨.bl<|!c,l,k,rfl,e⟩)
def tIf(t:TT)(F J:TE):TE:=λd H Q=>t d H λc e=>if c=true then F d e Q else J d e Q
def MQ{c:hD}(l:PT X c L)(n:PE X a F)(m:PE X b J):PE X (.IfExp c a b pos) (tIf L F J):=by
 intro e s f H Q I h;refine wpAny_IfExp (g6 (l e s f H _ I h) λd g ⟨k,j,i⟩=>?_);cases d with
 |true=>exact n e g f k Q j i
 |false=>exact m e g f k Q j i
abbrev _root_.qI:=lT gE
def kl(K:gF)(H:Hp)(a:gr)(d:gi V):Prop:=
 Rd H a (.lst d)\/
  ∃(o:kQ) (c:qI) (n:Nat),K.lookup a=some o/\o.cls=.type "list"/\o.dict=none/\o.data=.seq c n/\c.size<=sizeLine/\Vals d c.toList
def mf(K:gF)(H:Hp)(a:gr)(d:gi V):Prop:=
 Rd H a (.tup d)\/
  ∃(o:kQ) (c:qI) (n:Nat),K.lookup a=some o/\o.cls=.type "tuple"/\o.data=.seq c n/\c.size<=sizeLine/\Vals d c.toList
noncomputable def P7:gE->gH V
 |.none=>some .non
 |.bool b=>some (.bl b)
 |.int i _=>some (.int i)
 |.str x _=>some (.str x)
 |.bytes b _=>some (.nO b)
 |.float b _=>some (.flt b)
 |.ref a=>some (.ref a)
 |.type n=>some (.ty n)
 |_=>none
def RelV.abs{u}(r:RelV x u):P7 u=some x:=by
 cases x with
 |non=>cases r;rfl
 |bl _=>cases r;rfl
 |int _=>obtain⟨t,rfl⟩:=r;rfl
 |str _=>obtain⟨t,rfl⟩:=r;rfl
 |nO _=>obtain⟨t,rfl⟩:=r;rfl
 |flt _=>obtain⟨t,rfl⟩:=r;rfl
 |ref _=>cases r;rfl
 |ty _=>cases r;rfl
def RelV.inj{x y}{u}(r:RelV x u)(q:RelV y u):x=y:=Option.some.inj (r.abs.symm.trans q.abs)
theorem Vals.inj:∀{d c:gi V} {e:jP},Vals d e->Vals c e->d=c
 |_,_,_,.nil,.nil=>rfl
 |_,_,_,.cons r t,.cons g f=>by rw[r.inj g,Vals.inj t f]
variable{A:jG}{B:St}{H:Hp}{s:gQ}{a:gr}{C N:gi V}
def Inv.list(I:Inv X A B H s)(h:kl X.K H a C):∃c:gi gE,Vals C c/\PlainL s.heap a c.toArray/\C.length<=sizeLine:=by
 rcases h with h|⟨o,c,n,hk,hc,hd,hs,hz,r⟩
 ·obtain⟨z,c,n,r,e⟩:=h.ok I.hok;exact⟨c,r,⟨_,n,e,rfl,rfl,rfl⟩,z⟩
 ·refine⟨c.toList,r,⟨o,n,I.iN a o hk,hc,hd,by simpa using hs⟩,?_⟩;have e:=r.length;simp only[eJ]at e;simp_all
def Inv.tuple(I:Inv X A B H s)(h:mf X.K H a C):∃c:gi gE,Vals C c/\IsTup s.heap a c.toArray/\C.length<=sizeLine:=by
 rcases h with h|⟨o,c,n,hk,hc,hs,hz,r⟩
 ·obtain⟨z,c,r,p⟩:=h.ok I.hok;exact⟨c,r,p,z⟩
 ·refine⟨c.toList,r,⟨o,I.iN a o hk,hc,n,by simpa using hs⟩,?_⟩;have e:=r.length;simp only[eJ]at e;simp_all
def Inv.LM(I:Inv X A B H s)(h:kl X.K H a C)(k:kl X.K H a N):C=N:=by
 obtain⟨f,r,⟨o,n,e,_,_,d⟩,_⟩:=I.list h;obtain⟨c,j,⟨l,m,g,_,_,i⟩,_⟩:=I.list k;rw[e]at g;cases g;rw[d]at i;injection i with d1 _;have:f=c:=by simpa using aI Array.toList d1
 subst this;exact r.inj j
def Inv.aeP(I:Inv X A B H s)(h:mf X.K H a C)(k:mf X.K H a N):C=N:=by
 obtain⟨f,r,⟨o,e,_,n,d⟩,_⟩:=I.tuple h;obtain⟨c,j,⟨l,g,_,m,i⟩,_⟩:=I.tuple k;rw[e]at g;cases g;rw[d]at i;injection i with d1 _;have:f=c:=by simpa using aI Array.toList d1
 subst this;exact r.inj j
abbrev Cx.ng(X:Cx)(E:iR):Cx:={X with xe:=E}
abbrev Cx.mr(X:Cx):Cx:=X.ng λ_ _=>False
def Cx.Ok.ng{X:Cx}(ok:X.Ok)(E):(X.ng E).Ok:=
 ⟨ok.mod,ok.kind,ok.glob,ok.blt,ok.above,ok.inj,ok.has,ok.cab,ok.hd,ok.frames,ok.AJ,ok.C4,ok.bs,ok.qL,ok.xx,ok.wQ,ok.nV,ok.sU⟩
def Cx.Ok.mM{X:Cx}(ok:(X.ng E).Ok):X.Ok:=
 ⟨ok.mod,ok.kind,ok.glob,ok.blt,ok.above,ok.inj,ok.has,ok.cab,ok.hd,ok.frames,ok.AJ,ok.C4,ok.bs,ok.qL,ok.xx,ok.wQ,ok.nV,ok.sU⟩
variable{E:iR}
def Inv.ng(I:Inv X A B H s)(E):Inv (X.ng E) A B H s:=⟨I.ok.ng E,I.os,I.bare,I.base,I.loc,I.cell,I.free,I.oU,I.pin,I.hok,I.len⟩
def Inv.mM(I:Inv (X.ng E) A B H s):Inv X A B H s:=⟨I.ok.mM,I.os,I.bare,I.base,I.loc,I.cell,I.free,I.oU,I.pin,I.hok,I.len⟩
def SP.mM{D}(h:SP (X.ng E) A D f s'):SP X A D f s':=by
 cases f with
 |next=>obtain⟨c,d,I,q⟩:=h;exact⟨c,d,I.mM,q⟩
 |brk=>obtain⟨c,d,I,q⟩:=h;exact⟨c,d,I.mM,q⟩
 |cont=>obtain⟨c,d,I,q⟩:=h;exact⟨c,d,I.mM,q⟩
 |ret u=>obtain⟨v,c,d,I,r,q⟩:=h;exact⟨v,c,d,I.mM,r,q⟩
def md.mr{c}{t}(h:md X.mr c t):md X c t:=λA s B H D I d=>aK (h A s B H D (I.ng _) d) (λ_ _ q=>q.mM) λ_ _ z=>False.elim z
end
section
variable{X:Cx}{j:Stmt}{rest:gi Stmt}{t u:TS}{e:hD}{i:TE}{pos:Pos}
def ad2:TS:=λD a H=>D.nx a H
def aeb(t u:TS):TS:=λD a H=>t {D with nx:=u D} a H
def Na:md X [] ad2:=λ_ _ a H _ I h=>bA ⟨a,H,I,h⟩
def M9(k:PS X j t)(g:md X rest u):md X (j::rest) (aeb t u):=by
 intro a s c H D I h;refine cm (g6 (k a s c H {D with nx:=u D} I h) λf d q=>?_);cases f with
 |next=>obtain⟨b,m,l,q⟩:=q;exact g a d b m D l q
 |ret v=>exact q
 |brk=>exact q
 |cont=>exact q
def Ap(c:PS X j t):md X [j] t:=by
 intro a s b H D I h;refine cm (g6 (c a s b H D I h) λf d q=>?_);cases f with
 |next=>exact bA q
 |ret v=>exact q
 |brk=>exact q
 |cont=>exact q
def adQ:TS:=λD a H=>D.bk a H
def adR:TS:=λD a H=>D.ct a H
def aaZ:PS X (.Break pos) adQ:=λ_ _ a H _ I h=>wpAny_Break ⟨a,H,I,h⟩
def aa0:PS X (.Continue pos) adR:=λ_ _ a H _ I h=>wpAny_Continue ⟨a,H,I,h⟩
def Inv.quiet(I:Inv X pins σ H s):interactive X.env=false:=by simp[interactive,I.ok.kind]
def adU(i:TE):TS:=λD a H=>i a H λ_ b=>D.nx a b
def Fm(f:PE X e i)(d:swapsWith e none pos.line X.env=pure false):PS X (.Expr e pos) (adU i):=by intro a s b H D I h;exact wpAny_Expr_any (g6 (f a s b H _ I h) λv l ⟨x,k,g,m,c⟩=>⟨b,k,g,c⟩) I.quiet d
def aea(i:TE):TS:=λD a H=>i a H D.rt
def M6(f:PE X e i):PS X (.Return (some e) pos) (aea i):=by intro a s b H D I h;exact wpAny_Return_some (g6 (f a s b H _ I h) λv l ⟨x,k,g,c,d⟩=>⟨x,b,k,g,c,d⟩)
def adZ(c:TT)(t u:TS):TS:=λD a H=>c a H λb d=>if b=true then t D a d else u D a d
def M5(o:PT X c tc)(q:md X a t)(p:md X b u):PS X (.If c a b pos) (adZ tc t u):=by
 intro f s g H D I h;refine wpAny_If (g6 (o f s g H _ I h) λd k ⟨n,m,l⟩=>?_);cases d with
 |true=>exact q f k g n D m l
 |false=>exact p f k g n D m l
end
abbrev TG:=V->St->Hp->(St->Hp->Prop)->Prop
abbrev sL:=gi V->St->Hp->(St->Hp->Prop)->Prop
def PG(X:Cx)(a:hD)(t:TG):Prop:=
 ∀b s d H v u Q,Inv X b d H s->RelV v u->t v d H Q->
  wpAny (model X.prog X.w) X.A (assign a X.env u) (λ_ f=>∃c e,Inv X b c e f/\Q c e) X.xe s
def t5(X:Cx)(g:jT)(t:sL):Prop:=
 ∀a s c H d e Q,Inv X a c H s->Vals d e->t d c H Q->
  wpAny (model X.prog X.w) X.A (assignInOrder ((assignEach g X.env).map (·.2)) e) (λ_ h=>∃b f,Inv X a b f h/\Q b f) X.xe s
section
variable{X:Cx}{pos:Pos}
def Dd(i:Nat):TG:=λv a H Q=>Q (a.set i<|some v) H
def MV(hN:X.N.Nodup)(c:X.N[i]?=some x)(b:Loc X.env.scope x)(hf:X.hf x):PG X (.Name x pos) (Dd i):=by intro a s e H v u Q I r h;exact wpAny_assign_Name (xZ I hN c b r (λf d=>⟨_,H,d,h⟩) hf)
def T7:sL:=λb a H Q=>b=[]/\Q a H
def T6(t:TG)(u:sL):sL:=λc b H Q=>∃v r,c=v::r/\t v b H λa d=>u r a d Q
def MY:t5 X [] T7:=by intro a s b H c d Q I r h;obtain⟨e,h⟩:=h;subst e;cases r;exact assignInOrder_nil ⟨b,H,I,h⟩
def MX{u}(l:PG X e t)(k:t5 X es u)
 (j:(assignEach (e::es) X.env).map (·.2)=assign e X.env::(assignEach es X.env).map (·.2)):t5 X (e::es) (T6 t u):=by
  intro a s d H p w Q I r h;obtain⟨v,q,m,h⟩:=h;subst m;cases r with
  |cons r g=>rw[j];refine assignInOrder_cons (g6 (l a s d H _ _ _ I r h) λ_ f c=>?_);obtain⟨b,o,n,i⟩:=c;exact k a f b o _ _ Q n g i
def T8(K:gF)(n:Nat)(t:sL):TG:=λv c H Q=>∃a b,v=.ref a/\mf K H a b/\b.length=n/\t b c H Q
def MW{k n}(y:X.calm=true)(h:t5 X es t)
 (w:(assignEach es X.env).length=n)(f:(assignEach es X.env).findIdx? (·.1)=none):PG X (.Tuple es k pos) (T8 X.K n t):=by intro c s g H v u Q I r d;obtain⟨a,j,A,q,x,d⟩:=d;subst A;cases r;obtain⟨l,i,p,C⟩:=I.tuple q;refine assign_Tuple_tuple (I.ok.hd y) p (by simp[w,<-x,i.length]) f λz m=>?_;have B:Inv X c g H {s with heap:=z}:=I.kept (t':=s.toks) λb o e=>m b o (aW<|Heap.lt_size e) e;exact h c _ g H j _ Q B (by simpa using i) d
def Gf(b:TE)(g:TG):TS:=λD a H=>b a H λx c=>g x a c D.nx
def aaY{g}(m:PE X e te)(l:PG X tg g)(k:swapsWithSole [tg] e pos.line X.env=pure false)(j:swappedStores [tg] e X.env=pure none)
 (n:(assignEach [tg] X.env).map (·.2)=[assign tg X.env]):PS X (.Assign [tg] e pos) (Gf te g):=by intro a s c H D I h;refine wpAny_Assign_stores (g6 (m a s c H _ I h) λv d b=>?_) k j;obtain⟨x,p,o,f,i⟩:=b;rw[n];exact g6 (l a d c p x v _ o f i) λ_ r q=>q
def Fv(hN:X.N.Nodup)(k:X.N[i]?=some x)(g:Loc X.env.scope x)(l:PE X e te)(j:swapsWith e (some<|.Name x pos') pos.line X.env=pure false)(hf:X.hf x):
    PS X (.Assign [.Name x pos'] e pos) (Gf te<|Dd i):=by
 intro a s c H D I h;refine eZ (g6 (l a s c H _ I h) λv q b=>?_) j;obtain⟨y,o,n,d,f⟩:=b;exact xZ n hN k g d (λp m=>⟨_,o,m,f⟩) hf
def aef(c:TT)(h:TS):TS:=λD a H=>∃W:Nat->St->Hp->Prop,(∃m,W m a H)/\∀m a H,W m a H->
 c a H λb f=>if b=true then∃N:St->Hp->Prop,(∀d g,N d g->∃e,e<m/\W e d g)/\h {D with nx:=N,ct:=N,bk:=D.nx} a f else D.nx a f
def M8(t:PassesOwn (model X.prog X.w) X.A X.env X.xe)(J:PT X c tc)(K:md X body tb):PS X (.While c body [] pos) (aef tc tb):=by
 intro d s z H D I h;obtain⟨W,⟨G,B⟩,i⟩:=h;refine wpAny_While (codeAny_whileLoop (λn F=>∃g y,Inv X d g y F/\W n g y) ?_ G ⟨z,H,I,B⟩)
 rintro n E ⟨e,x,L,A⟩
 refine cP t (g6 (J d E e x _ L<|i n e x A) λb C ⟨w,u,l⟩=>?_);cases b with
 |true=>
  obtain⟨N,hN,l⟩:=l;rw[af rfl];refine cP t (g6 (K d C e w _ u l) λf M k=>?_);cases f with
  |next=>obtain⟨a,j,r,o⟩:=k;obtain⟨p,q,m⟩:=hN a j o;exact⟨p,q,a,j,r,m⟩
  |cont=>obtain⟨a,j,r,o⟩:=k;obtain⟨p,q,m⟩:=hN a j o;exact⟨p,q,a,j,r,m⟩
  |brk=>exact k
  |ret v=>exact k
 |false=>rw[ao aR];exact bA ⟨e,w,u,l⟩
end
structure It where
 go:Nat->Hp->Prop
 A1:Nat->Hp->V->Hp->Prop
 stop:Nat->Hp->Prop
def pA(X:Cx)(a:jG)(H:Hp)(b:gr):Prop:=
 H b=none/\b≠X.env.locals/\b∉X.fs/\(b∈X.ex\/X.s₀.heap.objs.size<=b)/\(∀x c,X.env.cells.lookup x=some c->c≠b)/\∀p∈X.pn++a,p.1≠b
def Inv.uy{d}(I:Inv X pins σ H s)(a:s.heap.objs.size<=b)(g:d b=none):pA X pins d b:=by
 refine⟨g,eL<|ak I.lt a,I.Yn a,.inr<|av I.sz a,λx c e z=>?_,λp f z=>?_⟩
 ·obtain⟨v,q⟩:=I.cell x c e;exact absurd (ak q.lt (by rw[z];exact a)) (cF _)
 ·exact absurd (ak (Heap.lt_size (I.pin p f).1)<|by rw[z];exact a) (cF _)
structure Turn(P:iQ)(w:iK)(K:gF)(tg:hD)(J:It)(fp:pD)(it:gr)(tn:Nat->gU->Prop):Prop where
 mem:it∈fp
 obj:∀i h,tn i h->∀b∈fp,∃o,h.get? b=some o/\∀v,o.data≠.cell v
 keep:∀i h h',tn i h->(∀b∈fp,∀o,h.get? b=some o->h'.get? b=some o)->tn i h'
 item:∀(X:Cx),X.prog=P->X.w=w->X.K=K->X.calm=true->∀(i:Nat) (pins:jG) (s:gQ) (σ:St) (H:Hp) (E:iR),Inv X pins σ H s->(∀b∈fp,pA X pins H b)->tn i s.heap->J.go i H->
  wpAny (model P w) X.A (pyNext (.ref it)) (λr s1=>∃u,r=some u/\
   wpAny (model P w) X.A (letOwnedTupleGo tg (.ref it) u) (λ_ s2=>∃x H',Inv X pins σ H' s2/\RelV x u/\J.A1 i H x H'/\tn (i+1) s2.heap/\∀b∈fp,H' b=none) E s1) E s
 done:∀(X:Cx),X.prog=P->X.w=w->X.K=K->X.calm=true->∀(i:Nat) (pins:jG) (s:gQ) (σ:St) (H:Hp) (E:iR),Inv X pins σ H s->(∀b∈fp,pA X pins H b)->tn i s.heap->J.stop i H->
  wpAny (model P w) X.A (pyNext<|.ref it) (λr s1=>r=none/\Inv X pins σ H s1) E s
 self:∀(A:jd) (i:Nat) (s:gQ) (Q:iR) (E:iR),tn i s.heap->Q (.ref it) s->wpAny (model P w) A (pyIter<|.ref it) Q E s
abbrev TI:=St->Hp->(It->Hp->Prop)->Prop
def PIE(X:Cx)(a:jG)(i:St)(j:hD)(R:It->Hp->Prop)(c:gE)(f:gQ):Prop:=
 ∃g h e J d,c=.ref g/\Inv X a i d f/\Turn X.prog X.w X.K j J h g e/\e 0 f.heap/\(∀b∈h,pA X a d b)/\R J d
def PI(X:Cx)(e b:hD)(d:TI):Prop:=
 ∀a s c H R,Inv X a c H s->d c H R->
  wpAny (model X.prog X.w) X.A (eval b X.env) (λv f=>wpAny (model X.prog X.w) X.A (pyIter v) (PIE X a c e R) X.xe f) X.xe s
def uQ{s}{u o n}{Q}(b:s.heap.get? it=some o)(e:o.cls=.type n)(d:o.data=.fields vs)
 (c:["enumerate","zip","dict_itemiterator","dict_reverseitemiterator","odict_iterator","itertools.zip_longest","itertools.pairwise"].contains n=false)(a:Q () s):wpAny M A (letOwnedTupleGo tg (.ref it) u) Q E s:=by
  unfold letOwnedTupleGo
  cases tg<;>first
   |exact aE a
   |(cases u<;>first
      |exact aE a
      |(refine ah (wpAny_load b ?_)
        rw[e,d];show wpAny M A (if(["enumerate","zip","dict_itemiterator","dict_reverseitemiterator","odict_iterator","itertools.zip_longest","itertools.pairwise"].contains n&&vs[0]?==some (rawInt _))=true then _ else _) Q E s;rw[ao (by intro h;rw[c,Bool.false_and]at h;cases h)];exact aE a))
def Be(K:gF)(a:gr):It:=
 ⟨λi H=>∃b x,kl K H a b/\b[i]?=some x,λi H x c=>c=H/\∀b,kl K H a b->b[i]?=some x,λi H=>∃b,kl K H a b/\b.length<=i⟩
def Bf(K:gF)(a:gr):It:=
 ⟨λi H=>∃b x,mf K H a b/\b[i]?=some x,λi H x c=>c=H/\∀b,mf K H a b->b[i]?=some x,λi H=>∃b,mf K H a b/\b.length<=i⟩
def yy(a:Int)(n:Nat):It:=⟨λi _=>i<n,λi H x b=>b=H/\x=.int (a+i),λi _=>n<=i⟩
def aeT{P}{w}{K}{N}(a it):Turn P w K N (Be K a) [it] it (λi h=>h.IsListIter it a i) where
 mem:=by simp
 obj:=λi h f b j=>by
  have e:b=it:=by simpa using j
  subst e;obtain⟨o,e,c,d⟩:=f;exact⟨o,e,λv z=>by rw[d]at z;cases z⟩
 keep:=λi h n f k=>f.at λo e=>k it (by simp) o e
 item:=by intro X B y C L i g s J H E I hf f A;subst B y C;obtain⟨M,x,m,t⟩:=A;obtain⟨r,q,p,R⟩:=I.list m;obtain⟨u,T,Q⟩:=q.get t;obtain⟨f0,f1,U,G,F,D⟩:=hf it (by simp);refine wpAny_pyNext_list_item f p.isList (x:=u) (by simpa using T) λn l O=>?_;have W:Inv X g J H {s with heap:=n}:=I.turned (t':=s.toks) (λb o j e=>(O.2 b j).trans e) f0 f1 G F D;obtain⟨o,e,c,d⟩:=id l;exact⟨u,rfl,uQ (s:={s with heap:=n}) e c d (by decide) ⟨x,H,W,Q,⟨rfl,λY S=>by rw[I.LM S m];exact t⟩,l,λb j=>(hf b j).1⟩⟩
 done:=by intro X B y C L i g s J H E I hf f A;subst B y C;obtain⟨M,m,t⟩:=A;obtain⟨r,q,p,R⟩:=I.list m;obtain⟨f0,f1,U,G,F,D⟩:=hf it (by simp);have Z:=q.length;exact wpAny_pyNext_list_end (I.ok.hd L) f p.isList (by simp;simp_all) λn V=>⟨rfl,I.turned (t':=s.toks) (λb o j e=>V b o j e) f0 f1 G F D⟩
 self:=λ_ _ _ _ _ f h=>wpAny_pyIter_listiter f h
def aeV{P}{w}{K}{N}(a it):Turn P w K N (Bf K a) [it] it (λi h=>h.IsTupleIter it a i) where
 mem:=by simp
 obj:=λi h f b l=>by
  have e:b=it:=by simpa using l
  subst e;obtain⟨o,e,c,d⟩:=f;exact⟨o,e,λv z=>by rw[d]at z;cases z⟩
 keep:=λi h q f k=>f.at λo e=>k it (by simp) o e
 item:=by intro X B y C L i g s J H E I hf f A;subst B y C;obtain⟨M,x,n,t⟩:=A;obtain⟨j,r,p,R⟩:=I.tuple n;obtain⟨u,T,Q⟩:=r.get t;obtain⟨f0,f1,U,G,F,D⟩:=hf it (by simp);refine wpAny_pyNext_tuple_item f (show s.heap.IsTuple a j.toArray from p) (x:=u) (by simpa using T) λq m O=>?_;have W:Inv X g J H {s with heap:=q}:=I.turned (t':=s.toks) (λb o l e=>(O.2 b l).trans e) f0 f1 G F D;obtain⟨o,e,c,d⟩:=id m;exact⟨u,rfl,uQ (s:={s with heap:=q}) e c d (by decide) ⟨x,H,W,Q,⟨rfl,λY S=>by rw[I.aeP S n];exact t⟩,m,λb l=>(hf b l).1⟩⟩
 done:=by intro X B y C L i g s J H E I hf f A;subst B y C;obtain⟨M,n,t⟩:=A;obtain⟨j,r,p,R⟩:=I.tuple n;obtain⟨f0,f1,U,G,F,D⟩:=hf it (by simp);have Z:=r.length;exact wpAny_pyNext_tuple_end (I.ok.hd L) f (show s.heap.IsTuple a j.toArray from p) (by simp;simp_all) λq V=>⟨rfl,I.turned (t':=s.toks) (λb o l e=>V b o l e) f0 f1 G F D⟩
 self:=λ_ _ _ _ _ f h=>wpAny_pyIter_tupleiter f h
def aeU{P}{w}{K}{B}(it)(lo)(n):Turn P w K B (yy lo n) [it] it (λi h=>IsRangeIter h it (lo+(i:Nat)*1) ((n:Int) - (i:Nat)) 1) where
 mem:=by simp
 obj:=λi h a b d=>by
  have e:b=it:=by simpa using d
  subst e;exact⟨_,a,λv z=>by have A:Data.fields _=Data.cell v:=z;cases A⟩
 keep:=λi h g a k=>k it (by simp) _ a
 item:=by intro X p j q m i c s y H E I hf a l;subst p j q;obtain⟨f0,f1,F,x,u,r⟩:=hf it (by simp);have W:=Walks.range (prog:=X.prog) (w:=X.w) (I.ok.hd m) it lo 1 n;refine W.item i s _ _ l a λv g tk D f C=>?_;obtain⟨t,rfl⟩:=D;have J:Inv X c y H {s with heap:=g,toks:=tk}:=I.turned (λb o d e=>C b o (by simpa using d) e) f0 f1 x u r;refine⟨_,rfl,uQ (s:={s with heap:=g,toks:=tk}) (n:="range_iterator") f rfl rfl (by decide) ⟨.int<|lo+i,H,J,⟨t,?_⟩,⟨rfl,rfl⟩,f,λb d=>(hf b d).1⟩⟩;rw[Int.mul_one]
 done:=by intro X p j q m i c s y H E I hf a l;subst p j q;obtain⟨f0,f1,F,x,u,r⟩:=hf it (by simp);exact wpAny_pyNext_range_end (I.ok.hd m) a (by have:n<=i:=l;lia) λg G=>⟨rfl,I.turned (t':=s.toks) (λb o d e=>G b o d e) f0 f1 x u r⟩
 self:=λ_ _ _ _ _ a h=>wpAny_pyIter_rangeiter a h
section
variable{X:Cx}{S:hD}
def VW(K:gF)(e:TE):TI:=λc H R=>e c H λx b=>∃a,x=.ref a/\(∃d,kl K b a d)/\R (Be K a) b
def VZ(K:gF)(e:TE):TI:=λc H R=>e c H λx b=>∃a,x=.ref a/\(∃d,mf K b a d)/\R (Bf K a) b
def aaD{l:hD}{i}(t:PE X l i):PI X S l (VW X.K i):=by
 intro c s j H R I h;refine g6 (t c s j H _ I h) λv d g=>?_;obtain⟨x,w,f,k,m⟩:=g;obtain⟨a,e,⟨y,r⟩,q⟩:=m;subst e;cases k;obtain⟨n,z,p,A⟩:=f.list r;refine dq p.isList ?_;refine⟨d.heap.objs.size,[d.heap.objs.size],_,_,w,rfl,f.kept (t':=d.toks) λb o e=>aj _ e,aeT a _,⟨_,aJ _ rfl,rfl,rfl⟩,λb u=>?_,q⟩;have e:b=d.heap.objs.size:=by simpa using u
 subst e;exact f.uy (au _) (f.hok.fresh<|au _)
def aaG{l:hD}{j}(t:PE X l j):PI X S l (VZ X.K j):=by
 intro d s k H R I h;refine g6 (t d s k H _ I h) λv c i=>?_;obtain⟨x,w,f,m,n⟩:=i;obtain⟨a,e,⟨y,r⟩,q⟩:=n;subst e;cases m;obtain⟨g,z,p,A⟩:=f.tuple r;refine wpAny_pyIter_tuple (show c.heap.IsTuple a g.toArray from p) ?_;refine⟨c.heap.objs.size,[c.heap.objs.size],_,_,w,rfl,f.kept (t':=c.toks) λb o e=>aj _ e,aeV a _,⟨_,aJ _ rfl,rfl,rfl⟩,λb u=>?_,q⟩;have e:b=c.heap.objs.size:=by simpa using u
 subst e;exact f.uy (au _) (f.hok.fresh<|au _)
def acr{R:It->Hp->Prop}{a c}{t u v:Tok}{tk:Nat}(I:Inv X pins σ H s)(j: -(2^62)<=a)(i:a<2^62)(h: -(2^62)<=c)(g:c<2^62)
 (q:R (yy a (c - a).toNat) H):wpAny (model X.prog X.w) X.A (pyIter<|.ref s.heap.objs.size) (PIE X pins σ S R) E {s with heap:=s.heap.push {cls:=.type "range",data:=.fields #[.int a t,.int c u,.int 1 v]},toks:=tk}:=by
  refine wpAny_pyIter_range (IsRange.new ..) (small_one j i h g) ?_;have d:Inv X pins σ H {s with heap:=s.heap.push {cls:=.type "range",data:=.fields #[.int a t,.int c u,.int 1 v]},toks:=tk}:=I.kept λb o e=>aj _ e
  refine⟨(s.heap.push {cls:=.type "range",data:=.fields #[.int a t,.int c u,.int 1 v]}).objs.size,[(s.heap.push {cls:=.type "range",data:=.fields #[.int a t,.int c u,.int 1 v]}).objs.size],_,_,H,rfl,
   d.kept (t':=tk) λb o e=>aj _ e,aeU _ a (c - a).toNat,?_,λb f=>?_,q⟩
  ·have l:a+((0:Nat):Int)*1=a:=by simp
   have k:(((c - a).toNat:Nat):Int) - ((0:Nat):Int)=Builtin.Range.rangeSize a c 1:=by rw[rangeSize_one];split<;>grind
   show IsRangeIter _ _ (a+((0:Nat):Int)*1) ((((c - a).toNat:Nat):Int) - ((0:Nat):Int)) 1;rw[l,k];exact aJ _ rfl
  ·have e:b=(s.heap.push {cls:=.type "range",data:=.fields #[.int a t,.int c u,.int 1 v]}).objs.size:=by simpa using f
   subst e;exact d.uy (au _) (d.hok.fresh<|au _)
def VX(c:TA):TI:=λa H R=>c a H λb d=>∃j:Int,b=[.int j]/\ -(2^62)<=j/\j<2^62/\R (yy 0 j.toNat) d
def aaE{pos}(m:Gl X "range")(l:X.mg "range"=none)(n:PA X [a] ta)(k:starEach [a] X.env=[(false,eval a X.env)]):PI X S (.Call (.Name "range" p) [a] [] pos) (VX ta):=by
 intro b s d H R I h;refine Call_ (xg I m l boot_range (eM (g6 (n pos b s d H _ I h) λv w ⟨u,x,o,g,c⟩=>?_) k rfl) (by decide)<|by decide);obtain⟨j,e,c,i,q⟩:=c;subst e;cases g with
 |cons r f=>cases f;obtain⟨t,rfl⟩:=r;exact call_range_1 (acr o (by simp) (by simp) c i<|by simpa using q)
def adX(f:TI)(g:TG)(h:TS):TS:=λD a H=>f a H λJ k=>∃W:Nat->Nat->St->Hp->Prop,(∃m,W 0 m a k)/\∀i m a H,W i m a H->
 (J.stop i H/\D.nx a H)\/(J.go i H/\∃N:St->Hp->Prop,(∀b c,N b c->∃e,e<m/\W (i+1) e b c)/\∀x c,J.A1 i H x c->g x a c λd j=>h {D with nx:=N,ct:=N,bk:=D.nx} d j)
def xG(a:pD)(h:gU):gi (gr×kQ):=a.filterMap λb=>(h.get? b).map λo=>(b,o)
def z7{h:gU}{o}(a:b∈fp)(e:h.get? b=some o):(b,o)∈xG fp h:=dU.mpr ⟨b,a,by rw[e];rfl⟩
def YF(a:p∈xG fp h):p.1∈fp/\h.get? p.1=some p.2:=by
 obtain⟨b,c,e⟩:=dU.mp a;cases q:h.get? b with
 |none=>rw[q]at e;cases e
 |some o=>rw[q]at e;have d:(b,o)=p:=Option.some.inj e;subst d;exact⟨c,q⟩
def Inv.pinned(I:Inv X pins σ H s)(hf:∀b∈fp,pA X pins H b)(g:∀b∈fp,∃o,s.heap.get? b=some o/\∀v,o.data≠.cell v):Inv X (pins++xG fp s.heap) σ H s:=
 I.Fh λp f=>(a9.mp f).elim (λz=>I.pin p (aU _ z)) λz=>by obtain⟨a,e⟩:=YF z;obtain⟨f0,f1,h,_⟩:=hf p.1 a;obtain⟨o,c,d⟩:=g p.1 a;rw[e]at c;cases c;exact⟨e,f0,f1,h,d⟩
def Inv.AV(I:Inv X (pins++pl) σ H s):Inv X pins σ H s:=I.Fh λp a=>I.pin p (aU _<|cx _ a)
def Fu{g pos}(K:PassesOwn (model X.prog X.w) X.A X.env X.xe)(hc:X.calm=true)(hi:PI X S iter wi)(hg:PG X S g)(p:md X body tb)
 (hs:∀x,foldedSetIterable iter X.env x=pure x):PS X (.For S iter body [] pos) (adX wi g tb):=by
  intro c s Z H D I h;refine wpAny_For (g6 (hi c s Z H _ I h) λv s1 h1=>g6 h1 λWg s2 h2=>?_) hs;obtain⟨it,M,tn,J,H2,e,I2,T,Q,f2,W,⟨m0,w0⟩,C⟩:=h2;subst e
  have l:∀{y:Hp},(∀b∈M,y b=none)->∀b∈M,pA X c y b:=λhn b p=>⟨hn b p,(f2 b p).2⟩;refine codeAny_forLoop_any (λn s'=>∃i k y,Inv X c k y s'/\tn i s'.heap/\(∀b∈M,y b=none)/\W i n k y) ?_ m0 ⟨0,Z,H2,I2,Q,λb p=>(f2 b p).1,w0⟩
  rintro n s3 ⟨i,j,O,I3,F,L,w3⟩
  rcases C i n j O w3 with⟨E,qn⟩|⟨go,N,hN,step⟩
  ·refine cP K (g6 (T.done X rfl rfl rfl hc i c s3 j O X.xe I3 (l L) F E) λr s4 ⟨U,I4⟩=>?_);subst U;exact bA ⟨j,O,I4,qn⟩
  ·refine cP K (g6 (T.item X rfl rfl rfl hc i c s3 j O X.xe I3 (l L) F go) λr s4 ⟨u,U,h4⟩=>?_);subst U;refine cP K (g6 h4 λ_ s5 B=>?_);obtain⟨x,H5,I5,r5,y5,A,V⟩:=B;have Y:=I5.pinned (l V) (T.obj _ _ A);refine cP K (g6 (hg _ s5 j H5 x u _ Y r5<|step x H5 y5) λ_ s6 B=>?_);obtain⟨P,H6,I6,q6⟩:=B;refine cP K (g6 (p _ s6 P H6 _ I6 q6) λf R z=>?_);have q:∀{a:St} {w:Hp},Inv X (c++xG M s5.heap) a w R->N a w->∃m,m<n/\∃i k y,Inv X c k y R/\tn i R.heap/\(∀b∈M,y b=none)/\W i m k y:=λ{a w} t G=>by
    obtain⟨m',hm,w7⟩:=hN a w G;refine⟨m',hm,i+1,a,w,t.AV,T.keep _ _ _ A λb p o e=>(t.pin (b,o)<|aU _<|aU _<|z7 p e).1,λb p=>?_,w7⟩;obtain⟨o,e,d⟩:=T.obj _ _ A b p;exact(t.pin (b,o)<|aU _<|aU _<|z7 p e).2.1
   cases f with
   |next=>obtain⟨a,w,t,G⟩:=z;exact q t G
   |cont=>obtain⟨a,w,t,G⟩:=z;exact q t G
   |brk=>obtain⟨a,w,t,z⟩:=z;exact⟨a,w,t.AV,z⟩
   |ret v=>obtain⟨x7,a,w,t,r7,z⟩:=z;exact⟨x7,a,w,t.AV,r7,z⟩
abbrev R2:=V->V->Hp->VK->Prop
def jO(X:Cx)(f:gE->gE->Sem gE)(r:R2):Prop:=
 ∀a s b H x y v u Q,Inv X a b H s->RelV x v->RelV y u->r x y H Q->
  wpAny (model X.prog X.w) X.A (f v u) (EP X a b Q) X.xe s
def yL(X:Cx)(f:gE->Sem gE)(r:V->Hp->VK->Prop):Prop:=
 ∀a s b H x v Q,Inv X a b H s->RelV x v->r x H Q->
  wpAny (model X.prog X.w) X.A (f v) (EP X a b Q) X.xe s
def lu(X:Cx)(f:gE)(r:gi V->Hp->VK->Prop):Prop:=
 ∀a s b H c d Q,Inv X a b H s->Vals c d->r c H Q->
  wpAny (model X.prog X.w) X.A (call f d) (EP X a b Q) X.xe s
def P1(X:Cx)(r:V->Hp->(gL->Hp->Prop)->Prop):Prop:=
 ∀(a:jG) (s:gQ) (σ:St) (H:Hp) (x:V) (v:gE) (Q:rE),Inv X a σ H s->RelV x v->r x H Q->
  wpAny (model X.prog X.w) X.A (truthy v) (TP X a σ Q) X.xe s
def AM(r:R2)(c b:TE):TE:=λa H Q=>c a H λx e=>b a e λy d=>r x y d Q
def tUn(r:V->Hp->VK->Prop)(b:TE):TE:=λa H Q=>b a H λx c=>r x c Q
def rI(C:Int->Int->Prop)(g:Int->Int->V):R2:=λx y H Q=>∃i j,x=.int i/\y=.int j/\C i j/\Q (g i j) H
def r9(g:Int->Int->V):R2:=λx y H Q=>∃i j,x=.int i/\y=.int j/\Q (g i j) H
def rU(g:Int->V):V->Hp->VK->Prop:=λx H Q=>∃i,x=.int i/\Q (g i) H
variable{a b c:hD}{F O U:TE}{pos:Pos}
def Cf(r:PE X a F)(q:PE X b O){R:V->V->Hp->Prop}(I:Inv X pins σ H s)
 (h:F σ H λx k=>O σ k λy e=>R x y e){f:gE->gE->Sem gE}
 (hf:∀v u j x y e,Inv X pins σ e j->RelV x v->RelV y u->R x y e->wpAny (model X.prog X.w) X.A (f v u) Q X.xe j):
   wpAny (model X.prog X.w) X.A (eval a X.env) (λv i=>wpAny (model X.prog X.w) X.A (eval b X.env) (λu g=>wpAny (model X.prog X.w) X.A (f v u) Q X.xe g) X.xe i) X.xe s:=by
  refine g6 (r pins s σ H _ I h) λv l d=>?_;obtain⟨x,k,w,n,p⟩:=d;refine g6 (q pins l σ k _ w p) λu j d=>?_;obtain⟨y,e,t,m,o⟩:=d;exact hf v u j x y e t n m o
def MS(j:jO X (binaryOp op) r)(l:PE X a F)(k:PE X b O):PE X (.BinOp a op b pos) (AM r F O):=by intro d s e H Q I h;exact fh (Cf l k I h λv u f x y n m i g q=>j d f e n x y v u Q m i g q)
def aaz(j:yL X (unaryOp op) r)(k:PE X a F):PE X (.UnaryOp op a pos) (tUn r F):=by intro d s e H Q I h;exact UnaryOp_ (g6 (k d s e H _ I h) λv f ⟨x,m,l,g,i⟩=>j d f e m x v Q l g i)
abbrev _root_.sQ:=Int->Int->Int
def xF{f}{C}{g:sQ}
 (rule:∀(i j:Int) t u (s:gQ) (Q:iR) E,C i j->Q (.int (g i j) s.toks) {s with toks:=s.toks+1}->wpAny (model X.prog X.w) X.A (f (.int i t)<|.int j u) Q E s):
   jO X f (rI C λi j=>.int<|g i j):=by
  intro d s n H x y v u Q I l k h;obtain⟨i,j,rfl,rfl,m,q⟩:=h;obtain⟨t,rfl⟩:=l;obtain⟨e,rfl⟩:=k;exact rule i j t e s _ _ m ⟨.int<|g i j,H,I.tok _,⟨_,rfl⟩,q⟩
def MF{f}{g:sQ}
 (rule:∀(i j:Int) t u (s:gQ) Q E,Q (.int (g i j) s.toks) {s with toks:=s.toks+1}->wpAny (model X.prog X.w) X.A (f (.int i t)<|.int j u) Q E s):
   jO X f (r9 λi j=>.int<|g i j):=by
  intro d s m H x y v u Q I l k h;obtain⟨i,j,rfl,rfl,q⟩:=h;obtain⟨t,rfl⟩:=l;obtain⟨e,rfl⟩:=k;exact rule i j t e s _ _ ⟨.int<|g i j,H,I.tok _,⟨_,rfl⟩,q⟩
def E5{f}{g:Int->Int->gL}
 (rule:∀(i j:Int) t u s Q E,Q (.bool<|g i j) s->wpAny (model X.prog X.w) X.A (f (.int i t)<|.int j u) Q E s):
   jO X f (r9 λi j=>.bl<|g i j):=by
  intro d s m H x y v u Q I l k h;obtain⟨i,j,rfl,rfl,q⟩:=h;obtain⟨t,rfl⟩:=l;obtain⟨e,rfl⟩:=k;exact rule i j t e s _ _ ⟨.bl<|g i j,H,I,rfl,q⟩
def Pt(i j:Int):Prop:=0<=j/\j<=1000000/\i.natAbs<2^64
def A7(i j:Int):Prop:=(-(2^64)<i/\i<2^64)\/(-(2^64)<j/\j<2^64)
def A7.ok{i j:Int}(h:A7 i j):IntMulOk i j:=by
 rcases h with⟨e,d⟩|⟨e,d⟩;·exact .of_left (intBits_le_64 e d)
 ·exact .of_right (intBits_le_64 e d)
def YM:jO X (binaryOp .Add) (r9 λi j=>.int<|i+j):=MF λ_ _ _ _ _ _ _ q=>add_int q
def Zy:jO X (binaryOp .Sub) (r9 λi j=>.int<|i - j):=MF λ_ _ _ _ _ _ _ q=>sub_int q
def Zk:jO X (binaryOp .Mult) (rI A7 λi j=>.int<|i*j):=xF λ_ _ _ _ _ _ _ d q=>mul_int q d.ok
def Zj:jO X (binaryOp .Mod) (rI (λ_ j=>j≠0) λi j=>.int<|i.fmod j):=xF λ_ _ _ _ _ _ _ d q=>mod_int' d q
def Zv:jO X (binaryOp .Pow) (rI Pt λi j=>.int<|i^j.toNat):=xF λ_ _ _ _ _ _ _ d q=>pow_int_small d.1 d.2.1 d.2.2 q
def unI{f}{g:Int->Int}
 (rule:∀(i:Int) t (s:gQ) Q E,Q (.int (g i) s.toks) {s with toks:=s.toks+1}->wpAny (model X.prog X.w) X.A (f<|.int i t) Q E s):
   yL X f (rU λi=>.int<|g i):=by
  intro d s j H x v Q I e h;obtain⟨i,rfl,q⟩:=h;obtain⟨t,rfl⟩:=e;exact rule i t s _ _ ⟨.int<|g i,H,I.tok _,⟨_,rfl⟩,q⟩
def ae0:yL X (unaryOp .USub) (rU λi=>.int<|-i):=unI λ_ _ _ _ _ q=>neg_int q
noncomputable def FZ:V->V->gL
 |.non,.non=>true|.non,.int _=>true|.int _,.non=>true|.non,.bl _=>true|.bl _,.non=>true|.non,.str _=>true|.str _,.non=>true
 |.int _,.int _=>true|.bl _,.bl _=>true|.str _,.str _=>true|.nO _,.nO _=>true
 |.int _,.str _=>true|.str _,.int _=>true|.bl _,.str _=>true|.str _,.bl _=>true
 |_,_=>false
def rEq:R2:=λx y H Q=>FZ x y=true/\Q (.bl<|decide<|x=y) H
def rNe:R2:=λx y H Q=>FZ x y=true/\Q (.bl<|!decide (x=y)) H
def JC:decide (V.int i=V.int j)=(i==j):=by rw[bx];simp
def JA:decide (V.bl i=V.bl j)=(i==j):=by rw[bx];simp
def JD:decide (V.str i=V.str j)=(i==j):=by rw[bx];simp
def JB:decide (V.nO i=V.nO j)=(i.toList==j.toList):=by rw[bx];cases i;cases j;simp
def jI{Q}{k}(I:Inv X pins σ H s)(q:Q (.bl k) H)(e:k=k'):EP X pins σ Q (.bool k') s:=by subst e;exact⟨.bl k,H,I,rfl,q⟩
def YQ:jO X (compareOp .Eq) rEq:=by
 intro k s l H x y v u Q I g d h;obtain⟨f,q⟩:=h;cases x with
 |non=>
  cases g;cases y with
  |non=>cases d;exact PySem.EqNone.eq_none_none (jI I q<|by simp)
  |bl j=>cases d;exact PySem.EqNone.eq_none_bool (jI I q<|by simp)
  |int j=>obtain⟨e,rfl⟩:=d;exact PySem.EqNone.eq_none_int (jI I q<|by simp)
  |str j=>obtain⟨e,rfl⟩:=d;exact PySem.EqNone.eq_none_str (jI I q<|by simp)
  |_=>exact absurd (show false=true from f) aR
 |bl i=>
  cases g;cases y with
  |non=>cases d;exact PySem.EqNone.eq_bool_none (jI I q<|by simp)
  |bl j=>cases d;exact eq_bool (jI I q JA)
  |str j=>obtain⟨e,rfl⟩:=d;exact PySem.EqMixed.eq_bool_str (jI I q<|by simp)
  |_=>exact absurd (show false=true from f) aR
 |int i=>
  obtain⟨t,rfl⟩:=g;cases y with
  |non=>cases d;exact PySem.EqNone.eq_int_none (jI I q<|by simp)
  |int j=>obtain⟨e,rfl⟩:=d;exact eq_int (jI I q JC)
  |str j=>obtain⟨e,rfl⟩:=d;exact PySem.EqMixed.eq_int_str (jI I q<|by simp)
  |_=>exact absurd (show false=true from f) aR
 |str i=>
  obtain⟨t,rfl⟩:=g;cases y with
  |non=>cases d;exact PySem.EqNone.eq_str_none (jI I q<|by simp)
  |bl j=>cases d;exact PySem.EqMixed.eq_str_bool (jI I q<|by simp)
  |int j=>obtain⟨e,rfl⟩:=d;exact PySem.EqMixed.eq_str_int (jI I q<|by simp)
  |str j=>obtain⟨e,rfl⟩:=d;exact eq_str (jI I q JD)
  |_=>exact absurd (show false=true from f) aR
 |nO i=>
  obtain⟨t,rfl⟩:=g;cases y with
  |nO j=>obtain⟨e,rfl⟩:=d;exact W.eq_bytes (jI I q JB)
  |_=>exact absurd (show false=true from f) aR
 |_=>cases y<;>exact absurd (show false=true from f) aR
def Zq:jO X (compareOp .NotEq) rNe:=by
 intro k s l H x y v u Q I g d h;obtain⟨f,q⟩:=h;cases x with
 |non=>
  cases g;cases y with
  |non=>cases d;exact PySem.EqNone.ne_none_none (jI I q<|by simp)
  |bl j=>cases d;exact PySem.EqNone.ne_none_bool (jI I q<|by simp)
  |int j=>obtain⟨e,rfl⟩:=d;exact PySem.EqNone.ne_none_int (jI I q<|by simp)
  |str j=>obtain⟨e,rfl⟩:=d;exact PySem.EqNone.ne_none_str (jI I q<|by simp)
  |_=>exact absurd (show false=true from f) aR
 |bl i=>
  cases g;cases y with
  |non=>cases d;exact PySem.EqNone.ne_bool_none (jI I q<|by simp)
  |bl j=>cases d;exact ne_bool (jI I q<|aI not JA)
  |str j=>obtain⟨e,rfl⟩:=d;exact PySem.EqMixed.ne_bool_str (jI I q<|by simp)
  |_=>exact absurd (show false=true from f) aR
 |int i=>
  obtain⟨t,rfl⟩:=g;cases y with
  |non=>cases d;exact PySem.EqNone.ne_int_none (jI I q<|by simp)
  |int j=>obtain⟨e,rfl⟩:=d;exact ne_int (jI I q<|aI not JC)
  |str j=>obtain⟨e,rfl⟩:=d;exact PySem.EqMixed.ne_int_str (jI I q<|by simp)
  |_=>exact absurd (show false=true from f) aR
 |str i=>
  obtain⟨t,rfl⟩:=g;cases y with
  |non=>cases d;exact PySem.EqNone.ne_str_none (jI I q<|by simp)
  |bl j=>cases d;exact PySem.EqMixed.ne_str_bool (jI I q<|by simp)
  |int j=>obtain⟨e,rfl⟩:=d;exact PySem.EqMixed.ne_str_int (jI I q<|by simp)
  |str j=>obtain⟨e,rfl⟩:=d;exact ne_str (jI I q<|aI not JD)
  |_=>exact absurd (show false=true from f) aR
 |nO i=>
  obtain⟨t,rfl⟩:=g;cases y with
  |nO j=>obtain⟨e,rfl⟩:=d;exact W.ne_bytes (jI I q<|aI not JB)
  |_=>exact absurd (show false=true from f) aR
 |_=>cases y<;>exact absurd (show false=true from f) aR
def Zd:jO X (compareOp .Lt) (r9 λi j=>.bl<|decide<|i<j):=E5 λ_ _ _ _ _ _ _ q=>lt_int q
def YW:jO X (compareOp .Gt) (r9 λi j=>.bl<|decide<|j<i):=E5 λ_ _ _ _ _ _ _ q=>gt_int q
def YU:jO X (compareOp .GtE) (r9 λi j=>.bl<|decide<|j<=i):=E5 λ_ _ _ _ _ _ _ q=>ge_int q
def YZ:jO X (compareOp .In) (λx y H Q=>∃i j,x=.str i/\y=.str j/\Q (.bl<|!(Builtin.Str.occurrences j i 0 j.length 1).isEmpty) H):=by intro d s g H x y v u Q I f e h;obtain⟨i,j,rfl,rfl,q⟩:=h;obtain⟨t,rfl⟩:=f;obtain⟨k,rfl⟩:=e;exact in_str (jI I q rfl)
def Y7:jO X (compareOp .Is) (λx y H Q=>y=.non/\Q (.bl<|decide<|x=.non) H):=by
 intro e s g H x y v u Q I d f h;obtain⟨rfl,q⟩:=h;cases f;refine is_none_gen (jI I q ?_)
 cases x<;>first
  |(cases d;rfl)
  |(obtain⟨t,rfl⟩:=d;rfl)
def Zu:jO X (compareOp .IsNot) (λx y H Q=>y=.non/\Q (.bl<|!decide (x=.non)) H):=by
 intro e s g H x y v u Q I d f h;obtain⟨rfl,q⟩:=h;cases f;refine isnot_none_gen (jI I q ?_)
 cases x<;>first
  |(cases d;rfl)
  |(obtain⟨t,rfl⟩:=d;rfl)
def EV(b)(h:op≠.In)(d:op≠.NotIn):behindInMarks op b=false:=by
 have f:(op==CmpOp.In)=false:=by cases op<;>first|rfl|exact absurd rfl h
 have e:(op==CmpOp.NotIn)=false:=by cases op<;>first|rfl|exact absurd rfl d
 cases b<;>simp[behindInMarks,f,e]
def aai(j:jO X (compareOp op) r)(m:PE X a F)(l:PE X b O)(k:behindInMarks op b=false):PE X (.Compare a [op] [b] pos) (AM r F O):=by intro d s e H Q I h;exact wpAny_Compare1 (Cf m l I h λv u f x y o n i g q=>j d f e o x y v u Q n i g q) k
def aec(t:TE):TT:=λd H Q=>t d H λx e=>∃k,x=.bl k/\Q k e
def Nd(t:jO X (compareOp op) r)(B:PE X a F)(A:PE X b O)(w:behindInMarks op b=false):PT X (.Compare a [op] [b] pos) (aec<|AM r F O):=by intro d s g H Q I h;refine wpAny_isTrue_Compare1 (g6 (B d s g H _ I h) λv j f=>?_) w;obtain⟨x,K,E,n,q⟩:=f;refine g6 (A d j g K _ E q) λu i f=>?_;obtain⟨y,J,D,m,p⟩:=f;refine g6 (t d i g J x y v u _ D n m p) λc L f=>?_;obtain⟨z,G,C,l,k,e,o⟩:=f;subst e;cases l;exact cC ⟨G,C,o⟩
def BK(K:gF)(x:V)(H:Hp)(k:gL):Prop:=
 match x with
 |.non=>k=false
 |.bl b=>k=b
 |.int i=>k=(i !=0)
 |.str y=>y.length<=sizeLine/\k=((y.length:Int)!=0)
 |.nO y=>y.size<=sizeLine/\k=((y.size:Int)!=0)
 |.ref p=>(∃d,kl K H p d/\k=!d.isEmpty)\/(∃d,mf K H p d/\k=!d.isEmpty)\/∃e,H p=some (.dK e)/\k=!e.isEmpty
 |_=>False
def Wc{d:gi<|κ×V}{e:gi<|κ×gE}(r:KV d e):(!e.isEmpty)=!d.isEmpty:=by cases r<;>rfl
def Ll{e:gi V}{d:jP}(r:Vals e d):(!d.toArray.isEmpty)=!e.isEmpty:=by cases r<;>simp
def u0:(sizeLine:Nat)<2^63:=by rw[dZ];decide
def aeJ:P1 X (λx H Q=>∃k,BK X.K x H k/\Q k H):=by
 intro z s D H x v Q I l h;obtain⟨k,e,q⟩:=h;have G:=u0;have E:sizeLine=16777216:=dZ;cases x with
 |non=>cases l;have d:k=false:=e;subst d;exact truthy_none ⟨H,I,q⟩
 |bl b=>cases l;have d:k=b:=e;subst d;exact cC ⟨H,I,q⟩
 |int i=>obtain⟨t,rfl⟩:=l;have d:k=(i !=0):=e;subst d;exact PySem.P.truthy_int ⟨H,I,q⟩
 |str y=>obtain⟨t,rfl⟩:=l;obtain⟨B,d⟩:y.length<=sizeLine/\k=((y.length:Int)!=0):=e;subst d;exact PySem.P.truthy_str (by lia) ⟨H,I.tok _,q⟩
 |nO y=>obtain⟨t,rfl⟩:=l;obtain⟨B,d⟩:y.size<=sizeLine/\k=((y.size:Int)!=0):=e;subst d;exact W.truthy_bytes (by walk_at "l") ⟨H,I.tok _,q⟩
 |ref p=>
  cases l;have d:(∃j,kl X.K H p j/\k=!j.isEmpty)\/(∃j,mf X.K H p j/\k=!j.isEmpty)\/∃f,H p=some (.dK f)/\k=!f.isEmpty:=e;rcases d with⟨j,n,d⟩|⟨j,n,d⟩|⟨f,n,d⟩
  ·subst d;obtain⟨w,r,u,A⟩:=I.list n;have g:=r.length;exact wpAny_truthy_list u.isList (by simp only[aM];omega) ⟨H,I.tok _,by rw[Ll r];exact q⟩
  ·subst d;obtain⟨w,r,u,A⟩:=I.tuple n;have g:=r.length;exact truthy_tuple u (by simp only[aM];omega) ⟨H,I.tok _,by rw[Ll r];exact q⟩
  ·subst d;obtain⟨A,C,o,r,m⟩:f.length<=sizeLine/\(p==sysModules)=false/\∃o,KV f o/\s.heap.DictOf (mY X.prog X.w) p o:=I.hok p _ n;have g:f.length=o.length:=Paired.length r;exact wpAny_truthy_dict C m (by omega) ⟨H,I.tok _,by rw[Wc r];exact q⟩
 |_=>exact(show False from e).elim
def abb(n:PE X a F)(m:∀d,isTrue a X.env d=(do let v<-d;standAt a.pos;holding [v]<|truthy v)):
    PT X a (λf H Q=>F f H λx g=>∃k,BK X.K x g k/\Q k g):=by
 intro e s f H Q I h;exact isTrue_plain (g6 (n e s f H _ I h) λv i ⟨x,p,o,j,l⟩=>aeJ e i f p x v Q o j l) (m _)
def YO:jO X (binaryOp .Add) (λx y H Q=>∃i j,x=.str i/\y=.str j/\i.length+j.length<=sizeLine/\Q (.str<|i++j) H):=by intro d s l H x y v u Q I g f h;obtain⟨i,j,rfl,rfl,k,q⟩:=h;obtain⟨t,rfl⟩:=g;obtain⟨e,rfl⟩:=f;exact add_str (λe tk=>⟨.str<|i++j,H,I.tok _,⟨_,rfl⟩,q⟩) k
def vals1(r:Vals [x] us):∃u,us=[u]/\RelV x u:=by
 cases r with
 |cons e d=>cases d;exact⟨_,rfl,e⟩
def vals2{y}(r:Vals [x,y] us):∃u d,us=[u,d]/\RelV x u/\RelV y d:=by
 cases r with
 |cons h g=>
  cases g with
  |cons f e=>cases e;exact⟨_,_,rfl,h,f⟩
def QD:lu X (.builtin "abs") (λd H Q=>∃i,d=[.int i]/\Q (.int<|if i<0 then -i else i) H):=by intro e s f H d g Q I r h;obtain⟨i,rfl,q⟩:=h;obtain⟨u,rfl,t,rfl⟩:=vals1 r;exact call_abs_int λu tk=>⟨.int<|if i<0 then -i else i,H,I.tok _,⟨_,rfl⟩,q⟩
def QP(g:X.calm=true):lu X (.builtin "max") (λe H Q=>∃i j,e=[.int i,.int j]/\Q (.int<|if j>i then j else i) H):=by
 intro f s l H e n Q I r h;obtain⟨i,j,rfl,q⟩:=h;obtain⟨u,m,rfl,⟨t,rfl⟩,⟨o,rfl⟩⟩:=vals2 r;refine max_two_ints (I.ok.hd g) λp tk k=>⟨_,H,I.kept k,?_,q⟩;by_cases d:j>i;·rw[af d,af d];exact⟨_,rfl⟩
 ·rw[ao d,ao d];exact⟨_,rfl⟩
def QR:lu X (.type "str") (λd H Q=>∃i,d=[.int i]/\i.natAbs.log2<1920/\Q (.str<|toString i) H):=by intro e s g H d j Q I r h;obtain⟨i,rfl,f,q⟩:=h;obtain⟨u,rfl,t,rfl⟩:=vals1 r;exact PySem.P.str_of_int f ⟨.str _,H,I.tok _,⟨_,rfl⟩,q⟩
structure sJ(h:gU)(x dx C:gr)(mA:iY):Prop where
 obj:h.get? x=some (W.instObj C dx)
 ns:h.Ns1 dx mA
 ne:dx≠x
def WV{h:gU}(n:h.Ns1 dx mA):∃g,h.get? dx=some g/\∀d,W.lookIn d g=some (mA d):=by
 obtain⟨o,i,s,k,p,m,_,l⟩:=n;refine⟨o,k,λd=>?_⟩;have e:=l d;unfold nsFind findBy at e;rw[<-Array.find?_toList]at e;unfold W.lookIn;rw[p];dsimp only;split
 ·rename_i y q;rw[q]at e;exact aI some e
 ·rename_i q;rw[q]at e;have a:i.toList.any (·.refKey)=false:=by
   rw[List.any_eq_false];intro y j;obtain⟨z,t,f⟩:=m y (Array.mem_toList_iff.mp j);simp[DictEntry.refKey,f]
  have r:¬i.toList.any (·.refKey)=true:=by rw[a];exact aR
  rw[ao r];exact aI some e
def sJ.look(I:sJ h x dx C mA):∃e,W.InstAt h x (W.instObj C dx) C (some e)/\∀d,W.lookIn d e=some (mA d):=
 let⟨e,f,g⟩:=WV I.ns
 ⟨e,⟨I.obj,rfl,rfl,f⟩,g⟩
variable{L:iQ}{w:iK}{A:jd}{E:iR}{s:gQ}{K:gF}{x M C f:gr}{P:iY}{B:gp}{v:gE}
def get_map{Q}(X:K.In s.heap)(I:sJ s.heap x M C P)(j:W.plainGet K C B=true)(i:W.hasDictIn K C=true)
 (k:W.findIn K (.ref C) B=some none)(e:P B=some v)(d:W.handedIn v=true)(h:Q v {s with toks:=s.toks+1}):
   wpAny (model L w) A (getAttr (.ref x) B expr) Q E s:=by
  obtain⟨l,J,g⟩:=I.look;exact W.get_value X J (W.plainGet_of j).1 (W.findObj_own i k rfl<|by rw[g,e]) d h
def Ud{Q}(X:K.In s.heap)(I:sJ s.heap x M C P)(d:W.plainGet K C B=true)
 (hf:W.findIn K (.ref C) B=some (some<|.ref f))(i:W.isFn K (.ref f)=true)(g:P B=none)(h:Q (.ref f,[.ref x]) s):
   wpAny (model L w) A (getMethod (.ref x) B pl) Q E s:=by
  obtain⟨e,J,j⟩:=I.look;exact W.method_fn X J (W.plainGet_of d).1 (W.plainGet_of d).2 hf (bK.mp i) (by show(W.lookIn B e).map (·.isSome)=some false;rw[j,g];rfl) h
def adh{Q}(X:K.In s.heap)(I:sJ s.heap x M C P)
 (q:W.findIn K (.ref C) "__setattr__"=some (some<|.builtin "object.__setattr__"))(t:W.plainOver K C=true)(o:W.takerIn K C B=some none)(u:W.hasDictIn K C=true)
 (n:PySem.Within P ns)(p:ns.length<=sizeLine)
 (h:∀g,sJ g x M C (λy=>if y=B then some v else P y)->Heap.SameBut M s.heap g->Q () {s with heap:=g,toks:=s.toks+2}):
   wpAny (model L w) A (setAttr (.ref x) B v) Q E s:=by
  obtain⟨H,J,R⟩:=I.look;refine W.set_plain X J q (W.osa_open (s:={s with toks:=s.toks+1}) (r:=none) X J t o λb=>?_);obtain⟨T,z,k⟩:=W.any_some u;have m:s.heap.get? x=some ⟨.ref C,some M,.plain,#[]⟩:=I.obj;refine ah (aE<|ah<|ah<|wpAny_loadPart m<|ah<|W.Looks.here (s:={s with toks:=s.toks+1}) (W.looks_clsIn X z) ?_);rw[k];refine aE (a:=some M) (ah<|aE<|ah ?_);refine wpAny_nsSet1 (s:={s with toks:=s.toks+1}) I.ns λg e d=>?_;obtain⟨N,D,G,i,j,l⟩:=e.count (PySem.Within.cons B v n);refine ah (wpAny_lookBehind i (by rw[j];exact pastItsLine_dict (av l (by rw[ag];walk_at "l"))) ?_);exact aE (h _ ⟨(d.2 _<|bQ I.ne).trans I.obj,e,I.ne⟩ d)
def XI{R}(X:K.In s.heap)(i:W.makesIn K C=true)
 (j:W.findIn K (.ref C) "__init__"=some (some<|.ref f))(hf:W.typeIn K (.ref f)=some (.type "function"))
 (h:codeAny (model L w) (A.under (.builtin "type.__call__" ⟨.ref C::vs,kw⟩)) (.call (.ref f) ⟨.ref (s.heap.objs.size+1)::vs,kw⟩) (W.InitBack (s.heap.objs.size+1) R)
 {s with heap:=(s.heap.push W.emptyDict).push (W.instObj C s.heap.objs.size)}):
   codeAny (model L w) A (.call (.ref C) ⟨vs,kw⟩) R s:=by
  obtain⟨l,g,d,t,k⟩:=s;exact W.make_core (W.makes_of X i) (W.looks_findIn X j) (λe=>W.bind_fn X e hf) (.inl rfl) h
end
def kA(f:gp)(v:V):gi (gp×V)->gi (gp×V)
 |[]=>[(f,v)]
 |(g,x)::r=>if g=f then(g,v)::r else(g,x)::kA f v r
theorem LU(f g v):∀fs:gi (gp×V),(kA f v fs).lookup g=if g=f then some v else fs.lookup g
 |[]=>by
  show List.lookup g [(f,v)]=_;by_cases h:g=f
  ·have a:(g==f)=true:=bK.mpr h;simp only[List.lookup,a,af h]
  ·have a:(g==f)=false:=cU.mpr h;simp only[List.lookup,a,ao h]
 |(k,x)::r=>by
  have c:=LU f g v r;rw[show kA f v ((k,x)::r)=(if k=f then(k,v)::r else(k,x)::kA f v r)from rfl];by_cases b:k=f
  ·rw[af b];by_cases h:g=k
   ·have a:(g==k)=true:=bK.mpr h;simp only[List.lookup,a,af<|h.trans b]
   ·have a:(g==k)=false:=cU.mpr h;simp only[List.lookup,a,ao (λe:g=f=>h<|e.trans b.symm)]
  ·rw[ao b];by_cases h:g=k
   ·have a:(g==k)=true:=bK.mpr h;simp only[List.lookup,a,ao (λe:g=f=>b<|h.symm.trans e)]
   ·have a:(g==k)=false:=cU.mpr h;simp only[List.lookup,a];exact c
theorem Ey(f v):∀fs:gi (gp×V),f∈(kA f v fs).map (·.1)/\∀g,g∈fs.map (·.1)->g∈(kA f v fs).map (·.1)
 |[]=>⟨by simp[kA],λg h=>by simp at h⟩
 |(k,x)::r=>by
  obtain⟨c,b⟩:=Ey f v r;rw[show kA f v ((k,x)::r)=(if k=f then(k,v)::r else(k,x)::kA f v r)from rfl];by_cases a:k=f
  ·rw[af a];subst a;exact⟨by simp,λg h=>by simpa using h⟩
  ·rw[ao a];refine⟨?_,λg h=>?_⟩
   ·rw[aF];exact aQ _ c
   ·rw[aF]at h⊢;rcases aT.mp h with e|e;·exact aT.mpr (.inl e)
    ·exact aQ _ (b g e)
theorem LL(f v):∀fs:gi (gp×V),(kA f v fs).length<=fs.length+1
 |[]=>by simp[kA]
 |(k,x)::r=>by
  have b:=LL f v r;rw[show kA f v ((k,x)::r)=(if k=f then(k,v)::r else(k,x)::kA f v r)from rfl];by_cases a:k=f;·rw[af a,ag,ag];simp
  ·rw[ao a,ag,ag];walk_at "l"
def lS.some_of{o}(r:lS (some v) o):∃u,o=some u/\RelV v u:=by
 cases o with
 |none=>exact(show False from r).elim
 |some u=>exact⟨u,rfl,r⟩
def lS.none_of{o}(r:lS none o):o=none:=by
 cases o with
 |none=>rfl
 |some u=>exact(show False from r).elim
def KN{u}(r:RelV v u):W.handedIn u=true:=by
 cases v with
 |non=>cases(show u=Value.none from r);rfl
 |bl b=>cases(show u=Value.bool b from r);rfl
 |int i=>obtain⟨t,e⟩:=(show∃t,u=Value.int i t from r);cases e;rfl
 |str x=>obtain⟨t,e⟩:=(show∃t,u=Value.str x t from r);cases e;rfl
 |nO b=>obtain⟨t,e⟩:=(show∃t,u=Value.bytes b t from r);cases e;rfl
 |flt b=>obtain⟨t,e⟩:=(show∃t,u=Value.float b t from r);cases e;rfl
 |ref a=>cases(show u=Value.ref a from r);rfl
 |ty n=>cases(show u=Value.type n from r);rfl
section
variable{P:iQ}{w:iK}{H j:Hp}{h i:gU}{a C b:gr}{fs c:gi<|gp×V}
def Em(k:jJ P w H h)(e:H a=some (.ins C b fs)):∃g,sJ h a b C g/\(∀f,lS (fs.lookup f) (g f))/\PySem.Within g (fs.map (·.1))/\fs.length<=1000/\H b=some (.own a):=by obtain⟨d,z,l,ob,g,n,r,q⟩:=(show kj P w H h a (.ins C b fs)from k a _ e);exact⟨g,⟨ob,n,l⟩,r,q,z,d⟩
end
structure mS(K:gF)(C:gr):Prop where
 pg:W.plainGet K C Str.empty=true
 hd:W.hasDictIn K C=true
 po:W.plainOver K C=true
 sa:W.findIn K (.ref C) "__setattr__"=some (some<|.builtin "object.__setattr__")
def mS.get{K:gF}{C:gr}(c:mS K C)(f:gp):W.plainGet K C f=true:=c.pg
def nL(K:gF)(C:gr)(f:gp):Prop:=W.findIn K (.ref C) f=some none
def nL.aeA{K}{C}{f}(n:nL K C f):W.takerIn K C f=some none:=by unfold W.takerIn;rw[show W.findIn K (.ref C) f=some none from n];rfl
structure Meth(K:gF)(C:gr)(m:gp)(f:gr):Prop where
 at_:W.findIn K (.ref C) m=some (some<|.ref f)
 fn:W.isFn K (.ref f)=true
 kp:W.keepIn K (.ref f)=true
section
variable{X:Cx}{B:jG}{F:St}{H:Hp}{s:gQ}{a C L:gr}{fs:gi<|gp×V}{f:gp}{v:V}{A:jd}{E:iR}
def Kx{Q:iR}(I:Inv X B F H s)(e:H a=some (.ins C L fs))(c:mS X.K C)(n:nL X.K C f)(l:fs.lookup f=some v)
 (h:∀u d,Inv X B F H d->RelV v u->Q u d):wpAny (model X.prog X.w) A (getAttr (.ref a) f b) Q E s:=by obtain⟨i,O,r,_,_,_⟩:=Em I.hok e;obtain⟨u,j,g⟩:=lS.some_of (v:=v) (o:=i f) (by rw[<-l];exact r f);exact get_map I.iN O (c.get f) c.hd n j (KN g) (h u _ (I.tok _) g)
def Ky{g}{Q}(I:Inv X B F H s)(e:H a=some (.ins C L fs))(c:mS X.K C)(k:Meth X.K C m g)(l:fs.lookup m=none)
 (h:Q (.ref g,[.ref a]) s):wpAny (model X.prog X.w) A (getMethod (.ref a) m pl) Q E s:=by obtain⟨b,O,r,_,_,_⟩:=Em I.hok e;have d:b m=none:=lS.none_of (by rw[<-l];exact r m);exact Ud I.iN O (c.get m) k.at_ k.fn d h
def Od{y u}{Q:qH}(I:Inv X B F H s)(e:H a=some (.ins C L fs))(c:mS X.K C)(n:nL X.K C f)(M:fs.length<1000)(p:RelV y u)
 (h:∀j,Inv X B F (upd H a<|.ins C L<|kA f y fs) j->Q () j):wpAny (model X.prog X.w) A (setAttr (.ref a) f u) Q E s:=by
  obtain⟨k,O,r,i,_,l⟩:=Em I.hok e;have t:(fs.map (·.1)).length<=sizeLine:=by rw[ae,dZ];walk_at "l"
  refine adh I.iN O c.sa c.po n.aeA c.hd i t λJ d m=>h _ ?_;have D:∃o,J.get? L=some o:=let⟨o,_,_,K,_⟩:=d.ns;⟨o,K⟩;refine I.write (x:=a) (e:=L) (by rw[e];exact True.intro) (.inr l) (λb q G z=>(m.2 b G).trans z) D ?_;refine⟨by rw[hA O.ne];exact l,?_,O.ne,d.obj,_,d.ns,λg=>?_,λg w=>?_⟩;·have:=LL f y fs;walk_at "l"
  ·show lS ((kA f y fs).lookup g) (if g=f then some u else k g);rw[LU];by_cases q:g=f;·rw[af q,af q];exact p
   ·rw[ao q,ao q];exact r g
  ·by_cases q:g=f;·rw[q];exact(Ey f y fs).1
   ·refine(Ey f y fs).2 g (i g λz=>w ?_);show(if g=f then some u else k g)=none;rw[ao q];exact z
def Inv.made(I:Inv X B F H s):Inv X B F (upd (upd H s.heap.objs.size<|.own<|s.heap.objs.size+1) (s.heap.objs.size+1)<|.ins C s.heap.objs.size [])
    {s with heap:=(s.heap.push W.emptyDict).push (W.instObj C s.heap.objs.size)}:=by
 have d:(s.heap.push W.emptyDict).get? s.heap.objs.size=some W.emptyDict:=aJ s.heap rfl;have j:((s.heap.push W.emptyDict).push (W.instObj C s.heap.objs.size)).get? (s.heap.objs.size+1)=some (W.instObj C s.heap.objs.size):=by
  have:=aJ (s.heap.push W.emptyDict) (o:=W.instObj C s.heap.objs.size) rfl
  rwa [d9]at this
 have i:(s.heap.push W.emptyDict).Ns s.heap.objs.size (λ_=>none):=⟨W.emptyDict,#[],_,d,rfl,(λe h=>absurd h<|by simp),λ_=>rfl⟩;have k:=I.laid (a:=s.heap.objs.size) (o:=.own<|s.heap.objs.size+1) (h':=s.heap.push W.emptyDict) (t':=s.toks) (λb u q=>aj _ q) (au _) ⟨_,d⟩;refine k.laid (a:=s.heap.objs.size+1) (o:=.ins C s.heap.objs.size []) (t':=s.toks) (λb u q=>aj _ q) (Nat.le_of_eq<|d9 _ _) ?_;have c:s.heap.objs.size≠s.heap.objs.size+1:=aW (bL _);refine⟨by rw[hA c,i8],cy _,c,j,λ_=>none,(Heap.Ns1.of_empty i).at λo q=>aj _ q,λ_=>True.intro,λy g=>absurd rfl g⟩
def Iw{w pos}(c:attributeBase e f env (eval e env)=eval e env)
 (h:wpAny (model prog w) A (eval e env) (λo b=>wpAny (model prog w) A (getAttr o f true) Q E b) E s):wpAny (model prog w) A (eval (.Attribute e f pos) env) Q E s:=
  Attribute_any_ h (by rw[arm_eval_Attribute,c])
def adV(K:gF)(c:TE)(f:gp):TE:=λF H Q=>c F H λx b=>∃a C L fs v,x=.ref a/\b a=some (.ins C L fs)/\mS K C/\nL K C f/\fs.lookup f=some v/\Q v b
def acS(K:gF)(d c:TE)(f:gp):TS:=λD F H=>c F H λy e=>d F e λx b=>∃a C L fs,x=.ref a/\b a=some (.ins C L fs)/\mS K C/\nL K C f/\fs.length<1000/\
 D.nx F (upd b a<|.ins C L<|kA f y fs)
def tY(X:Cx)(c:Operator)(b:V->V->Hp->VK->Prop):Prop:=
 ∀B s F H x y u v Q,Inv X B F H s->RelV x u->RelV y v->b x y H Q->wpAny (model X.prog X.w) X.A (inplaceOp c u v) (EP X B F Q) X.xe s
def acT(K:gF)(h g:TE)(i:V->V->Hp->VK->Prop)(f:gp):TS:=λD F H=>h F H λx e=>∃a C L fs v,x=.ref a/\e a=some (.ins C L fs)/\mS K C/\nL K C f/\fs.lookup f=some v/\
 g F e λy j=>i v y j λz d=>∃c b,d a=some (.ins C c b)/\b.length<1000/\D.nx F (upd d a<|.ins C c<|kA f z b)
variable{o e J:hD}{pos P S:Pos}{M N:TE}
def aam(i:PE X e M)(j:attributeBase e f X.env (eval e X.env)=eval e X.env):PE X (.Attribute e f pos) (adV X.K M f):=by intro B s F H Q I h;refine Iw j (g6 (i B s F H _ I h) λu y b=>?_);obtain⟨x,r,p,d,a,C,L,fs,v,ex,k,c,n,l,q⟩:=b;subst ex;obtain rfl:u=Value.ref a:=d;exact Kx p k c n l λt w m g=>⟨v,r,m,g,q⟩
def aa2(r:PE X o M)(m:PE X J N)(p:swapsWith J (some<|.Attribute o f P) pos.line X.env=pure false):PS X (.Assign [.Attribute o f P] J pos) (acS X.K M N f):=by intro B s F H D I h;refine eh (g6 (m B s F H _ I h) λu d b=>?_) p;obtain⟨y,K,G,g,q⟩:=b;refine g6 (r B d F K _ G q) λk Q b=>?_;obtain⟨x,R,z,i,a,C,L,fs,ex,t,c,n,l,j⟩:=b;subst ex;obtain rfl:k=Value.ref a:=i;exact Od z t c n l g λO w=>⟨F,_,w,j⟩
def aa3(R:PE X o M)(Q:PE X J N)(d:tY X op rd):PS X (.AugAssign (.Attribute o f S) op J pos) (acT X.K M N rd f):=by intro B s F H D I h;refine wpAny_AugAssign_AttributeAny (g6 (R B s F H _ I h) λK s1 b=>?_);obtain⟨x,H1,I1,r,a,C,L,fs,v,ex,U,c,n,l,q⟩:=b;subst ex;obtain rfl:K=Value.ref a:=r;refine Kx I1 U c n l λu k I2 t=>g6 (Q B k F H1 _ I2 q) λi j b=>?_;obtain⟨y,H2,I3,p,G⟩:=b;refine g6 (d B j F H2 v y u i _ I3 t p G) λw4 s4 b=>?_;obtain⟨z,H3,Z,m,W,T,g,O,w⟩:=b;exact Od Z g c n O m λs5 Y=>⟨F,_,Y,w⟩
def acd:V->V->Hp->VK->Prop:=λx y H Q=>∃i j,x=.int i/\y=.int j/\Q (.int<|i+j) H
def acn:V->V->Hp->VK->Prop:=λx y H Q=>∃i j,x=.int i/\y=.int j/\Q (.int<|i - j) H
def V2:tY X .Add acd:=by
 rintro B s F H x y u v Q I d c ⟨i,j,rfl,rfl,q⟩
 obtain⟨t,rfl⟩:=(show∃t,u=Value.int i t from d);obtain⟨b,rfl⟩:=(show∃b,v=Value.int j b from c);exact PyProof.Rows.iadd_int ⟨.int<|i+j,H,I.tok _,⟨_,rfl⟩,q⟩
def V5:tY X .Sub acn:=by
 rintro B s F H x y u v Q I d c ⟨i,j,rfl,rfl,q⟩
 obtain⟨t,rfl⟩:=(show∃t,u=Value.int i t from d);obtain⟨b,rfl⟩:=(show∃b,v=Value.int j b from c);exact PyProof.Rows.isub_int ⟨.int<|i - j,H,I.tok _,⟨_,rfl⟩,q⟩
end
structure iX(k:Nat)(A:jd):Prop where
 hd:A.handled=none
 dp:A.depth+3*k+5<recursionLimit
 un:A.units+16*k+200<cLine
def iX.mono{k}(r:iX k A)(h:j<=k):iX j A:=⟨r.hd,by have:=r.dp;lia,by have:=r.un;lia⟩
def iX.deeper{k}(r:iX (k+1) A)(env):iX k (A.deeper env):=
 ⟨r.hd,by have:=r.dp;show A.depth+1+3*k+5<_;lia,by have:=r.un;show A.units+3+16*k+200<_;lia⟩
def XG{A:jd}:(A.under<|.builtin "type.__call__" ⟨.ref C::us,kw⟩).depth=A.depth+1:=by first|rfl|simp[Around.under,Code.weight,Code.isCreation,Code.isGuard,Code.isCaller,Code.frames,Code.isFrame,guardIds]
def XJ{A:jd}:(A.under<|.builtin "type.__call__" ⟨.ref C::us,kw⟩).units=A.units+1:=by first|rfl|simp[Around.under,Code.cUnits,Code.frames,Code.isFrame]
def iX.make{k}(r:iX (k+1) A)(C us kw):iX k (A.under<|.builtin "type.__call__" ⟨.ref C::us,kw⟩):=
 ⟨r.hd,by have:=r.dp;rw[XG];lia,by have:=r.un;rw[XJ];lia⟩
def iX.depth{k}(r:iX k A):A.depth<recursionLimit:=by have:=r.dp;lia
def iX.units{k}(r:iX k A):A.units+64<cLine:=by have:=r.un;lia
def Gh:TA:=λ_ H Q=>Q [] H
def Oz(d:TE)(c:TA):TA:=λa H Q=>d a H λx f=>c a f λb e=>Q (x::b) e
section
variable{X:Cx}{e:hD}{l:jT}{m:TE}{t:TA}{pos:Pos}
def tE:PA X [] Gh:=λ_ _ _ _ H Q I h=>fk ⟨[],H,I,.nil,h⟩
def tD(p:PE X e m)(o:PA X l t)(n:X.se e l):PA X (e::l) (Oz m t):=by intro pos a s c H Q I h;rw[n];show wpAny _ _ (spliced<|(false,eval e X.env)::backTo pos (starEach l X.env)) _ _ s;refine dW (g6 (p a s c H _ I h) λu f b=>?_);obtain⟨x,w,r,i,k⟩:=b;exact g6 (o pos a f c w _ r k) λy z ⟨d,v,q,g,j⟩=>⟨x::d,v,q,.cons i g,j⟩
def aed(t:TA):TE:=λc H Q=>t c H λa b=>a.length<=sizeLine/\∀p,b p=none->Q (.ref p) (upd b p<|.tup a)
def ad0(t:TA):TE:=λc H Q=>t c H λa b=>a.length<=sizeLine/\∀p,b p=none->Q (.ref p) (upd b p<|.lst a)
def MU{k}(h:PA X l t):PE X (.Tuple l k pos) (aed t):=by intro a s i H Q I o;refine wpAny_Tuple_spliced (g6 (h pos a s i H _ I o) λn c d=>?_);obtain⟨j,g,f,r,z,q⟩:=d;refine⟨by rw[<-r.length];exact z,?_⟩;have hf:g c.heap.objs.size=none:=f.hok.fresh (au _);refine⟨.ref c.heap.objs.size,upd g c.heap.objs.size<|.tup j,f.laid (t':=c.toks) (λb u e=>aj _ e) (au _) ?_,rfl,q _ hf⟩;exact⟨z,n,r,⟨_,aJ _ rfl,rfl,_,rfl⟩⟩
def aaq(h:PA X l t):PE X (.List l pos) (ad0 t):=by intro a s i H Q I n;refine wpAny_List_spliced (g6 (h pos a s i H _ I n) λk c d=>?_);obtain⟨j,g,f,r,z,q⟩:=d;refine⟨by rw[<-r.length];exact z,?_⟩;have hf:g c.heap.objs.size=none:=f.hok.fresh (au _);refine⟨.ref c.heap.objs.size,upd g c.heap.objs.size<|.lst j,f.laid (t':=c.toks) (λb u e=>aj _ e) (au _) ?_,rfl,q _ hf⟩;exact⟨z,k,0,r,aJ _ rfl⟩
abbrev Sp:=gi V->Hp->VK->XK->Prop
abbrev pw:=gi Env->Hp->gQ->XK->iR
structure rr(P:iQ)(w:iK)(K:gF)(mg:iY)(base:gU)(A:jd)(outer:kH)(s:gQ)(H:Hp):Prop where
 frames:A.frames=some outer
 mod:Mod K mg base
 bs:∀b o,base.get? b=some o->s.heap.get? b=some o/\H b=none
 qL:base.objs.size<=s.heap.objs.size
 nV:s.heap.FunFrames base outer
 sU:∀b∈frs outer,H b=none
 hok:jJ P w H s.heap
 bare:AllBare s.gens
def CE(a:kH)(P:iQ)(w:iK)(H:Hp)(s:gQ)(Q:VK)(u:gE)(b:gQ):Prop:=
 ∃v c,b.os=s.os/\AllBare b.gens/\Un (frs a) [] H c s.heap b.heap/\jJ P w c b.heap/\RelV v u/\Q v c
def CR(c:pw)(a:kH)(P:iQ)(w:iK)(H:Hp)(s:gQ)(Q:VK)(E:XK)(r:Result)(b:gQ):Prop:=
 match r with
 |.ok (.ret u)=>CE a P w H s Q u b
 |.ok _=>False
 |.error e=>c a H s E e b
structure j7(P:iQ)(w:iK)(K:gF)(mg:iY)(base:gU)(CX:pw)(k:Nat)(f:gr)(fd:kP)(ps:iH)(sp:Sp):Prop where
 len:∀vs H Q E,sp vs H Q E->vs.length=ps.length
 run:∀A outer s H args us vs Q E,iX k A->rr P w K mg base A outer s H->BindsTo s fd args (ps.zip us)->Vals vs us->sp vs H Q E->
  codeAny (model P w) A (.call (.ref f) args) (CR CX outer P w H s Q E) s
def j7.mono{P}{w}{K}{i}{a}{o}{k}{f}{n}{g}{d}(F:j7 P w K i a o j f n g d)(h:j<=k):
    j7 P w K i a o k f n g d:=⟨F.len,λA b s H c q p Q E r=>F.run A b s H c q p Q E<|r.mono h⟩
def j7.imp{P}{w}{K}{j}{a}{o}{k}{f}{n}{i}{g}(F:j7 P w K j a o k f n i g)
 (h:∀c H Q E,sp' c H Q E->g c H Q E):j7 P w K j a o k f n i sp':=
  ⟨λc H Q E q=>F.len c H Q E<|h _ _ _ _ q,λA b s H d p c Q E v x y r u=>F.run A b s H d p c Q E v x y r<|h _ _ _ _ u⟩
def rr.make{P}{w}{K}{b}{a}{A}{s}{H}(e:rr P w K b a A outer s H)(C)(us)(kw):
    rr P w K b a (A.under<|.builtin "type.__call__" ⟨.ref C::us,kw⟩) outer s H:=⟨by first|exact e.frames|(simpa [Around.under,Code.envs,Code.isFrame,pushEnvs]using e.frames),e.mod,e.bs,e.qL,e.nV,e.sU,e.hok,e.bare⟩
variable{a:jG}{c:St}{H:Hp}{s i:gQ}
def Inv.wM(I:Inv X a c H s):rr X.prog X.w X.K X.mg X.base X.A X.stack s H:=
 ⟨I.ok.frames,I.ok.mod,I.bs,av I.ok.qL I.sz,I.stack,I.Gd,I.hok,I.bare⟩
def Inv.after{u}(I:Inv X a c H s)(h:CE X.stack X.prog X.w H s Q u i):EP X a c Q u i:=by obtain⟨v,o,k,bare,un,j,r,q⟩:=h;obtain⟨n,g,d,t,f⟩:=i;obtain rfl:f=s.os:=k;exact⟨v,o,I.call (h':=n) (g':=g) (d':=d) (t':=t) (ch:=[]) un j bare<|λb z=>absurd z<|by simp,r,q⟩
end
def Oy(d:Sp)(a:gi V)(E:XK)(t:TA):TE:=λb H Q=>t b H λc e=>d (c++a) e Q E
def OA(C:gr)(m:gp)(g:Sp)(b:gi V)(E:XK)(f:TE)(t:TA):TE:=λc H Q=>f c H λx d=>∃a h fs,x=.ref a/\d a=some (.ins C h fs)/\fs.lookup m=none/\
 t c d λe i=>g (x::(e++b)) i Q E
def ad1(C:gr)(f:Sp)(b:gi V)(E:XK)(t:TA):TE:=λd H Q=>t d H λe c=>∀x a,c x=none->c a=none->a≠x->
 f (.ref x::(e++b)) (upd (upd c a<|.own x) x<|.ins C a []) (λv g=>v=.non/\Q (.ref x) g) E
def Binds(K:gF)(c:kP)(a:iH)(b:jP):Prop:=
 ∀(s:gQ) us,K.In s.heap->(us++b).length=a.length->BindsTo s c ⟨us,[]⟩ (a.zip<|us++b)
def Binds.all{K:gF}{d:kP}{b:iH}(h:∀a:gi gE,a.length=b.length->bindArgs d ⟨a,[]⟩=pure (b.zip a)):Binds K d b []:=λs a _ c=>by rw[aP]at c⊢;exact .of_eq (h a c)
def Passes(d:pw)(X:Cx)(E:XK):Prop:=∀a c H s e b,Inv X a c H s->d X.stack H s E e b->X.xe e b
section
variable{X:Cx}{L:pw}{k:Nat}{f C:gr}{J:kP}{z:iH}{B:Sp}{b:gi V}{j:jP}{E:XK}{x m:gp}{p pos i:Pos}{e o:hD}{A:jT}{N:TE}{t:TA}
def FV(F:j7 X.prog X.w X.K X.mg X.base L k f J z B)(l:iX k X.A)(v:Binds X.K J z j)(q:Vals b j)(g:Passes L X E)
 (I:Inv X pins σ H s)(r:Vals vs us)(h:B (vs++b) H Q E):wpAny (model X.prog X.w) X.A (call (.ref f) us) (EP X pins σ Q) X.xe s:=by
  have c:Vals (vs++b) (us++j):=r.append q;have n:(us++j).length=z.length:=by rw[<-c.length];exact F.len _ _ _ _ h
  refine eo (cR (F.run X.A X.stack s H ⟨us,[]⟩ (us++j) (vs++b) Q E l I.wM (v s us I.iN n) c h) λr d a=>?_);cases r with
  |error e=>exact g pins σ H s e d I a
  |ok w=>
   cases w with
   |ret u=>exact I.after a
   |next=>exact False.elim a
   |brk=>exact False.elim a
   |cont=>exact False.elim a
def aag(F:j7 X.prog X.w X.K X.mg X.base L k f J z B)(v:iX k X.A)(D:Gl X x)(w:X.mg x=some (.ref f))(y:W.keepIn X.K (.ref f)=true)(M:Binds X.K J z j)(K:Vals b j)(u:Passes L X E)
 (O:PA X (e::A) t)(g:jl x)(G:X.se e A)(d:X.bk pos A):
   PE X (.Call (.Name x p) (e::A) [] pos) (Oy B b E t):=by
  intro a s n H Q I h;refine cK (qU I D w ?_ g);refine ee (h₀:=X.base) I.ok.mod.qT y (g6 (O pos a s n H _ I h) λR S c=>?_) G d;obtain⟨P,T,l,r,q⟩:=c;refine⟨l.iN,?_⟩;exact FV F v M K u l r q
def aas(U:PE X o N)(c:mS X.K C)(D:Meth X.K C m f)(F:j7 X.prog X.w X.K X.mg X.base L k f J z B)(T:iX k X.A)(Z:Binds X.K J z j)(Y:Vals b j)(R:Passes L X E)(ha:PA X (e::A) t)
 (n:autoParam (X.se e A) aZ0)(v:autoParam (X.bk pos A) aZ0)
 (S:autoParam (eval (.Call (.Attribute o m i) (e::A) [] pos) X.env=(do
 let y<-eval o X.env
 standAt i.atName
 let(f,first)<-holding [y] (getMethod y m pl)
 callWith pos f first (backTo pos (starEach (e::A) X.env)) (backToKw pos (keywordEach [] X.env)))) aZ0):
  PE X (.Call (.Attribute o m i) (e::A) [] pos) (OA C m B b E N t):=by
  intro d s w H Q I h;refine W.methodCall_KW (pl:=pl) (g6 (U d s w H _ I h) λu M g=>?_) S;obtain⟨x,H1,K,O,a,dx,fs,ex,ea,l,q⟩:=g;subst ex;obtain rfl:u=Value.ref a:=O;refine Ky K ea c D l ?_;refine ee (first:=[.ref a]) (h₀:=X.base) I.ok.mod.qT D.kp (g6 (ha pos d M w H1 _ K q) λus s2 g=>?_) n v;obtain⟨vs,H2,G,r,P⟩:=g;refine⟨G.iN,?_⟩;exact FV (us:=.ref a::us) (vs:=.ref a::vs) F T Z Y R G (.cons rfl r) P
def aat(M:PE X o N)(c:mS X.K C)(v:Meth X.K C m f)(F:j7 X.prog X.w X.K X.mg X.base L k f J z B)(K:iX k X.A)(P:Binds X.K J z j)(O:Vals b j)(D:Passes L X E)
 (G:eval (.Call (.Attribute o m i) [] [] pos) X.env=(do
 let r<-eval o X.env
 standAt i.atName
 let(f,first)<-holding [r] (getMethod r m pl)
 callWith pos f first (backTo pos (starEach [] X.env)) (backToKw pos (keywordEach [] X.env)))):
  PE X (.Call (.Attribute o m i) [] [] pos) (OA C m B b E N Gh):=by
  intro d s w H Q I h;refine W.methodCall_KW (pl:=pl) (g6 (M d s w H _ I h) λu S g=>?_) G;obtain⟨x,U,n,y,a,T,fs,ex,R,l,q⟩:=g;subst ex;obtain rfl:u=Value.ref a:=y;refine Ky n R c v l ?_;exact W.callWith_K0 (first:=[.ref a]) n.iN v.kp (FV (us:=[.ref a]) (vs:=[.ref a]) F K P O D n (.cons rfl .nil) q)
structure Mk(K:gF)(C f:gr):Prop where
 makes:W.makesIn K C=true
 init:W.findIn K (.ref C) "__init__"=some (some<|.ref f)
 fn:W.isFn K (.ref f)=true
 kp:W.keepIn K (.ref C)=true
def acQ{Q}(M:Mk X.K C f)(F:j7 X.prog X.w X.K X.mg X.base L k f J z B)(D:iX (k+1) X.A)(O:Binds X.K J z j)(K:Vals b j)
 (y:Passes L X E)(I:Inv X pins σ H s)(r:Vals vs us)
 (h:∀x c,H x=none->H c=none->c≠x->B (.ref x::(vs++b)) (upd (upd H c<|.own x) x<|.ins C c []) (λv S=>v=.non/\Q (.ref x) S) E):
   wpAny (model X.prog X.w) X.A (call (.ref C) us) (EP X pins σ Q) X.xe s:=by
  have l:=h (s.heap.objs.size+1) s.heap.objs.size (I.hok.fresh<|c6 _) (I.hok.fresh<|au _) (aW<|bL _);have d:=Inv.made (C:=C) I;have g:Vals (V.ref (s.heap.objs.size+1)::(vs++b)) (Value.ref (s.heap.objs.size+1)::(us++j)):=.cons rfl (r.append K);have G:(Value.ref (s.heap.objs.size+1)::us++j).length=z.length:=by have e:=g.length;rw[F.len _ _ _ _ l]at e;exact e.symm
  refine eo (XI (f:=f) I.iN M.makes M.init (bK.mp M.fn) (cR (F.run _ X.stack _ _ ⟨Value.ref (s.heap.objs.size+1)::us,[]⟩ (Value.ref (s.heap.objs.size+1)::(us++j)) _ _ E (D.make C us [])
   (d.wM.make C us []) (O _ (Value.ref (s.heap.objs.size+1)::us) d.iN G) g l) λr n a=>?_))
  cases r with
  |error e=>exact y pins σ _ _ e n d a
  |ok P=>
   cases P with
   |ret u=>obtain⟨v,T,R,q,ev,w⟩:=d.after a;subst ev;exact⟨q,⟨V.ref<|s.heap.objs.size+1,T,R,rfl,w⟩⟩
   |next=>exact False.elim a
   |brk=>exact False.elim a
   |cont=>exact False.elim a
def aar(M:Mk X.K C f)(F:j7 X.prog X.w X.K X.mg X.base L k f J z B)(v:iX (k+1) X.A)(y:Gl X x)(w:X.mg x=some (.ref C))(K:Binds X.K J z j)(G:Vals b j)(u:Passes L X E)
 (O:PA X (e::A) t)(g:autoParam (jl x) aZ1)(D:autoParam (X.se e A) aZ0)(d:autoParam (X.bk pos A) aZ0):
   PE X (.Call (.Name x p) (e::A) [] pos) (ad1 C B b E t):=by
  intro a s n H Q I h;refine cK (qU I y w ?_ g);refine ee (h₀:=X.base) I.ok.mod.qT M.kp (g6 (O pos a s n H _ I h) λR S c=>?_) D d;obtain⟨P,T,l,r,q⟩:=c;refine⟨l.iN,?_⟩;exact acQ M F v K G u l r q
end
structure pz(N P:iH)(sc:Scope):Prop where
 kind:sc.kind=.function
 co:sc.isCoroutine=false
 gen:sc.isGenerator=false
 nd:N.Nodup
 pre:N.take P.length=P
 par:∀x∈P,sc.names.lookup x=some .local\/sc.names.lookup x=some .cell
 Ym:∀y∈sc.names,y.2≠.free
theorem IH{a}{x}:∀{binds:gi<|gp×gE} {m:iY},(∀v,(x,v)∉binds)->bindL a binds m x=m x
 |[],_,_=>rfl
 |(n,v)::r,m,h=>by
  unfold bindL;rw[IH λw b=>h w<|aQ _ b];split
  ·have:x≠n:=by rintro rfl;exact h v bf
   simp[this]
  ·rfl
theorem IF{a}{x}:∀{binds:gi<|gp×gE} {m:iY},(∀v,(x,v)∉binds)->bindC a binds m x=m x
 |[],_,_=>rfl
 |(n,v)::r,m,h=>by
  unfold bindC;rw[IF λw b=>h w<|aQ _ b];split;·rfl
  ·have:x≠n:=by rintro rfl;exact h v bf
   simp[this]
theorem IG{a:gp->gH NameKind}{x:gp}{v:gE}:∀{P:iH} {b:jP} {i:Nat} {m:iY},P.Nodup->P[i]?=some x->b[i]?=some v->a x=some .local->
 bindL a (P.zip b) m x=some v
 |[],_,_,_,_,h,_,_=>by simp at h
 |_::_,[],_,_,_,_,h,_=>by simp at h
 |p::P,w::b,0,m,e,d,c,f=>by simp at d c;subst d;subst c;show bindL a ((p,w)::P.zip b) m p=_;unfold bindL;rw[IH λv g=>(dO.mp e).1 (eF g).1,af f];simp
 |p::P,w::b,i+1,m,e,d,c,f=>by show bindL a ((p,w)::P.zip b) m x=_;unfold bindL;exact IG (i:=i) (dO.mp e).2 (by simpa using d) (by simpa using c) f
theorem IE{a:gp->gH NameKind}{x:gp}{v:gE}:∀{P:iH} {b:jP} {i:Nat} {m:iY},P.Nodup->P[i]?=some x->b[i]?=some v->a x≠some .local->
 bindC a (P.zip b) m x=some v
 |[],_,_,_,_,h,_,_=>by simp at h
 |_::_,[],_,_,_,_,h,_=>by simp at h
 |p::P,w::b,0,m,e,d,c,f=>by simp at d c;subst d;subst c;show bindC a ((p,w)::P.zip b) m p=_;unfold bindC;rw[IF λv g=>(dO.mp e).1 (eF g).1,ao f];simp
 |p::P,w::b,i+1,m,e,d,c,f=>by show bindC a ((p,w)::P.zip b) m x=_;unfold bindC;exact IE (i:=i) (dO.mp e).2 (by simpa using d) (by simpa using c) f
def start(N:iH)(a:gi V):St:=a.map some++List.replicate (N.length - a.length) none
def iL(g:pw)(P:iQ)(w:iK)(K:gF)(mg:iY)(base:gU)(N:iH)(b:gp)(a:Scope)(f:gr)(d:gE)(A:jd)(outer:kH)(s:gQ)(H:Hp)(E:XK):Cx where
 prog:=P
 w:=w
 K:=K
 mg:=mg
 base:=base
 A:=A.deeper (envOfC b a s.heap.objs.size f d)
 N:=N
 s₀:=s
 H₀:=H
 env:=envOfC b a s.heap.objs.size f d
 outer:=outer
 stack:=envOfC b a s.heap.objs.size f d::outer
 ex:=[]
 calm:=true
 fn:=λ_=>true
 pn:=[]
 xe:=λe h=>wpAny (model P w) (A.deeper<|envOfC b a s.heap.objs.size f d) (leaving (envOfC b a s.heap.objs.size f d) e) (λ_ c=>g outer H s E e c) (λi c=>g outer H s E i c) h
def Jm{a:Scope}{n}(h:a.names.lookup x=some .cell):∃c,(cellsFrom n a.names []).lookup x=some c:=by have q:=fB a.names n [] (.inl h);exact fx.mp q
def Lk{U:pw}{P:iQ}{w:iK}{K:gF}{O:iY}{m:gU}{N B:iH}{j:gp}{d:Scope}{f:gr}{L:gE}{A:jd}{g:kH}{s Q:gQ}{H:Hp}{E:XK}{M:jP}{t:gi V}
    (S:pz N B d)(Z:A.handled=none)(o:rr P w K O m A g s H)(hl:t.length=B.length)(r:Vals t M)
    (x:InCallC s s.heap.objs.size (bindL (envOfC j d s.heap.objs.size f L).kindOf (B.zip M) λ_=>none) (cellsFrom (s.heap.objs.size+1) d.names []) (bindC (envOfC j d s.heap.objs.size f L).kindOf (B.zip M) λ_=>none) Q):
    Inv (iL U P w K O m N j d f L A g s H E) [] (start N t) H Q:=by
 have Y:B.length<=N.length:=by have:=aI List.length S.pre;rw[cX]at this;lia
 obtain⟨J,tk,rfl,T⟩:=x.done;have C:∀b:gr,b∉(iL U P w K O m N j d f L A g s H E).ex:=λb z=>absurd (show b∈([]:gi gr)from z) (by simp)
 refine⟨⟨o.mod,S.kind,rfl,rfl,au _,λy z c J l=>?_,λy D=>?_,λy c _ h=>?_,λ_=>Z,Around.frames_deeper o.frames,.inr ⟨rfl,rfl⟩,λb z=>absurd z (C b),o.bs,o.qL,λb _ _=>C b,λb z=>absurd z (C b),o.nV,o.sU⟩,
  rfl,o.bare,Un.kept T,⟨_,x.toInCall.ns,λi y v J l h3=>?_⟩,λy c h=>⟨_,x.cell y c h⟩,o.hok.fresh (au _),λy c h=>?_,λp G=>absurd (show p∈([]:gi (gr×kQ))from G) (by simp),o.hok.kept T,?_⟩
 ·exact name_of_addr x.apart (bN J) (bN l)
 ·have D:d.names.lookup y=some .cell\/d.names.lookup y=some .free:=D;rcases D with D|D;·exact Jm D
  ·exact absurd rfl (S.Ym _<|bN D)
 ·exact f6 (x.above y c<|bN h)
 ·have I:i<t.length:=by
   unfold start at l;by_cases I:i<t.length;·exact I
   ·rw[bh<|by simpa using I]at l;rw[bM]at l;split at l<;>cases l
  have ha:t[i]?=some v:=by
   unfold start at l;rw[aX<|by simpa using I,aN]at l;cases e:t[i]? with
   |none=>rw[e]at l;cases l
   |some a=>rw[e]at l;cases l;rfl
  obtain⟨u,R,X⟩:=r.get ha;have G:B[i]?=some y:=by rw[<-S.pre,List.getElem?_take_of_lt<|by simp_all];exact J
  have F:B.Nodup:=by rw[<-S.pre];exact S.nd.sublist (List.take_sublist _ _)
  refine⟨u,X,?_⟩;rcases S.par y (eB G)with k|k;·exact .inl ⟨k,IG F G R k⟩
  ·obtain⟨c,e⟩:=Jm (n:=s.heap.objs.size+1) k;refine .inr ⟨.inl k,c,e,?_⟩;have q:=x.cell y c e;rw[IE F G R (by show d.names.lookup y≠_;rw[k];decide)]at q;exact q
 ·exact o.hok.fresh (f6<|x.above y c<|bN h)
 ·unfold start;show _=N.length;rw[aa,ae,bG];simp_all
def C9{w}{K}{k dV kV}
 {m}(O:K.lookup f=some ⟨oc,od,.func<|W.fnOf name qual params body scope dV kV doc pm an cdv ct,osl⟩)(D:W.codeIn K cdv qual=true)(S:pz N ps scope)
 (len:∀c H Q E,m c H Q E->c.length=ps.length)
 (h:∀(A:jd) outer (s:gQ) H c Q E,iX k (A.deeper (envOfC qual scope s.heap.objs.size f cdv))->m c H Q E->
 ∃t,md (iL CX P w K mg base N qual scope f cdv A outer s H E) body t/\t {nx:=λ_ d=>Q .non d,rt:=Q} (start N c) H):
   j7 P w K mg base CX (k+1) f (W.fnOf name qual params body scope dV kV doc pm an cdv ct) ps m:=by
  refine⟨len,λA outer s H G M c Q E C l Z r j=>?_⟩;have X:=len _ _ _ _ j;have L:K.In s.heap:=l.mod.qT.keeps λb o e=>(l.bs b o e).1;have B:s.heap.NoLimit:=l.mod.nolimit.keeps λb o e=>(l.bs b o e).1;have g:∀y∈ps.zip M,scope.names.lookup y.1=some .local\/(scope.names.lookup y.1=some .cell/\((cellsFrom (s.heap.objs.size+1) scope.names []).lookup y.1).isSome=true):=λ⟨n,v⟩ R=>by
   rcases S.par n (eF R).1 with q|q;·exact .inl q
   ·exact .inr ⟨q,fB _ _ _<|.inl q⟩
  refine codeAny_call_function C.depth (L _ _ O) rfl S.co S.gen rfl (W.codeRec_of L D) (Z _ _ _ _ ?_);refine eT S.kind g λenv Y F x=>?_;subst Y;refine⟨B.keeps x.toInCall.keep,codeAny_func ?_⟩;obtain⟨t,T,U⟩:=h A outer s H c Q E (C.deeper _) j;have I:Inv (iL CX P w K mg base N qual scope f cdv A outer s H E) [] (start N c) H F:=Lk S C.hd l X r x;refine aK (T [] F (start N c) H _ I U) (λfl p i=>?_) λe p i=>i
  have fin:∀{a:St} {d:Hp} {v:V} {u:gE},Inv (iL CX P w K mg base N qual scope f cdv A outer s H E) [] a d p->RelV v u->Q v d->CE outer P w H s Q u p:=
   λ{a d v u} J z q=>⟨v,d,J.os,J.bare,J.base,J.hok,z,q⟩
  cases fl with
  |ret u=>obtain⟨v,a,d,J,z,q⟩:=i;exact fin J z q
  |next=>obtain⟨a,d,J,q⟩:=i;exact fin (v:=V.non) (u:=Value.none) J rfl q
  |brk=>obtain⟨_,_,_,q⟩:=i;exact False.elim q
  |cont=>obtain⟨_,_,_,q⟩:=i;exact False.elim q
variable{X:Cx}{x:gp}{p pos:Pos}{e:hD}{Y:jT}{t:TA}{id T:String}{r:gi V->Hp->VK->Prop}
def Ox(r:gi V->Hp->VK->Prop)(t:TA):TE:=λa H Q=>t a H λb c=>r b c Q
def Fd(u:lu X (.builtin id) r)(o:Gl X x)(n:X.mg x=none)(l:bootBuiltins x=some (.builtin id))(v:PA X (e::Y) t)(m:x≠"__name__")(c:jl x)
 (q:X.se e Y)(b:X.bk pos Y):PE X (.Call (.Name x p) (e::Y) [] pos) (Ox r t):=by intro a s d H Q I h;refine cK (xg I o n l ?_ m c);exact PyProof.Rows.callWith_builtin1 (g6 (v pos a s d H _ I h) λg i ⟨f,y,w,j,k⟩=>u a i d y f g Q w j k) q b
def aah(u:lu X (.type T) r)(o:Gl X x)(n:X.mg x=none)(l:bootBuiltins x=some (.type T))(v:PA X (e::Y) t)(m:x≠"__name__")(c:jl x)
 (q:X.se e Y)(b:X.bk pos Y):PE X (.Call (.Name x p) (e::Y) [] pos) (Ox r t):=by intro a s d H Q I h;refine cK (xg I o n l ?_ m c);exact eM (g6 (v pos a s d H _ I h) λg i ⟨f,y,w,j,k⟩=>u a i d y f g Q w j k) q b
end L2
namespace HT
open PySem PyProof.Rows
variable{a:iQ}{w:iK}{A:jd}{E:iR}{s:gQ}
def iG(n d:Nat):gH Int->Nat
 |none=>d
 |some v=>if v<0 then(v+(n:Int)).toNat else min v.toNat n
def N3(n d):iG n d none=d:=rfl
def AF(n d k:Nat):iG n d (some (k:Int))=min k n:=by show(if(k:Int)<0 then((k:Int)+(n:Int)).toNat else min (k:Int).toNat n)=min k n;rw[ao<|by simp,Int.toNat_natCast]
def acV(n d)(c:d<=n)(o):iG n d o<=n:=by
 cases o with
 |none=>exact c
 |some v=>
  show(if v<0 then(v+(n:Int)).toNat else min v.toNat n)<=n;by_cases b:v<0;·rw[af b];lia
  ·rw[ao b];exact Nat.min_le_right _ _
def Jp(v)(n d:Nat):(if v<0 then max (v+(n:Int)) 0 else min v (n:Int))=((iG n d<|some v:Nat):Int):=by
 show(if v<0 then max (v+(n:Int)) 0 else min v (n:Int))=(((if v<0 then(v+(n:Int)).toNat else min v.toNat n):Nat):Int);by_cases b:v<0;·simp only[af b];simp
 ·simp only[ao b];grind
abbrev _root_.sP:=gH Int
def P8(b c:sP)(n:Nat):Builtin.Slice.sliceAdjust b c 1 (n:Int)=(((iG n 0 b:Nat):Int),((iG n n c:Nat):Int)):=by
 have d:¬((1:Int)<0):=by simp
 unfold Builtin.Slice.sliceAdjust;simp only[d,cL];refine Prod.ext ?_ ?_
 ·cases b with
  |none=>rfl
  |some v=>exact Jp v n 0
 ·cases c with
  |none=>rfl
  |some v=>exact Jp v n n
def aaO(i j:Nat):Builtin.Slice.slicePlaces (i:Int) (j:Int) 1=j - i:=by
 unfold Builtin.Slice.slicePlaces;have b:(1:Int)>0:=by simp
 simp only[b,b8,Int.ediv_one];split<;>simp_all
def Oe{o}{Q:gH Int->gQ->Prop}(p:IsPart v o)(h:Q o s):wpAny (model a w) A (Builtin.Slice.slicePartIndex v) Q E s:=by
 cases p with
 |none=>exact slicePart_none h
 |int i t=>exact slicePart_int h
def ads{i:gr}{g f:gE}{b d:sP}{n:Nat}{Q:Int×Int×Nat->gQ->Prop}(l:s.heap.IsSliceOf i g f .none)(k:IsPart g b)(j:IsPart f d)
    (h:Q (((iG n 0 b:Nat):Int),1,iG n n d - iG n 0 b) s):wpAny (model a w) A (Builtin.Slice.sliceApplied (.ref i)<|pure (n:Int)) Q E s:=by
 obtain⟨o,c,m,e⟩:=id l;unfold Builtin.Slice.sliceApplied Builtin.Slice.sliceFields;refine ah (ah<|cG c e (x:=g) rfl<|ah<|cG c e (x:=f) rfl<|ah<|cG c e (x:=.none) rfl<|aE ?_);refine ah (slicePart_none ?_);show wpAny _ _ (if((1:Int)==0)=true then _ else _) _ _ s;rw[ao<|by decide];refine ah (Oe k<|ah<|Oe j<|ah<|aE ?_);show wpAny _ _ (match Builtin.Slice.sliceAdjust b d 1 (n:Int)with|(b,d)=>pure (b,(1:Int),Builtin.Slice.slicePlaces b d 1)) _ _ s;rw[P8 b d n];show wpAny _ _ (pure (((iG n 0 b:Nat):Int),(1:Int),Builtin.Slice.slicePlaces ((iG n 0 b:Nat):Int) ((iG n n d:Nat):Int) 1)) _ _ s;rw[aaO];exact aE h
def aaK(b:qI)(i k:Nat):((List.range k).filterMap λ(m:Nat)=>b[((i:Int)+(m:Int)*1).toNat]?).toArray=((b.toList.drop i).take k).toArray:=by
 have e:(λ(m:Nat)=>b[((i:Int)+(m:Int)*1).toNat]?)=λm=>b[i+m]?:=by
  funext m;have:((i:Int)+(m:Int)*1).toNat=i+m:=by walk_at "l"
  rw[this]
 rw[e];have:=pick_run b i k;rw[List.filterMap_map]at this;have c:((λx=>b[x]?)∘λx=>i+x)=λm=>b[i+m]?:=rfl;rw[c]at this;rw[this]
def Uc{t g:gr}{b:qI}{o n:gE}{d e:sP}{Q:iR}(f:IsTup s.heap t b)(p:s.heap.IsSliceOf g o n .none)(u:IsPart o d)(r:IsPart n e)
    (x:¬(iG b.size 0 d=0/\iG b.size b.size e=b.size))
    (h:Q (.ref s.heap.objs.size) {s with heap:=s.heap.push {cls:=.type "tuple",data:=.seq ((b.toList.drop<|iG b.size 0 d).take (iG b.size b.size e - iG b.size 0 d)).toArray}})
    (y:b.size<=sizeLine):wpAny (model a w) A (getItem (.ref t)<|.ref g) Q E s:=by
 have c:sizeOk (.seq ((b.toList.drop<|iG b.size 0 d).take (iG b.size b.size e - iG b.size 0 d)).toArray):=by show((b.toList.drop<|iG b.size 0 d).take (iG b.size b.size e - iG b.size 0 d)).toArray.size<=sizeLine;rw[aM,cX,dF,eJ];omega
 have D:iG b.size b.size e<=b.size:=acV _ _ (au _) e;obtain⟨v,i,k,z⟩:=id p;have l:s.TypeIs (.ref g) "slice":=⟨v,i,k⟩;unfold getItem;try with_reducible refine df ?_
 first|refine ah (aE ?_)|skip
 refine ah (wpAny_sequenceKey f.typeIs (by decide) ?_)
 refine ah (wpAny_callSpecial?_slot (name:=Str.ofString "__getitem__") f.typeIs ej
  (wpAny_call_entry ej f.typeIs entry_tuple_getitem ?_ (args_tuple_getitem _ _)))
 show wpAny _ _ (Builtin.Tuple.tupleItemsOf (.ref t)>>=_) _ _ s;refine ah (tupleItemsOf_ f ?_);refine ah (wpAny_typeOf l ?_);rw[af<|by decide];refine ah (ads p u r ?_);have j:¬((((iG b.size 0 d:Nat):Int)==0&&(1:Int)==1&&(iG b.size b.size e - iG b.size 0 d)==b.size)=true):=by intro q;rw[aq,aq]at q;have C:((iG b.size 0 d:Nat):Int)=0:=eq_of_beq q.1.1;have B:iG b.size b.size e - iG b.size 0 d=b.size:=eq_of_beq q.2;exact x ⟨by simp_all,by simp_all⟩
 show wpAny _ _ (if(((iG b.size 0 d:Nat):Int)==0&&(1:Int)==1&&(iG b.size b.size e - iG b.size 0 d)==b.size)=true then _ else _) _ _ s;rw[ao j,aaK]
 first
  |exact ah (m:=Builtin.Tuple.tupleExact _) (cS (aE ⟨_,rfl,aE h⟩) c)
  |exact ah (m:=Builtin.Tuple.tupleExact _) (cS (ah<|aE<|aE ⟨_,rfl,aE h⟩) c)
  |exact ah (ah (m:=Builtin.Tuple.tupleExact _)<|cS (aE<|aE ⟨_,rfl,aE h⟩) c)
  |exact ah (ah (m:=Builtin.Tuple.tupleExact _)<|cS (aE ⟨_,rfl,aE h⟩) c)
end HT
namespace L2
open PySem PySem.Spec PyProof.Rows
abbrev TO:=St->Hp->(gH Int->Hp->Prop)->Prop
def PO(X:Cx)(e:gH hD)(t:TO):Prop:=
 ∀a s b H Q,Inv X a b H s->t b H Q->
  wpAny (model X.prog X.w) X.A (evalPart e X.env) (λu d=>∃o c,Inv X a b c d/\IsPart u o/\Q o c) X.xe s
def ad3:TO:=λ_ H Q=>Q none H
def ad7(t:TE):TO:=λa H Q=>t a H λx b=>∃i,x=.int i/\Q (some i) b
section
variable{X:Cx}{e:hD}{j:TE}{c f:gH hD}{m z:TO}{pos A:Pos}
def aaR:PO X none ad3:=by intro a s b H Q I h;rw[evalPart_none];exact aE ⟨none,H,I,.none,h⟩
def aaS(h:PE X e j):PO X (some e) (ad7 j):=by intro a s d H Q I l;rw[evalPart_some];refine g6 (h a s d H _ I l) λu p b=>?_;obtain⟨x,o,n,g,k⟩:=b;obtain⟨i,rfl,q⟩:=k;obtain⟨t,rfl⟩:=g;exact⟨some i,o,n,.int i t,q⟩
def qG(X:Cx)(r:V->gH Int->gH Int->Hp->VK->Prop):Prop:=
 ∀a s b H x v g d c f h Q,Inv X a b H s->RelV x v->s.heap.IsSliceOf h g d .none->IsPart g c->IsPart d f->r x c f H Q->
  ∃T i,typeLookup (.type T) "__getitem__"=pure (some<|.builtin i)/\s.TypeIs v T/\wpAny (model X.prog X.w) X.A (getItem v<|.ref h) (EP X a b Q) X.xe s
def qG.or{r l:V->gH Int->gH Int->Hp->VK->Prop}(h:qG X r)(t:qG X l):qG X (λx c f H Q=>r x c f H Q\/l x c f H Q):=by
 intro a s b H x v g d c f i Q I k p o n q;rcases q with q|q;·exact h a s b H x v g d c f i Q I k p o n q
 ·exact t a s b H x v g d c f i Q I k p o n q
def tSl(r:V->gH Int->gH Int->Hp->VK->Prop)(j:TE)(m z:TO):TE:=λa H Q=>j a H λx g=>m a g λl d=>z a d λu b=>r x l u b Q
def aay(J:qG X r)(M:PE X e j)(K:PO X c m)(F:PO X f z):PE X (.Subscript e (.Slice c f none A) pos) (tSl r j m z):=by intro a s i H Q I h;refine Subscript_ (g6 (M a s i H _ I h) λv t d=>?_);obtain⟨x,U,R,w,C⟩:=d;refine wpAny_Slice (g6 (K a t i U _ R C) λn p d=>?_);obtain⟨l,S,P,E,B⟩:=d;refine g6 (F a p i S _ P B) λk g d=>?_;obtain⟨u,o,O,D,y⟩:=d;rw[evalPart_none];refine aE ?_;have N:Inv X a i o {g with heap:=g.heap.push {cls:=.type "slice",data:=.fields #[n,k,.none]}}:=O.kept (t':=g.toks) λb ob q=>aj _ q;obtain⟨T,V,hT,G,L⟩:=J a {g with heap:=g.heap.push {cls:=.type "slice",data:=.fields #[n,k,.none]}} i o x v n k l u g.heap.objs.size Q N w (Heap.IsSliceOf.new ..) E D y;show wpAny (model X.prog X.w) X.A (subscriptTail e (.Slice c f none A) v<|.ref g.heap.objs.size) (EP X a i Q) X.xe {g with heap:=g.heap.push {cls:=.type "slice",data:=.fields #[n,k,.none]}};exact tail_any (ops:=[.ref g.heap.objs.size,v]) G hT L (by with_unfolding_all rfl)
def rK(a:gi V)(c f:sP):gi V:=(a.drop<|HT.iG a.length 0 c).take (HT.iG a.length a.length f - HT.iG a.length 0 c)
def Jv(xs c f):(rK xs c f).length<=xs.length:=by
 unfold rK;rw[cX,dF]
 lia
def acm(K:gF):V->gH Int->gH Int->Hp->VK->Prop:=λx c f H Q=>∃a b,x=.ref a/\mf K H a b/\
 ¬(HT.iG b.length 0 c=0/\HT.iG b.length b.length f=b.length)/\∀p,H p=none->Q (.ref p) (upd H p<|.tup<|rK b c f)
def adq:qG X (acm X.K):=by
 intro k s C H x v E D c f F Q I p B u t h;obtain⟨a,g,rfl,w,y,q⟩:=h;cases p;obtain⟨i,r,n,l⟩:=I.tuple w;have d:i.toArray.size=g.length:=by rw[aM];exact r.length.symm
 refine⟨"tuple",_,PyProof.Rows.slot_tuple_getitem.lookup,n.typeIs,?_⟩;refine HT.Uc n B u t (by rw[d];exact y) ?_ (by rw[d];exact l);rw[d];refine⟨.ref s.heap.objs.size,_,I.laid (t':=s.toks) (o:=.tup<|rK g c f) (λb ob q=>aj _ q) (au _) ?_,rfl,q _<|I.hok.fresh<|au _⟩;exact⟨av (Jv g c f) l,_,(r.drop<|HT.iG g.length 0 c).take (HT.iG g.length g.length f - HT.iG g.length 0 c),IsTup.new _ _⟩
end
noncomputable def qR(n:Nat)(i:Int):gH Nat:=if 0<=i then(if i<n then some i.toNat else none)else if -(n:Int)<=i then some (i+n).toNat else none
def hI{a:Type}(b:gi a)(i:Int):gH a:=(qR b.length i).bind λj=>b[j]?
def Wi{n}(h:qR n i=some j):seqIndex? i n=some j/\j<n/\ -(n:Int)<=i/\i<n:=by
 unfold qR at h;by_cases b:0<=i
 ·rw[af b]at h;by_cases a:i<n
  ·rw[af a]at h;have e:i.toNat=j:=Option.some.inj h;exact⟨by rw[seqIndex_of b a,e],by lia,by lia,a⟩
  ·rw[ao a]at h;cases h
 ·rw[ao b]at h;by_cases a: -(n:Int)<=i
  ·rw[af a]at h;have e:(i+n).toNat=j:=Option.some.inj h;exact⟨by rw[seqIndex_neg (by simp_all) a,e],by lia,a,by lia⟩
  ·rw[ao a]at h;cases h
def B7{a}{v:α}(h:hI a i=some v):∃j,seqIndex? i a.length=some j/\a[j]?=some v/\j<a.length/\ -(a.length:Int)<=i/\i<a.length:=by
 unfold hI at h;cases e:qR a.length i with
 |none=>rw[e]at h;cases h
 |some j=>rw[e]at h;obtain⟨f,d,c,b⟩:=Wi e;exact⟨j,f,h,d,c,b⟩
def ud{a}{j:Nat}{v:α}(h:a[j]?=some v):hI a (j:Int)=some v:=by
 have b:j<a.length:=(aD.mp h).1;have e:qR a.length (j:Int)=some j:=by unfold qR;rw[af<|by simp,af<|by simp_all];simp
 unfold hI;rw[e];exact h
def BG(b:hD):Prop:=∀o i,subscripted b false o i=operate [o,i] (getItem o i)
def qa(X:Cx)(r:R2):Prop:=
 ∀(b a:hD) (pins:jG) (s:gQ) (σ:St) (H:Hp) (x y:V) (v u:gE) (Q:VK),Inv X pins σ H s->RelV x v->RelV y u->r x y H Q->
  subscripted a false v u=operate [v,u] (getItem v u)->wpAny (model X.prog X.w) X.A (subscriptTail b a v u) (EP X pins σ Q) X.xe s
def sI(X:Cx)(e:String)(r:V->gi V->Hp->VK->Prop):Prop:=
 ∀a s b H x c v d Q,Inv X a b H s->RelV x v->Vals c d->r x c H Q->
  wpAny (model X.prog X.w) X.A (call (.builtin e)<|v::d) (EP X a b Q) X.xe s
variable{X:Cx}{a b:hD}{ta tb:TE}{pos:Pos}
def qa.or{r j:R2}(h:qa X r)(l:qa X j):qa X (λx y H Q=>r x y H Q\/j x y H Q):=by
 intro c d e s f H x y v u Q I i g q k;rcases q with q|q;·exact h c d e s f H x y v u Q I i g q k
 ·exact l c d e s f H x y v u Q I i g q k
def MR(j:qa X r)(l:PE X a ta)(k:PE X b tb)(i:BG b):PE X (.Subscript a b pos) (AM r ta tb):=by intro c s d H Q I h;exact Subscript_ (Cf l k I h λv u e x y n m g f q=>j a b c e d n x y v u Q m g f q<|i _ _)
def ND(K:gF):R2:=λx y H Q=>∃p c i v,x=.ref p/\y=.int i/\kl K H p c/\hI c i=some v/\Q v H
def NG(K:gF):R2:=λx y H Q=>∃p c i v,x=.ref p/\y=.int i/\mf K H p c/\hI c i=some v/\Q v H
def NF:R2:=λx y H Q=>∃z i c,x=.str z/\y=.int i/\z.length<=sizeLine/\hI z.cps.toList i=some c/\Q (.str ⟨#[c]⟩) H
def Wj:qa X (ND X.K):=by
 intro e f c s n H x y v u Q I E D h o;obtain⟨p,N,i,z,rfl,rfl,F,J,q⟩:=h;cases E;obtain⟨t,rfl⟩:=D;obtain⟨l,r,k,O⟩:=I.list F;obtain⟨j,d,M,R,L,K⟩:=B7 J;obtain⟨w,B,g⟩:=r.get M;have G:=r.length;have P:=u0;have fin:EP X c n Q w s:=⟨z,H,I,g,q⟩;by_cases A:0<=i
 ·have m:i.toNat=j:=by
   rw[seqIndex_of A K]at d;exact Option.some.inj d
  exact item_listR k.isList A (by lia) (by rw[m];simpa using B) fin o
 ·have m:(i+(l.toArray.size:Int)).toNat=j:=by
   rw[seqIndex_neg (by simp_all) L]at d;rw[aM,<-G];exact Option.some.inj d
  exact subscriptTail_builtinR (x:=w) k.isList.typeIs slot_list_getitem.lookup
   (wpAny_getItem_list_neg (Q:=λr C=>r=w/\EP X c n Q r C) k.isList (by simp_all) (by rw[aM]<;>simp_all) (by lia) (by rw[m];simpa using B) ⟨rfl,fin⟩) o
def Wn:qa X (NG X.K):=by
 intro d e c s g H x y v u Q I n m h A;obtain⟨p,J,i,z,rfl,rfl,B,D,q⟩:=h;cases n;obtain⟨t,rfl⟩:=m;obtain⟨o,r,k,K⟩:=I.tuple B;obtain⟨j,F,E,O,N,M⟩:=B7 D;obtain⟨w,G,f⟩:=r.get E;have C:=r.length;have L:=u0;have fin:EP X c g Q w s:=⟨z,H,I,f,q⟩
 exact subscriptTail_builtinR (x:=w) k.typeIs slot_tuple_getitem.lookup
  (getItem_tuple (j:=j) (Q:=λr l=>r=w/\EP X c g Q r l) k (by lia) (by lia) (by rw[aM,<-C];exact F) (by simpa using G) ⟨rfl,fin⟩) A
def Wm:qa X NF:=by
 intro d e f s C H x y v u Q I l k h m;obtain⟨z,i,c,rfl,rfl,E,o,q⟩:=h;obtain⟨t,rfl⟩:=l;obtain⟨D,rfl⟩:=k;obtain⟨j,g,w,G,r,p⟩:=B7 o;have n:z.cps.toList.length=z.length:=by simp[Str.length]
 rw[n]at g r p;have F:=u0;exact tail_any (et s z t) slot_str_getitem.lookup (getItem_str (c:=c) (by have B:decide (i< -(2^63:Int))=false:=az (by lia);have A:decide (i≥2^63)=false:=az (by lia);rw[B,A,dh]) (by rw[g];simpa using w) ⟨.str ⟨#[c]⟩,H,I.tok _,⟨_,rfl⟩,q⟩) m
def rIx(K:gF):R2:=λx y H Q=>ND K x y H Q\/NG K x y H Q\/NF x y H Q
def Wl:qa X (rIx X.K):=Wj.or (Wn.or Wm)
def adu(lo hi n):(sliceBounds lo hi none n).1=((HT.iG n 0 lo:Nat):Int)/\(sliceBounds lo hi none n).2.1=((HT.iG n n hi:Nat):Int)/\(sliceBounds lo hi none n).2.2=1:=by
 refine⟨?_,?_,rfl⟩
 ·cases lo with
  |none=>simp[sliceBounds,HT.iG]
  |some i=>
   simp only[sliceBounds,HT.iG,Option.getD_none,show(1:Int)>0 by decide,b8];by_cases h:i<0;·simp only[h,b8]<;>grind
   ·simp only[h,cL]<;>grind
 ·cases hi with
  |none=>simp[sliceBounds,HT.iG]
  |some i=>
   simp only[sliceBounds,HT.iG,Option.getD_none,show(1:Int)>0 by decide,b8];by_cases h:i<0;·simp only[h,b8]<;>grind
   ·simp only[h,cL]<;>grind
def adt(c:jP)(lo hi):slicePick c.toArray lo hi none=((c.drop (HT.iG c.length 0 lo)).take (HT.iG c.length c.length hi - HT.iG c.length 0 lo)).toArray:=by obtain⟨f,e,d⟩:=adu lo hi c.toArray.size;unfold slicePick;rw[f,e,d];simp only[sliceRange_one,pick_run,aM]<;>rfl
def acj(K:gF):V->gH Int->gH Int->Hp->VK->Prop:=λx d e H Q=>∃a c,x=.ref a/\kl K H a c/\∀p,H p=none->Q (.ref p) (upd H p<|.lst<|rK c d e)
def ado:qG X (acj X.K):=by intro g s u H x v y w e f z Q I j t l k h;obtain⟨a,c,rfl,p,q⟩:=h;cases j;obtain⟨m,r,i,n⟩:=I.list p;have d:=r.length;refine⟨"list",_,slot_list_getitem.lookup,i.isList.typeIs,?_⟩;refine wpAny_getItem_list_slice i.isList t l k .none (by simp) ?_ (by rw[aM]<;>simp_all);rw[adt,<-d];refine⟨.ref s.heap.objs.size,_,I.laid (t':=s.toks) (o:=.lst<|rK c e f) (λb ob q=>aj _ q) (au _) ?_,rfl,q _<|I.hok.fresh<|au _⟩;exact⟨av (Jv c e f) n,_,0,(r.drop<|HT.iG c.length 0 e).take (HT.iG c.length c.length f - HT.iG c.length 0 e),aJ _ rfl⟩
def Jd:lu X (.builtin "len") (λj H Q=>∃p d,j=[.ref p]/\(kl X.K H p d\/mf X.K H p d)/\Q (.int d.length) H):=by
 intro k s n H j o Q I r h;obtain⟨p,d,rfl,e,q⟩:=h;obtain⟨u,rfl,l⟩:=vals1 r;cases l;have t:=u0;rcases e with e|e
 ·obtain⟨i,f,g,m⟩:=I.list e;have c:=f.length;exact Calls.call_len_list g.isList (by simp only[aM]<;>omega) ⟨.int d.length,H,I.tok _,⟨s.toks+1,by rw[aM,c]⟩,q⟩
 ·obtain⟨i,f,g,m⟩:=I.tuple e;have c:=f.length;exact len_tuple g (by simp only[aM]<;>omega) ⟨.int d.length,H,I.tok _,⟨s.toks+1,by rw[aM,c]⟩,q⟩
def QO:lu X (.builtin "len") (λc H Q=>∃z,c=[.str z]/\z.length<=sizeLine/\Q (.int z.length) H):=by intro d s e H c f Q I r h;obtain⟨z,rfl,g,q⟩:=h;obtain⟨u,rfl,t,rfl⟩:=vals1 r;have i:=u0;exact len_str (by lia) ⟨.int z.length,H,I.tok _,⟨_,rfl⟩,q⟩
def lu.or{f:gE}{r i:gi V->Hp->VK->Prop}(h:lu X f r)(j:lu X f i):lu X f (λd H Q=>r d H Q\/i d H Q):=by
 intro c s e H d g Q I rs q;rcases q with q|q;·exact h c s e H d g Q I rs q
 ·exact j c s e H d g Q I rs q
def yf(K:gF)(T:String)(x:V)(H:Hp):Prop:=match x with
 |.str _=>T="str"
 |.int _=>T="int"
 |.ref p=>(T="list"/\∃d,kl K H p d)\/(T="tuple"/\∃o,K.lookup p=some o/\o.cls=.type "tuple"/\o.dict=none)\/
   (T="dict"/\((∃c,H p=some (.dK c))\/∃c,H p=some (.dT c)))\/(T="set"/\∃S n,H p=some (.set S n))
 |_=>False
def Gu(I:Inv X pins σ H s)(r:RelV x v)(ty:yf X.K T x H):
    s.TypeIs v T/\∀a,v=.ref a->∃ob,s.heap.get? a=some ob/\ob.dict=none:=by
 cases x with
 |str z=>obtain⟨t,rfl⟩:=r;cases(show T="str" from ty);exact⟨et s z t,λ_ e=>nomatch e⟩
 |int i=>obtain⟨t,rfl⟩:=r;cases(show T="int" from ty);exact⟨typeIs_int s i t,λ_ e=>nomatch e⟩
 |ref p=>
  cases r;rcases ty with⟨rfl,q,l⟩|⟨rfl,o,d,m,g⟩|⟨rfl,d⟩|⟨rfl,S,n,d⟩
  ·obtain⟨k,_,j,_⟩:=I.list l;refine⟨j.isList.typeIs,λa e=>?_⟩;cases e;obtain⟨o,n,e,c,g,_⟩:=j;exact⟨o,e,g⟩
  ·refine⟨⟨o,I.iN p o d,m⟩,λa e=>?_⟩;cases e;exact⟨o,I.iN _ o d,g⟩
  ·have z:∃o,s.heap.get? p=some o/\o.ExactDict:=by
    rcases d with⟨f,d⟩|⟨f,d⟩
    ·obtain⟨_,_,_,_,o,_,_,e,ex,_⟩:=I.hok p _ d;exact⟨o,e,ex⟩
    ·obtain⟨_,_,_,_,o,_,_,e,ex,_⟩:=I.hok p _ d;exact⟨o,e,ex⟩
   obtain⟨o,e,ex⟩:=z;refine⟨⟨o,e,ex.1⟩,λa h=>?_⟩;cases h;exact⟨o,e,ex.2.1⟩
  ·obtain⟨o,_,_,_,e,ex,_⟩:=I.hok p _ d;refine⟨⟨o,e,ex.1⟩,λa h=>?_⟩;cases h;exact⟨o,e,ex.2.1⟩
 |_=>exact False.elim ty
def adP(K:gF)(T:String)(r:V->gi V->Hp->VK->Prop)(e:TE):TE:=λd H Q=>e d H λx c=>yf K T x c/\r x [] c Q
def tBM(K:gF)(T:String)(r:V->gi V->Hp->VK->Prop)(f:TE)(t:TA):TE:=λc H Q=>f c H λx d=>yf K T x d/\t c d λe g=>r x e g Q
variable{o e:hD}{Y:jT}{U:TE}{t:TA}{M:gp}{O L:Pos}{T N:String}{r:V->gi V->Hp->VK->Prop}
def aaf(q:PlainAttrs T)(g:Slot T M N)(i:typeOf (.builtin N)=pure (.type "method_descriptor"))(w:sI X N r)(u:PE X o U)
 (f:attributeBase o M X.env (eval o X.env)=eval o X.env)(d:(O.endLine==L.line)=true):PE X (.Call (.Attribute o M O) [] [] L) (adP X.K T r U):=by intro c s k H Q I h;refine wpAny_Call_method0_late f d (g6 (u c s k H _ I h) λv n j=>?_);obtain⟨x,A,m,l,ty,p⟩:=j;obtain⟨z,y⟩:=Gu m l ty;exact⟨T,N,q,g,i,z,y,c7 rfl<|PySem.evalArgs_none<|w c n k A x [] v [] Q m l .nil p⟩
def E9(D:PlainAttrs T)(i:Slot T M N)(l:typeOf (.builtin N)=pure (.type "method_descriptor"))(G:sI X N r)(F:PE X o U)(J:PA X (e::Y) t)
 (g:autoParam (attributeBase o M X.env (eval o X.env)=eval o X.env) aZ0)
 (j:autoParam (((backTo L (starEach (e::Y) X.env)).all (λx=>!x.1)&&(backToKw L (keywordEach [] X.env)).all (λx=>x.1.isSome)
 &&decide ((e::Y).length+([]:gi Keyword).length+(if([]:gi Keyword).isEmpty then 0 else 1)<30))=true) aZ0)
 (f:autoParam ((O.endLine==L.line)=true) aZ0)(E:autoParam (X.se e Y) aZ0)(d:autoParam ((backTo L<|starEach Y X.env).any (·.1)=false) aZ0):
   PE X (.Call (.Attribute o M O) (e::Y) [] L) (tBM X.K T r U t):=by
  intro c s k H Q I h;refine ef g j f rfl (g6 (F c s k H _ I h) λv z m=>?_);obtain⟨x,W,q,n,ty,C⟩:=m;obtain⟨P,K⟩:=Gu q n ty;refine⟨T,N,D,i,l,P,K,?_⟩;have p:=J L c z k W _ q C;rw[E]at p⊢;refine c7 (by show(false||(backTo L (starEach Y X.env)).any (·.1))=false;rw[d]<;>rfl) (eC ?_);exact g6 p λw y ⟨u,S,R,A,B⟩=>G c y k S x u v w Q R n A B
def Bz(X:Cx)(N:String)(r:V->gi V->Hp->VK->Prop):Prop:=
 ∀c s d H x f v g Q,Inv X c d H s->RelV x v->Vals f g->r x f H Q->
  wpAny (model X.prog X.w) X.A (call (.builtin N)<|v::g) (EP X c d Q) X.xe s
def Vals.one:∀{x} {c},Vals [x] c->∃u,c=[u]/\RelV x u
 |_,_,.cons r .nil=>⟨_,rfl,r⟩
def Vals.zero:∀{c},Vals [] c->c=[]
 |_,.nil=>rfl
def Vals.dropLast(h:Vals xs us):Vals xs.dropLast us.dropLast:=by
 induction h with
 |nil=>exact .nil
 |cons r t c=>
  cases t with
  |nil=>exact .nil
  |cons q d=>exact .cons r c
def Tf(l:gi α):l.eraseIdx (l.length - 1)=l.dropLast:=by
 induction l with
 |nil=>rfl
 |cons a r c=>
  cases r with
  |nil=>rfl
  |cons b r=>
   have e:(a::b::r).length - 1=((b::r).length - 1)+1:=by have f:(a::b::r).length=r.length+2:=rfl;have d:(b::r).length=r.length+1:=rfl;simp
   rw[e,List.eraseIdx_cons_succ,c];all_goals rfl
variable{B:jG}{J:St}{H:Hp}{s:gQ}{l b:gr}{C P zs:gi V}
def Inv.LY{c:jP}{n}{f}{d:Nat}(I:Inv X B J H s)(k:H l=some (.lst C))
 (e:s.heap.get? l=some {cls:=.type "list",data:=.seq c.toArray n})(hf:f c.toArray=its'.toArray)(h:Vals P its')(g:P.length<=sizeLine):
   Inv X B J (upd H l<|.lst P) {s with heap:=s.heap.update l<|Obj.mapSeq f,toks:=d}:=by
  have q:=PySem.IsL.update e f;rw[hf]at q;refine I.write (x:=l) (e:=l) (by rw[k];exact trivial) (.inl rfl) (λm u j i=>(bC s.heap (Obj.mapSeq f)<|bQ j).trans i) ⟨_,q⟩ ?_;exact⟨g,its',_,h,q⟩
def Inv.LR{t':Nat}(I:Inv X B J H s)(d:Vals P Eo)(c:P.length<=sizeLine):
    Inv X B J (upd H s.heap.objs.size<|.lst P) {s with heap:=s.heap.push {cls:=.type "list",data:=.seq Eo.toArray},toks:=t'}:=
 I.laid (λ_ _ q=>aj _ q) (au _) ⟨c,Eo,0,d,aJ _ rfl⟩
def Inv.fresh(I:Inv X B J H s):H s.heap.objs.size=none:=I.hok.fresh (au _)
def Inv.L0(I:Inv X B J H s)(d:H l=some (.lst C)):C.length<=sizeLine/\∃(c:jP) (n:Nat),Vals C c/\C.length=c.length/\s.heap.get? l=some {cls:=.type "list",data:=.seq c.toArray n}:=by obtain⟨z,c,n,r,e⟩:=I.hok l _ d;exact⟨z,c,n,r,r.length,e⟩
def ace:V->gi V->Hp->VK->Prop:=λx c H Q=>∃l C y,x=.ref l/\c=[y]/\H l=some (.lst C)/\C.length<sizeLine/\Q .non (upd H l<|.lst<|C++[y])
def z9:Bz X "list.append" ace:=by intro B s J H x j v k Q I f g h;obtain⟨l,C,y,rfl,rfl,d,m,q⟩:=h;cases f;obtain⟨u,rfl,i⟩:=g.one;obtain⟨z,c,n,r,p,e⟩:=I.L0 d;refine fG c5 ⟨_,e,rfl⟩ F.entry_list_append (F.args_list_append_2 _ _) (PySem.list_append l c.toArray n u (by rw[aM];simp_all)) ⟨e,?_⟩;refine⟨.non,_,I.LY (its':=c++[u]) d e (by simp) (r.append<|.cons i .nil) ?_,rfl,q⟩;rw[aa,bH];walk_at "l"
def aci:V->gi V->Hp->VK->Prop:=λx c H Q=>∃l C y,x=.ref l/\c=[]/\H l=some (.lst C)/\C[C.length - 1]?=some y/\Q y (upd H l<|.lst C.dropLast)
def XT:Bz X "list.pop" aci:=by
 intro B s J H x A v D Q I i j h;obtain⟨l,C,y,rfl,rfl,g,m,q⟩:=h;cases i;have f:=j.zero;subst f;obtain⟨z,c,n,r,w,e⟩:=I.L0 g;obtain⟨u,p,k⟩:=r.get m;have d:c.toArray[c.toArray.size - 1]?=some u:=by show c.toArray[c.length - 1]?=some u;rw[<-fR,<-w];exact p
 refine fG F.slot_list_pop ⟨_,e,rfl⟩ F.entry_list_pop (F.args_list_pop_1 _) (MeetsSeq.list_pop_last l c.toArray n u d<|by rw[aM];simp_all) ⟨e,?_⟩;refine⟨y,_,I.LY (its':=c.dropLast) g e ?_ r.dropLast ?_,k,q⟩
 ·show c.toArray.eraseIdxIfInBounds (c.toArray.size - 1)=c.dropLast.toArray;rw[aM,List.eraseIdxIfInBounds_toArray,Tf]
 ·rw[List.length_dropLast]
  grind
end L2
namespace HD
open PySem PySem.W PySem.Calls PyProof.Rows
abbrev _root_.kY:=gi Int
def Wb:∀(c:kY) vs,WellAll P h vs (c.map WData.int)->IntsAre vs c:=by
 intro c;induction c with
 |nil=>intro vs w;rw[c8]at w;cases w;exact .nil
 |cons n c d=>
  intro vs w;rw[aF]at w;cases w with
  |cons a b=>cases a;exact .cons _ _ (d _ b)
def ada{l:OpenLaw}{n}(v:l.most=some n)
 (c:l.row.toRowW.claim.pre args=true)(j:WellAll P h vals args):
   ∃a m b,vals=[Value.ref a]/\args=[WData.list<|b.map WData.int]/\h.get? a=some {cls:=.type "list",data:=.seq m.toArray}/\IntsAre m b/\b.length<=n:=by
  have k:WShape.hasAll [] args [.list .int]=true:=(pre_splitW c).1;have o:l.pre.holds [] {args:=args}=true:=(pre_splitW c).2;obtain⟨d,r,rfl,y,x⟩:=hasAllW_cons k;obtain rfl:=hasAllW_nil x;obtain⟨z,rfl,w⟩:=hasW_list y;obtain⟨b,rfl⟩:=items_int w;have e:b.length<=n:=by
   unfold OpenLaw.pre at o;have i:(WTm.not<|.lt (.lit<|.int (n:Int))<|.len<|.arg 0).holds [] {args:=[.list<|b.map .int]}=true:=by have i:=(holds_andW o).1;rw[v]at i;exact i
   have g:=condW_of i (w_not<|w_lt w_lit<|w_len_list<|w_arg rfl);rw[ae]at g;refine Nat.le_of_not_lt λq=>?_;have t:(n:Int)<((b.length:Nat):Int):=by simp_all
   first
    |(rw[aB t]at g;exact absurd g (by decide))
    |(simp at g;omega)
  cases j with
  |cons s p=>
   cases p;cases s with
   |list u f=>exact⟨_,_,b,rfl,rfl,u,Wb b _ f,e⟩
def aaT(l:OpenLaw)(args):l.row.toRowW.claim.post args (.bool true) args=true:=
 postW_of (r:=l.row.toRowW) (X:=(true==true))
  (show WShape.has [] (.bool true) .bool=true by first|rfl|decide|simp[WShape.has,WShape.arms,WShape.armsAll])
  (show(WTm.eq .res<|.lit<|.bool true).value [] {args:=args,res:=some<|.bool true,after:=args}=some (.bool<|true==true)from w_eq_bool (w_res rfl) w_lit) rfl
def Qh{l:OpenLaw}{n XP}{z:iK->gU->Prop}{d:DefRec}
 (D:l.most=some n)(s:d.params.defaults=[])
 (call:∀w (c b:gQ) mg mb fa o pm cd doc a (g:jP) ns,
 Ground q loose [] XP w c mg mb b.heap->z w b.heap->
 b.heap.get? fa=some o->o.data=.func (docDef d.name d.params d.body d.scope pm cd doc)->b.heap.CodeRec cd d.name->mg d.name=some (.ref fa)->
 b.heap.get? a=some {cls:=.type "list",data:=.seq g.toArray}->IntsAre g ns->ns.length<=n->b.gens=#[]->
 codeAny (model l.prog w) callerA (.call (.ref fa) ⟨[.ref a],[]⟩) (λr k=>r=.ok (.ret (.bool true))/\OldK b.heap k.heap/\k.os=b.os/\AllBare k.gens) b):
  WalkO q loose XP z l.row.toRowW d [] (λf g=>PySem.call f g):=by
  intro w c b mg mb G Y fa o pm cd doc dV kV C I t x p H y u M h v A m F;obtain rfl:dV=.none:=Dflts.none x s;obtain rfl:kV=.none:=Dflts.noKw x;obtain⟨a,g,ns,rfl,rfl,i,e,j⟩:=ada D h m;refine enter_call (cR (call w c b mg mb fa o pm cd doc a g ns G Y C (fd_plain I) t p i e j H) λr k B=>?_);obtain⟨rfl,L,K,J⟩:=B;exact⟨.inl ⟨.bool true,.bool true,[],rfl,λ_=>rfl,.bool true,aaT l _,λ_=>⟨List.Pairwise.nil,λ_ E=>(nomatch E)⟩⟩,L,K,J⟩
end HD
namespace L2
open PySem PySem.Spec PyProof.Rows
theorem OW:∀{a} {b},IntsAre a b->Vals (b.map V.int) a
 |_,_,.nil=>.nil
 |_,_,.cons n t h=>.cons ⟨t,rfl⟩ (OW h)
def inClass(s:Stmt)(j:Nat):Stmt:=match s with
 |.ClassDef _ _ _ body _ _ _ _ _ _ _=>body.getD j (.Pass ⟨0,0,0,0⟩)
 |_=>.Pass ⟨0,0,0,0⟩
def ny(s:Stmt):Arguments:=match s with
 |.FunctionDef _ a _ _ _ _ _ _ _ _=>a
 |_=>{posonlyargs:=[],args:=[],vararg:=none,kwonlyargs:=[],kw_defaults:=[],kwarg:=none,defaults:=[]}
def kx(s:Stmt):gi Stmt:=match s with
 |.FunctionDef _ _ b _ _ _ _ _ _ _=>b
 |_=>[]
def iz(s:Stmt):Scope:=match s with
 |.FunctionDef _ _ _ _ _ _ sc _ _ _=>sc
 |_=>{kind:=.function,names:=[],isGenerator:=false,isCoroutine:=false}
abbrev pY:pw:=λ_ _ _ _ _ _=>False
abbrev E0:XK:=λ_ _ _=>False
structure mD(K:gF)(x qual:gp)(st:Stmt)(f:gr)(fd:kP):Prop where
 ex:∃oc od kV doc pm an cdv ct osl,
  fd=W.fnOf x qual (ny st) (kx st) (iz st) .none kV doc pm an cdv ct/\K.lookup f=some ⟨oc,od,.func fd,osl⟩/\W.codeIn K cdv qual=true
 kp:W.keepIn K (.ref f)=true
variable{P:iQ}{w:iK}{K:gF}{i:iY}{e:gU}
def mD.ok{x b:gp}{j:Stmt}{f:gr}{p:kP}{N m:iH}{k:Nat}{l:Sp}(F:mD K x b j f p)(S:pz N m<|iz j)(len:∀d H Q E,l d H Q E->d.length=m.length)
    (g:∀(c:gE) (A:jd) (a:kH) (s:gQ) (H:Hp) (d:gi V) (Q:VK) (E:XK),iX k (A.deeper (envOfC b (iz j) s.heap.objs.size f c))->l d H Q E->
      ∃t,md (iL pY P w K i e N b (iz j) f c A a s H E).mr (kx j) t/\t {nx:=λ_ z=>Q .non z,rt:=Q} (start N d) H):j7 P w K i e pY (k+1) f p m l:=by
 obtain⟨D,C,kV,y,B,G,c,ct,r,rfl,u,o⟩:=F.ex;refine C9 u o S len λA a s H d Q E v n=>?_;obtain⟨t,h,q⟩:=g c A a s H d Q E v n;exact⟨t,h.mr,q⟩
abbrev _root_.kD:=gH gr
def mD.binds{x}{c}{f}{k}{ps}(F:mD K x qual c f k)
 (h:∀(kV a g:gE) (j:kD) (b ct:gE) (d:jP),d.length=ps.length->bindArgs (W.fnOf x qual (ny c) (kx c) (iz c) .none kV a g j b ct) ⟨d,[]⟩=pure (ps.zip d)):Binds K k ps []:=by obtain⟨o,n,kV,a,g,j,b,ct,l,rfl,p,m⟩:=F.ex;exact .all (h kV a g j b ct)
def Dc{x}{st}{f}{kV}(l:K.lookup f=some ⟨oc,od,.func<|W.fnOf x qual (ny st) (kx st) (iz st) .none kV doc pm an cdv ct,osl⟩)
 (c:W.codeIn K cdv qual=true)(k:W.keepIn K (.ref f)=true):mD K x qual st f (W.fnOf x qual (ny st) (kx st) (iz st) .none kV doc pm an cdv ct):=⟨⟨oc,od,kV,doc,pm,an,cdv,ct,osl,rfl,l,c⟩,k⟩
def qQ{A B:Prop}(h:B):if false=true then A else B:=by rw[ao aR];exact h
def rN{A B:Prop}(h:A):if true=true then A else B:=by rw[af rfl];exact h
def j8(H a:Hp):Prop:=∀b o,H b=some o->a b=some o
end L2
namespace Fx
open PySem
def wK(o:kQ)(f):(o.mapFields f).dict=o.dict:=by rcases o with⟨c,d,dt,a⟩;cases dt<;>rfl
def Dk(p:Prop)(h:gU)(e:gr)(d:kD):Prop:=(∀c,d=some c->∃a,h.get? e=some a/\a.dict=some c)/\∃a b,h.get? e=some a/\a.data=.fields b/\(p->b[2]?=some .none)
def nj(p:Prop)(B:gU)(l:kH)(e:gr)(a:gE)(d:kD)(h:gU):Prop:=
 (∃b,Heap.FlyingW B l e a b h)/\Dk p h e d
def yw(p:Prop)(B:gU)(l:kH)(e:gr)(a:gE)(d:kD)(L:gr)(h:gU):Prop:=
 (∃b,Heap.HeldW B l e a b L h)/\Dk p h e d
def JJ{p d}{f:lT gE->lT gE}{o}(n:h.get? b=some o)(m:o.data=.fields vs)(hf:∀i:lT gE,(f i)[2]?=i[2]?)(k:Dk p h e d):
    Dk p (h.update b<|Obj.mapFields f) e d:=by
 by_cases q:b=e
 ·subst q;have g:=bT (Obj.mapFields f) n (cb<|bE m f);refine⟨λr l=>?_,?_⟩
  ·obtain⟨j,a,c⟩:=k.1 r l;rw[n]at a;cases a;exact⟨_,g,by rw[wK];exact c⟩
  ·obtain⟨j,i,a,c,s⟩:=k.2;rw[n]at a;cases a;rw[m]at c;cases c;exact⟨_,_,g,bE m f,by rw[hf];exact s⟩
 ·have g:(h.update b<|Obj.mapFields f).get? e=h.get? e:=bC _ _ q;refine⟨λr l=>?_,?_⟩
  ·obtain⟨j,a,c⟩:=k.1 r l;simp_all
  ·obtain⟨j,i,a,c,s⟩:=k.2;simp_all
def Oc(x)(a:qI):(a.setIfInBounds 3 x)[2]?=a[2]?:=bR (by decide)
variable{p:Prop}{M:Model}{A:jd}{E:iR}{s:gQ}{B:gU}{a:Env}{outer l:kH}{L e:gr}{cls:gE}{d:kD}{Q:qH}
def JX{u}(F:A.frames=some (a::outer))(D:s.heap.FunFrames B<|a::outer)(hf:a.frame=some L)
 (x:s.heap.get? e=some oe)(S:B.StaysIn s.heap)(P:B.get? e=none)(y:oe.data=.fields vs)(N:1<vs.size)(Y:vs[0]?=some a0)(dk:Dk p s.heap e d)
 (X:∀H,yw p B (a::outer) e oe.cls d L H->s.heap.UpToSlots H->Q () {s with heap:=H}):
   wpAny M A (do
    let fr<-frameOf a
    let at_<-entryPlaceOf L u
    let R<-EntryCells.newEntry head fr .none (rawInt L) .none at_
    setField (.ref e) 1 R) Q E s:=by
  have U:e∉(a::outer).filterMap (·.frame):=λz=>by obtain⟨_,o2,j,n⟩:=D.mem z;rw[x]at j;cases j;exact n vs y
  refine ah (wpAny_frameOf_fun F D hf λf C=>?_);refine ah (wpAny_entryPlaceOf λc ok=>?_);unfold EntryCells.newEntry newFields;refine ah (cS ?_ (ok.sizeOk5 _ _ _ _ _));have w:f.get? e=some oe:=by rw[C.2.1 e U];exact x
  have r:B.StaysIn f:=λb o q=>by rw[C.2.1 b λz=>by rw[(D.mem z).1]at q;cases q];exact S b o q
  generalize O:({cls:=.type "traceback",dict:=none,data:=.fields ([head,.ref L,.none,rawInt L,.none]++(if c.isEmpty then List.replicate 6 Value.none else c)).toArray}:kQ)=x9;have v:(f.push x9).get? e=some oe:=aj _ w;refine dD v y N (X _ ?_ ?_)
  all_goals
   have K:f.objs.size≠e:=eL (Heap.lt_size w);have g:∀b o,b≠e->f.get? b=some o->((f.push x9).update e (Obj.mapFields (·.setIfInBounds 1 (Value.ref f.objs.size)))).get? b=some o:=λb o V h=>by rw[bC _ _<|bQ V];exact aj _ h
   have i:∀b o,s.heap.get? b=some o->(∀I,o.data≠.fields I)->b≠e:=λb o h t z=>by subst z;rw[x]at h;cases h;exact t vs y
  ·have m:=bE y (·.setIfInBounds 1 (Value.ref f.objs.size));have k:=bT (Obj.mapFields (·.setIfInBounds 1 (Value.ref f.objs.size))) v (cb m);have G:((f.push x9).update e (Obj.mapFields (·.setIfInBounds 1 (Value.ref f.objs.size)))).get? f.objs.size=some x9:=by
    rw[bC _ _<|bQ K];exact aJ f (by rw[<-O];rfl)
   refine⟨⟨a0,λb o q=>g b o (λz=>by rw[z,P]at q;cases q)<|r b o q,P,D.of_keeps λb o h t=>?_,?_⟩,λdx W=>?_,?_⟩
   ·obtain⟨J,z⟩:=C.2.2 b o h;exact⟨_,g b _ (i b o h t) z,rfl⟩
   ·refine⟨_,_,f.objs.size,x9,_,k,⟨eg _ _,?_⟩,m,by simp[N],r.fresh,K,G,by rw[<-O],?_⟩;·rw[bR<|by decide];exact Y
    ·rcases ok with z|⟨_,_,_,_,_,_,_,z⟩<;>(rw[z];simp)
   ·obtain⟨T,j,n⟩:=dk.1 dx W;rw[x]at j;cases j;exact⟨_,k,by rw[wK];exact n⟩
   ·obtain⟨T,I,j,n,Z⟩:=dk.2;rw[x]at j;cases j;rw[y]at n;cases n;exact⟨_,_,k,m,by rw[bR (by decide)];exact Z⟩
  ·intro b o h t;obtain⟨J,z⟩:=C.2.2 b o h;exact⟨J,g b _ (i b o h t) z⟩
def C7(k:A.frames=some (a::outer))(hf:a.frame=some L)(x:nj p B (a::outer) e cls d s.heap)
 (y:∀i,yw p B (a::outer) e cls d L i->s.heap.UpToSlots i->Q () {s with heap:=i}):wpAny M A (noteFrame (.ref e) a) Q E s:=by
  obtain⟨⟨P,u,G,F,N,J,T,O,K,m,⟨w,D⟩,n,i,H,I,hT,g,r⟩,dk⟩:=x;subst w;unfold noteFrame;simp only[hf];refine ah (cG m n i ?_);rw[af<|by simp];refine ah (cG hT g r ?_);rw[ao<|by simp[rawInt]];refine ah (dD hT g (bV.mp r).1 ?_);have c:∀b,b≠T->(s.heap.update T (Obj.mapFields (·.setIfInBounds 3 Value.none))).get? b=s.heap.get? b:=λb z=>bC _ _ (bQ z);have f:∀b o,s.heap.get? b=some o->(∀t,o.data≠.fields t)->b≠T:=λb o h j z=>by simp_all
  refine JX (s:={s with heap:=s.heap.update T (Obj.mapFields (·.setIfInBounds 3 Value.none))}) k (F.of_keeps λb o h j=>⟨o,by rw[c b<|f b o h j];exact h,rfl⟩) hf
   (by rw[c e<|bQ I];exact m) (λb o q=>by rw[c b λz=>by rw[z,H]at q;cases q];exact u b o q) G n (bV.mp i).1 D (JJ hT g (Oc _) dk) λC v up=>?_
  exact y C v λb o h j=>up b o (by rw[c b<|f b o h j];exact h) j
def acu(c:A.frames=some (a::outer))(k:s.heap.FunFrames B<|a::outer)(hf:a.frame=some L)(f:s.heap.get? e=some oe)(h:B.StaysIn s.heap)
 (m:B.get? e=none)(g:oe.data=.fields vs)(b:vs[1]?=some .none)(j:vs[0]?=some a0)(dk:Dk p s.heap e d)
 (i:∀b,yw p B (a::outer) e oe.cls d L b->s.heap.UpToSlots b->Q () {s with heap:=b}):wpAny M A (noteFrame (.ref e) a) Q E s:=by unfold noteFrame;simp only[hf];refine ah (cG f g b ?_);exact JX c k hf f h m g (bV.mp b).1 j dk i
def LD(C:B.StaysIn s.heap)(J:B.get? e=none)(I:s.heap.FunFrames B l)(y:s.heap.TracedAtW B e cls a0 fl)(dk:Dk p s.heap e d)
 (G:∀j,nj p B l e cls d j->s.heap.UpToSlots j->Q () {s with heap:=j}):wpAny M A (setFlight (.ref e) none) Q E s:=by
  obtain⟨D,w,T,K,x,n,F,r,j,t,u,hT,g,H⟩:=y;have m:3<x.size:=(bV.mp H).1;unfold setFlight;refine ah (cG n r j ?_);refine dD hT g m (G _ ⟨⟨a0,?_⟩,JJ hT g (Oc _) dk⟩ ?_)
  all_goals
   have c:∀b,b≠T->(s.heap.update T (Obj.mapFields (·.setIfInBounds 3 ((none:kD).elim Value.none λf=>rawInt f)))).get? b=s.heap.get? b:=λb z=>bC _ _ (bQ z);have h:∀b o,s.heap.get? b=some o->(∀v,o.data≠.fields v)->b≠T:=λb o i k z=>by simp_all
  ·refine⟨λb o q=>by rw[c b λz=>by rw[z,t]at q;cases q];exact C b o q,J,I.of_keeps λb o i k=>⟨o,by rw[c b<|h b o i k];exact i,rfl⟩,?_⟩;exact⟨D,w,T,_,_,by rw[c e<|bQ u];exact n,F,r,j,t,u,bT _ hT<|cb<|bE g _,bE g _,by simp[m]⟩
  ·exact λb o i k=>⟨o.slots,by rw[c b<|h b o i k];exact i⟩
def zI(x:yw p B l e cls d L s.heap)(g:∀b,nj p B l e cls d b->s.heap.UpToSlots b->Q () {s with heap:=b}):wpAny M A (setFlight (.ref e) none) Q E s:=by obtain⟨⟨j,f,i,h,c⟩,dk⟩:=x;exact LD f i h c dk g
def Kf(x:nj p B l e cls d s.heap)(g:∀b,nj p B l e cls d b->s.heap.UpToSlots b->Q () {s with heap:=b}):wpAny M A (setFlight (.ref e) none) Q E s:=by obtain⟨⟨j,f,i,h,c⟩,dk⟩:=x;exact LD f i h c.at dk g
def nj.less(x:nj p B (a::outer) e cls d s.heap):nj p B outer e cls d s.heap:=by obtain⟨⟨h,c,g,⟨_,_,f⟩,b⟩,dk⟩:=x;exact⟨⟨h,c,g,f,b⟩,dk⟩
def TF(c:A.frames=some (a::outer))(hf:a.frame=some L)(x:nj p B (a::outer) e cls d s.heap)
 (k:∀b,nj p B outer e cls d b->s.heap.UpToSlots b->Q () {s with heap:=b}):wpAny M A (leaving a<|.ref e) Q E s:=by unfold leaving;exact ah (C7 c hf x λb h j=>zI (s:={s with heap:=b}) h λf g i=>k f (nj.less (s:={s with heap:=f}) g)<|j.trans i)
def acs(c:A.frames=some (a::outer))(t:s.heap.FunFrames B<|a::outer)(hf:a.frame=some L)(m:s.heap.get? e=some oe)(k:B.StaysIn s.heap)
 (u:B.get? e=none)(n:oe.data=.fields vs)(b:vs[1]?=some .none)(r:vs[0]?=some a0)(dk:Dk p s.heap e d)
 (o:∀b,nj p B outer e oe.cls d b->s.heap.UpToSlots b->Q () {s with heap:=b}):wpAny M A (leaving a<|.ref e) Q E s:=by unfold leaving;exact ah (acu c t hf m k u n b r dk λq h j=>zI (s:={s with heap:=q}) h λf g i=>o f (nj.less (s:={s with heap:=f}) g)<|j.trans i)
end Fx
set_option maxHeartbeats 4000000
namespace L2
open PySem PySem.Spec PyProof.Rows Fx
def Fg(d:kD)(H:Hp):Prop:=∀a,d=some a->∃f v,H a=some (.xd [(f,v)])
def iu(P:iQ)(w:iK):pw:=λa H s E e f=>
 ∃h b d c B,e=.ref h/\f.os=s.os/\AllBare f.gens/\nj (Fg d c) B a h b d f.heap/\
  (∀g:gU,B.StaysIn g->f.heap.UpToSlots g->Un (frs a) [] H c s.heap g/\jJ P w c g)/\c h=none/\s.heap.get? h=none/\E b d c
structure BD(X:Cx)(pins:jG)(e:gr):Prop where
 old:X.s₀.heap.get? e=none
 pin:∀p∈X.pn++pins,p.1≠e
 loc:e≠X.env.locals
 Jk:∀x c,X.env.cells.lookup x=some c->c≠e
 frm:e∉X.fs
def XP(X:Cx)(a:jG)(i:St)(R:XK)(e:gE)(g:gQ):Prop:=
 ∃c b d f B,e=.ref c/\nj (Fg d f) B X.stack c b d g.heap/\
  (∀h:gU,B.StaysIn h->g.heap.UpToSlots h->Inv X a i f {g with heap:=h})/\f c=none/\BD X a c/\R b d f
section
variable{X:Cx}{a:jG}{f:St}{H:Hp}{s s':gQ}{e:gE}{E:XK}
def Inv.Ag(I:Inv X a f H s)(n:s.heap.get? ea=none)(g:X.ex=[]):BD X a ea:=by
 have z:∀b o,s.heap.get? b=some o->b≠ea:=λb o q w=>by rw[w,n]at q;cases q
 refine⟨?_,λp i=>z _ _ (I.pin p i).1,λw=>?_,λx c j=>?_,λk=>?_⟩
 ·cases q:X.s₀.heap.get? ea with
  |none=>rfl
  |some o=>obtain⟨l,h⟩:=I.base.there ea o q (by rw[g];simp);rw[n]at h;cases h
 ·obtain⟨m,⟨o,_,_,d,_⟩,_⟩:=I.loc;exact z _ _ d w.symm
 ·obtain⟨v,o,d,_⟩:=I.cell x c j;exact z _ _ d
 ·obtain⟨_,o,d,_⟩:=I.nV.mem k;exact z _ _ d rfl
def O8(I:Inv X a f H s)(h:iu X.prog X.w X.stack H s E e s')(g:X.ex=[]):XP X a f E e s':=by obtain⟨o,i,d,q,B,rfl,l,bare,n,cl,en,fr,m⟩:=h;refine⟨o,i,d,q,B,rfl,n,λj p k=>?_,en,I.Ag fr g,m⟩;obtain⟨un,c⟩:=cl j p k;exact I.IY (s':={s' with heap:=j}) (ch:=[]) l un c bare λb z=>absurd z (by simp)
end
def kj.there{w o}(x:kj P w H h a o):∃ob,h.get? a=some ob:=by
 cases o with
 |lst b=>obtain⟨_,_,_,_,q⟩:=x;exact⟨_,q⟩
 |tup b=>obtain⟨_,_,_,ob,q,_⟩:=x;exact⟨_,q⟩
 |set S n=>obtain⟨ob,_,_,_,q,_⟩:=x;exact⟨_,q⟩
 |ins C i fs=>obtain⟨_,_,_,q,_⟩:=x;exact⟨_,q⟩
 |own y=>exact x
 |xd fs=>obtain⟨_,⟨_,_,_,q,_⟩,_⟩:=x;exact⟨_,q⟩
 |AD e g=>obtain⟨_,_,_,q⟩:=x;exact⟨_,q⟩
 |nA ob u=>obtain⟨q,_⟩:=x;exact⟨_,q⟩
 |kU d=>exact⟨_,(show h.get? a=some _ from x)⟩
 |met f y=>exact⟨_,(show h.get? a=some _ from x)⟩
 |ext c=>obtain⟨_,q,_⟩:=x;exact q
 |_=>obtain⟨_,_,_,_,ob,_,_,q,_⟩:=x;exact⟨_,q⟩
def jJ.no{w}(x:jJ P w H h)(n:h.get? a=none):H a=none:=by
 cases q:H a with
 |none=>rfl
 |some o=>obtain⟨ob,z⟩:=(x a o q).there;rw[n]at z;cases z
section
variable{P:iQ}{w:iK}{K:gF}{r:iY}{j:gU}{N:iH}{i:gp}{c:Scope}{f:gr}{m:gE}{A:jd}{outer:kH}{s:gQ}{H:Hp}{E:XK}
def vi:Passes (iu P w) (iL (iu P w) P w K r j N i c f m A outer s H E) E:=λp C M D e o I h=>by obtain⟨t,l,d,z,B,rfl,q,cl,en,x,y⟩:=O8 I h rfl;have J:=λb g a=>cl b g a;obtain⟨G,v,_⟩:=q.1;have u:=J o.heap v (Heap.UpToSlots.refl _);show wpAny _ _ (leaving _<|.ref t) _ _ o;refine TF (outer:=outer) (L:=s.heap.objs.size) I.ok.frames rfl q λF k n=>?_;exact⟨t,l,d,z,B,rfl,u.os,u.bare,k,λb g a=>⟨(J b g<|n.trans a).base,(J b g<|n.trans a).hok⟩,en,x.old,y⟩
def FL{d}
 (I:Inv (iL (iu P w) P w K r j N i c f m A outer s H E) pins σ H2 s2)(S:s2.heap.get? e=some p)(fr:s.heap.get? e=none)(T:p.data=.fields vs)(h1:vs[1]?=some .none)(h0:vs[0]?=some a0)
 (dk:∀U,d=some U->∃p,s2.heap.get? e=some p/\p.dict=some U)(cn:Fg d H2->vs[2]?=some .none)(en:H2 e=none)(hE:E p.cls d H2):(iL (iu P w) P w K r j N i c f m A outer s H E).xe (.ref e) s2:=by
  let X:=iL (iu P w) P w K r j N i c f m A outer s H E
  let B:=W.hideAll s2.heap (e::frs X.stack)
  have Z:B.StaysIn s2.heap:=λb o q=>W.of_hideAll _ q;have fe:B.get? e=none:=W.hideAll_none _ (List.Mem.head _);have ff:s2.heap.FunFrames B X.stack:=W.funFrames_hide I.stack λM hm b g=>List.Mem.tail _ (dU.mpr ⟨M,hm,g⟩);show wpAny _ _ (leaving _ (.ref e)) _ _ s2;refine acs (B:=B) (outer:=outer) (L:=s.heap.objs.size) I.ok.frames ff rfl S Z fe T h1 h0 ⟨dk,p,vs,S,T,cn⟩ λh3 J Y=>?_;refine⟨e,p.cls,d,H2,B,rfl,I.os,I.bare,J,λG b5 V=>?_,en,fr,hE⟩;have up:s2.heap.UpToSlots G:=Y.trans V;have k:∀b o,s2.heap.get? b=some o->b≠e->b∉frs X.stack->G.get? b=some o:=λb o q C y=>b5 b o (W.hideAll_get _ q λz=>by
   rcases aT.mp z with z|z;· exact C z
   · exact y z)
  have h:∀b o,H2 b=some o->b≠e/\b∉frs X.stack:=λb o q=>⟨λz=>(by subst z;rw[en]at q;cases q),λz=>(by rw[I.Gd b z]at q;cases q)⟩;have x:∀b o,s.heap.get? b=some o->b∉frs outer->b≠e/\b∉frs X.stack:=λb o q n=>⟨λz=>(by subst z;rw[fr]at q;cases q),λz=>(aT.mp (I.AK b z)).elim (λz=>absurd (Heap.lt_size q) (by rw[z];exact cF _)) (λz=>n z)⟩;have l:∀b o,s2.heap.get? b=some o->b∈frs outer->∃Q,G.get? b=some {o with slots:=Q}:=λb o q g=>by obtain⟨_,o2,t,nf⟩:=I.nV.mem g;rw[q]at t;cases t;exact up b o q nf
  refine⟨⟨λb o q n g _=>?_,λb o q n g _=>?_,λb o q n F=>I.base.free b o q n F,λb o q F=>?_,I.base.tups,I.base.nU,I.base.oJ⟩,λa o O=>?_⟩
  ·obtain⟨C,y⟩:=x b o q g;exact k b o (I.base.keep b o q n g (by intro z;exact absurd (show b∈([]:gi gr)from z) (by simp))) C y
  ·obtain⟨Q,D⟩:=I.base.slot b o q n g (by intro z;exact absurd (show b∈([]:gi gr)from z) (by simp));obtain⟨v,t⟩:=l b _ D g;exact⟨v,t⟩
  ·obtain⟨R,D⟩:=I.base.there b o q F;by_cases g:b∈frs outer
   ·obtain⟨v,t⟩:=l b _ D g;exact⟨_,t⟩
   ·obtain⟨C,y⟩:=x b o q g;exact⟨R,k b R D C y⟩
  ·refine(I.hok a o O).o8 (λb u g q=>?_) (λ_ q=>q) λ_ _ q=>q;rcases g with rfl|g;·exact k b u q (h b _ O).1 (h b _ O).2
   ·exact k b u q (h b _ g).1 (h b _ g).2
def J3{K}(X:K.In h)(q:W.excIn K C wD newId=true):
    ∃u N nm x bs g v sub B d z t p o k3 k D,h.get? C=some (excClassObj nm x C N bs u g v sub B d z t p o k3 k newId)/\h.Ns N D/\D "__init__"=none/\OwnTail h wD u:=by
 unfold W.excIn at q;split at q
 next z m sl ho=>
  split at q
  next C' u t p o k3 n k hm hs=>
   simp only[aq,bK,bW]at q;obtain⟨⟨⟨⟨⟨rfl,rfl⟩,a⟩,F⟩,b⟩,e⟩:=q;rcases m with⟨nm,bs,I,G,x,y,v,sub,B,d,L⟩;dsimp only at hm a b e;subst hm a;have J:sl=#[t,p,o,k3,some (.builtin n),k]:=by rcases sl with⟨l⟩;simp only at hs;rw[hs]
   subst J;exact⟨u,G,nm,x,bs,y,v,sub,B,d,z,t,p,o,k3,k,_,X _ _ ho,.of_isNs<|W.isNs_of_in X b,W.nsMap_none_of_in X b e,W.tail_of_in X F⟩
  next=>cases q
 next=>cases q
def ad8(E:XK)(C:gr):TS:=λ_ _ H=>E (.ref C) none H
def aa5(p:ExcBaseFacts B newId V8 wD)(q:W.excIn K C wD newId=true)
 (F:Gl (iL (iu P w) P w K r j N i c f m A outer s H E) x)(v:r x=some (.ref C))(d:jl x):
   PS (iL (iu P w) P w K r j N i c f m A outer s H E) (.Raise (some<|.Call (.Name x np) [] [] lU) none pos) (ad8 E C):=by
  intro a g u O D I h;obtain⟨bm,NS,nm,R,bs,l,Q,sub,ab,L,Z,X,V,U,k3,T,mN,hC,hN,b,n⟩:=J3 I.iN q;refine wpAny_Raise_call_subT (bm:=bm) p (mN:=mN) (n.hasType p.hasBase) (I.ok.hd rfl) rfl b (qU I F v ⟨rfl,evalArgs_empty ⟨rfl,cy _,hC,hN,n,λJ e mk=>?_⟩⟩ d);obtain⟨t,G,_,_⟩:=mk.there;have M:Inv (iL (iu P w) P w K r j N i c f m A outer s H E) a u O {g with heap:=J}:=I.kept (t':=g.toks) mk.keeps;refine FL M G ?_ rfl rfl rfl (by intro Y z;cases z) (λ_=>rfl) (I.hok.no mk.new) h;cases z:s.heap.get? e with
  |none=>rfl
  |some o=>obtain⟨S,k⟩:=I.base.there e o z (by intro y;exact absurd (show e∈([]:gi gr)from y) (by simp));rw[mk.new]at k;cases k
end
section
variable{P:iQ}{w:iK}{K:gF}{Y:iY}{L:gU}
def mD.MC{x a e f l N h k g}(F:mD K x a e f l)(S:pz N h<|iz e)(len:∀c H Q E,g c H Q E->c.length=h.length)
 (d:∀b (A:jd) outer (s:gQ) H c Q E,iX k (A.deeper (envOfC a (iz e) s.heap.objs.size f b))->g c H Q E->
 ∃t,md (iL (iu P w) P w K Y L N a (iz e) f b A outer s H E) (kx e) t/\t {nx:=λ_ q=>Q .non q,rt:=Q} (start N c) H):j7 P w K Y L (iu P w) (k+1) f l h g:=by obtain⟨v,u,kV,p,r,y,b,ct,m,rfl,n,j⟩:=F.ex;exact C9 n j S len λA outer s H c Q E o i=>d b A outer s H c Q E o i
abbrev TX:=St->Hp->VK->XK->Prop
def EX(X:Cx)(e:hD)(t:TX):Prop:=
 ∀a s b H Q R,Inv X a b H s->t b H Q R->wpAny (model X.prog X.w) X.A (eval e X.env) (EP X a b Q) (XP X a b R) s
abbrev TB:=Ends->(St->XK)->St->Hp->Prop
def BX(X:Cx)(c:gi Stmt)(t:TB):Prop:=
 ∀a s d H D R,Inv X a d H s->t D R d H->
  wpAny (model X.prog X.w) X.A (execs c X.env) (SP X a D) (λe f=>∃b,XP X a b (R b) e f) s
variable{X:Cx}{k:Nat}{f:gr}{M:kP}{C:iH}{B:Sp}{m:gi V}{O:jP}{x:gp}{p pos:Pos}{e:hD}{U:jT}{t:TA}
def acO{R}(F:j7 X.prog X.w X.K X.mg X.base (iu X.prog X.w) k f M C B)(g:iX k X.A)(l:Binds X.K M C O)(j:Vals m O)
 (c:X.ex=[])(I:Inv X pins σ H s)(r:Vals vs us)(h:B (vs++m) H Q R):wpAny (model X.prog X.w) X.A (call (.ref f) us) (EP X pins σ Q) (XP X pins σ R) s:=by
  have d:Vals (vs++m) (us++O):=r.append j;have i:(us++O).length=C.length:=by rw[<-d.length];exact F.len _ _ _ _ h
  refine eo (cR (F.run X.A X.stack s H ⟨us,[]⟩ (us++O) (vs++m) Q R g I.wM (l s us I.iN i) d h) λa o b=>?_);cases a with
  |error ex=>exact O8 I b c
  |ok n=>
   cases n with
   |ret u=>exact I.after b
   |_=>exact False.elim b
def O7(B:Sp)(m:gi V)(t:TA):TX:=λa H Q R=>t a H λb c=>B (b++m) c Q R
def Ti(F:j7 X.prog X.w X.K X.mg X.base (iu X.prog X.w) k f M C B)(l:iX k X.A)(u:Gl X x)(n:X.mg x=some (.ref f))(o:W.keepIn X.K (.ref f)=true)(A:Binds X.K M C O)(y:Vals m O)
 (D:PA X.mr (e::U) t)(c:X.ex=[])(d:jl x)(v:X.se e U)(b:X.bk pos U):
   EX X (.Call (.Name x p) (e::U) [] pos) (O7 B m t):=by
  intro a s g H Q R I h;refine cK (qU I u n ?_ d);refine ee (h₀:=X.base) I.ok.mod.qT o (aK (D pos a s g H _ (I.ng _) h) (λN j q=>?_) λ_ _ z=>z.elim) v b;obtain⟨J,G,E,r,q⟩:=q;have i:Inv X a g G j:=E.mM;exact⟨i.iN,acO F l A y c i r q⟩
def IP(j:EX X e te)(i:swapsWith e none pos.line X.env=pure false):BX X [.Expr e pos] (λD R a H=>te a H (λ_ c=>D.nx a c)<|R a):=by intro b s a H D R I h;refine cm (wpAny_Expr_any (aK (j b s a H _ _ I h) (λv d q=>?_) λex d q=>⟨a,q⟩) I.quiet i);obtain⟨y,c,l,n,g⟩:=q;exact bA ⟨a,c,l,g⟩
def Qx{y}(hN:X.N.Nodup)(o:X.N[i]?=some y)(l:Loc X.env.scope y)(r:EX X e te)(n:swapsWith e (some<|.Name y pos') pos.line X.env=pure false)
 (hf:X.fn y=true\/X.env.scope.names.lookup y=some .local):
   BX X [.Assign [.Name y pos'] e pos] (λD R a H=>te a H (λv c=>D.nx (a.set i<|some v) c)<|R a):=by
  intro b s a H D R I h;refine cm (eZ (aK (r b s a H _ _ I h) (λv d q=>?_) λex d q=>⟨a,q⟩) n);obtain⟨z,c,A,g,j⟩:=q;exact xZ A hN o l g (λE u=>bA ⟨_,c,u,j⟩) hf
abbrev Cx.kG(X:Cx)(ea:gr):Cx:={X with A:=X.A.mark<|some<|.ref ea,calm:=false}
variable{c:jG}{l:St}{H:Hp}{s:gQ}{T:gr}
def Inv.kG(I:Inv X c l H s)(T):Inv (X.kG T) c l H s:=by obtain⟨ok,G,F,E,D,A,y,v,u,r,a⟩:=I;obtain⟨m1,m2,Z,S,R,Q,N,J,m9,q,o,n,j,i,h,g,d,b⟩:=ok;exact⟨⟨m1,m2,Z,S,R,Q,N,J,(λz=>nomatch z),q,o,n,j,i,h,g,d,b⟩,G,F,E,D,A,y,v,u,r,a⟩
def Inv.tQ(ok:X.Ok)(I:Inv (X.kG T) c l H s):Inv X c l H s:=by obtain⟨_,q,o,n,j,i,h,g,d,b,a⟩:=I;exact⟨ok,q,o,n,j,i,h,g,d,b,a⟩
def SP.tQ{D}(ok:X.Ok)(h:SP (X.kG T).mr c D fl s):SP X c D fl s:=by
 cases fl with
 |ret u=>obtain⟨v,a,b,J,r,q⟩:=h;exact⟨v,a,b,Inv.tQ ok J.mM,r,q⟩
 |_=>obtain⟨a,b,J,q⟩:=h;exact⟨a,b,Inv.tQ ok J.mM,q⟩
def Pq(i j:Int):Prop:=Builtin.Int.intBits i<=1048576/\Builtin.Int.intBits j<=1048576
def Zm:jO X (binaryOp .Mult) (rI Pq λi j=>.int<|i*j):=xF λ_ _ _ _ _ _ _ a q=>mul_int q (IntMulOk.of_le a.1 a.2<|by decide)
def HE(_ j:Int):Prop:=j≠0/\Builtin.Int.intBits j<=9000
def WU(h:Builtin.Int.intBits j<=9000):j.natAbs.log2<9000:=by
 by_cases z:j.natAbs=0;·rw[z];decide+kernel
 ·exact(Nat.log2_lt z).mpr (intBits_le_iff.mp h)
def YS:jO X (binaryOp .FloorDiv) (rI HE λi j=>.int<|i.fdiv j):=xF λ_ _ _ _ _ _ _ a q=>floordiv_int a.1 q (.inl<|PyProof.noPylong_of_log2<|WU a.2)
def Y8:jO X (compareOp .Is) (λx y H Q=>∃a b,x=.bl a/\y=.bl b/\Q (.bl<|a==b) H):=by intro c s l H x y v u Q I g d h;obtain⟨a,b,rfl,rfl,q⟩:=h;cases g;cases d;exact is_bool (jI I q rfl)
def Zc:jO X (compareOp .IsNot) (λx y H Q=>∃a b,x=.bl a/\y=.bl b/\Q (.bl<|a !=b) H):=by intro c s l H x y v u Q I g d h;obtain⟨a,b,rfl,rfl,q⟩:=h;cases g;cases d;exact isnot_bool (jI I q rfl)
end
def oQ(P:iQ)(w:iK)(K:gF)(c:iY)(a:gU)(g:pw)(k:Nat)(x:gp)(b:iH)(e:Sp):Prop:=
 ∃f d,j7 P w K c a g k f d b e/\Binds K d b []/\W.keepIn K (.ref f)=true/\c x=some (.ref f)
abbrev ik(P:iQ)(w:iK)(K:gF)(mg:iY)(base:gU):=oQ P w K mg base (iu P w)
abbrev kX(P:iQ)(w:iK)(K:gF)(mg:iY)(base:gU):=j7 P w K mg base (iu P w)
def MP{w}:Passes (iu P w) X E0:=λ_ _ _ _ _ _ _ h=>by obtain⟨_,_,_,_,_,_,_,_,_,_,_,_,z⟩:=h;exact z.elim
variable{X:Cx}{CX:pw}{k:Nat}{ps:iH}{sp:Sp}{E:XK}{x:gp}{p pos:Pos}{e:hD}{es:jT}{t:TA}
def Ff(h:oQ X.prog X.w X.K X.mg X.base CX k x ps sp)(i:iX k X.A)(j:Gl X x)(g:Passes CX X E)(n:PA X (e::es) t)(c:jl x)
 (l:X.se e es)(a:X.bk pos es):PE X (.Call (.Name x p) (e::es) [] pos) (Oy sp [] E t):=by obtain⟨f,o,F,b,d,m⟩:=h;exact aag F i j m d b .nil g n c l a
def J2(h:oQ X.prog X.w X.K X.mg X.base (iu X.prog X.w) k x ps sp)(i:iX k X.A)(j:Gl X x)(n:PA X.mr (e::es) t)(c:X.ex=[])(d:jl x)
 (l:X.se e es)(a:X.bk pos es):EX X (.Call (.Name x p) (e::es) [] pos) (O7 sp [] t):=by obtain⟨f,o,F,b,g,m⟩:=h;exact Ti F i j m g b .nil n c d l a
end L2
namespace Fx
open PySem
section
variable{f:iQ}{w:iK}{A:jd}{E:iR}{h:gU}{g:lT GenState}{d:Drawn}{t:Nat}{i:OsState}
abbrev _root_.wx:=gH gE
variable{nm q:gp}{C N:gr}{bs bm l:jP}{hdct:gL}{sn:iH}{sub:jP}{ab:gL}{col:gH gL}{dd:kD}{k0 k1 k2 k3 k5:wx}{B newId j:String}
def aeY(F:ExcBaseFacts B newId j l)(T:OwnTail h l bm){Q:Fin->gQ->Prop}
 (hC:h.get? C=some (excClassObj nm q C N bs bm hdct sn sub ab col dd k0 k1 k2 k3 k5 newId))(x:h.Ns N mN)(y:mN "__init__"=some (.ref fI))(m:h.get? fI=some oI)(k:oI.cls=.type "function")
 (v:∀p e,Heap.MadeExcOf h p e (.ref C) vals->h.objs.size<=e->wpAny (model f w) A (call (.ref fI)<|.ref e::vals) (λr n=>r=.none/\Q (.done<|.ret<|.ref e) n) E ⟨p,g,d,t,i⟩)(u:vals.length<=sizeLine):
   wpAny (model f w) A (Builtin.«type.__call__» ⟨.ref C::vals,[]⟩) Q E ⟨h,g,d,t,i⟩:=by
  repeat(first|with_reducible refine aG hC ?_|with_reducible refine wpAny_madeBy_exc hC ?_|wp_step)
  refine codeAny_call_builtin_code (dX _ F.quiet) (wpAny_check_new_subT F T hC<|codeAny_exc_new_subT F T hC ?_ u);show wpAny _ _ _ _ _ _;generalize c:(h.push {cls:=.type "tuple",data:=.seq vals.toArray}).push {cls:=.ref C,data:=.fields #[.ref h.objs.size,.none,.none,.none,.bool false,.none]}=Ei;have a:∀b o,h.get? b=some o->Ei.get? b=some o:=λb o z=>by rw[<-c];exact aj _ (aj _ z)
  have s:Ei.get? (h.objs.size+1)=some {cls:=.ref C,data:=.fields #[.ref h.objs.size,.none,.none,.none,.bool false,.none]}:=by rw[<-c];heap_get
  have D:Ei.get? h.objs.size=some {cls:=.type "tuple",data:=.seq vals.toArray}:=by rw[<-c];exact aj _ (Heap.get?_push_at rfl rfl)
  have G:(Value.ref C::bm).contains (.ref C)=true:=by simp
  unfold isInstance;repeat(first|with_reducible refine aG s ?_|(with_reducible refine bO (a _ _ hC) ?_;rw[G])|wp_step)
  show wpAny _ _ (typeLookup (.ref C) _) _ _ _;refine wpAny_typeLookup_tail (a _ _ hC) (x.keeps a) (T.keeps a) F.mroIs F.init.lookup ?_;rw[y];refine df (ah ?_);unfold bindSpecial;refine ah (wpAny_typeOf (T:="function") ⟨_,a _ _ m,k⟩ ?_);rw[af<|by decide];refine aE (ah<|aK (v _ (h.objs.size+1) ⟨a,dw<|c6 _,h.objs.size,s,dw<|au _,D⟩<|c6 _) (λr n z=>?_) λ_ _ z=>z);obtain⟨rfl,z⟩:=z
  wp_walk
  exact z
def IZ(F:ExcBaseFacts B newId j l)(T:OwnTail h l bm){Q:iR}
 (hC:h.get? C=some (excClassObj nm q C N bs bm hdct sn sub ab col dd k0 k1 k2 k3 k5 newId))(o:h.Ns N mN)(p:mN "__init__"=some (.ref fI))(c:h.get? fI=some oI)(b:oI.cls=.type "function")
 (n:∀a e,Heap.MadeExcOf h a e (.ref C) vals->h.objs.size<=e->wpAny (model f w) (A.under<|.builtin "type.__call__" ⟨.ref C::vals,[]⟩) (call (.ref fI)<|.ref e::vals) (λr k=>r=.none/\Q (.ref e) k) E ⟨a,g,d,t,i⟩)(m:vals.length<=sizeLine):
   wpAny (model f w) A (call (.ref C) vals) Q E ⟨h,g,d,t,i⟩:=by
  have f1:=tc_lookup;have s:=tc_bind (.ref C);have hT:(⟨h,g,d,t,i⟩:gQ).TypeIs (.ref C) "type":=⟨_,hC,rfl⟩;refine eo (codeAny_of_tree ?_);show wpAny _ _ (callAny (.ref C) _) _ _ _;repeat(any_goals(first|assumption|with_reducible refine aG hC ?_|wp_step))
  refine⟨rfl,codeAny_call_builtin_at (dX _<|by decide+kernel) entry_typeCall<|wpAny_check_type_call_sub hC<|aeY F T hC o p c b (λa e z y=>n a e z y) m⟩
def acq(a:bm.contains (.type "BaseException")=true)(H:A.handled=none)
 (G:wpAny M A x (λv b=>∃e m n,v=.ref e/\b.heap.get? C=some (excClassObj nm q C N bs bm hdct sn sub ab col dd k0 k1 k2 k3 k5 newId)/\b.heap.get? e=some m/\m.cls=.ref C/\m.data=.fields n/\n[1]?=some .none/\E (.ref e) b) E s):
   wpAny M A (raiseStmt env (some x) none) Q E s:=by
  have p:(Value.ref C::bm).contains (.type "BaseException")=true:=by rw[cq,a,dG]
  unfold raiseStmt;refine ah (aK G (λv b z=>?_) λ_ _ z=>z);obtain⟨e,m,n,rfl,hC,u,J,I,o,K⟩:=z;obtain⟨r,y,D,tk,c⟩:=b;have k:∀{F:iR} {L:iR},F .none ⟨r,y,D,tk,c⟩->wpAny M A (field (.ref e) 1) F L ⟨r,y,D,tk,c⟩:=λz=>cG u I o z;repeat(first|with_reducible refine k ?_|(with_reducible refine aG u ?_;rw[J])|with_reducible refine aG hC ?_|(with_reducible refine bO hC ?_;rw[p])|wp_step)
  exact wpAny_raiseNew_none H K
abbrev mh(h:gU)(C:gr)(n:gp)(y:wx):Prop:=∀M A E g d t i (Q:gH gE->gQ->Prop),
 Q y ⟨h,g,d,t,i⟩->wpAny M A (typeLookup (.ref C) n) Q E ⟨h,g,d,t,i⟩
open Builtin Builtin.ObjectAttr in
def adC{o tk}{Q:Fin->gQ->Prop}(hC:h.get? C=some (excClassObj nm q C N bs bm true sn sub ab col dd k0 k1 k2 k3 k5 newId))
 (a:refuseLoop (.ref x) "__setattr__" bm=pure ())(M:mh h C name none)(u:h.get? x=some o)(R:o.cls=.ref C)(k:o.data=.fields vs)(F:o.dict=none)
 (O:∀m r,m.get? x=some {o with dict:=some h.objs.size}->m.Ns1 h.objs.size (λy=>if y=name then some v else none)->(∀b ob,b≠x->h.get? b=some ob->m.get? b=some ob)->Q (.done<|.ret .none) ⟨m,g,d,r,i⟩):
   wpAny (model f w) A (Builtin.«object.__setattr__» ⟨[.ref x,.str name tk,v],[]⟩) Q E ⟨h,g,d,t,i⟩:=by
  unfold Builtin.«object.__setattr__»;repeat(first|rw[refuse_eq]|(rw[refuseLoop_ref,a])|(with_reducible refine aG u ?_;rw[R])|with_reducible refine wpAny_mroOf_exc hC ?_|with_reducible refine M _ _ _ _ _ _ _ _ ?_|wp_step)
  rw[F,ao<|by simp[typeHasDict]];split
  ·rename_i z;cases z
  split
  ·rename_i c z;rw[k]at z;cases z
  ·have n:(h.push {cls:=.type "dict",data:=.dict #[]}).get? x=some o:=aj _ u;have H:x≠h.objs.size:=aW (Heap.lt_size u);refine ah (wpAny_alloc'<|ah<|wpAny_update' n<|aE ?_);generalize D:(h.push {cls:=.type "dict",data:=.dict #[]}).update x (λo=>{cls:=o.cls,dict:=some h.objs.size,data:=o.data,slots:=o.slots})=zK;have U:zK.get? h.objs.size=some {cls:=.type "dict",data:=.dict #[]}:=by rw[<-D];exact(Heap.get?_update_ne _ _ _ _ H.symm).trans (Heap.get?_push_at rfl rfl)
   have S:zK.get? x=some {o with dict:=some h.objs.size}:=by rw[<-D];refine bT _ n ?_;rcases o with⟨oc,od,K,J⟩;simp only at k;subst k;rfl
   have T:∀b ob,b≠x->h.get? b=some ob->zK.get? b=some ob:=λb ob s p=>by rw[<-D];exact(Heap.get?_update_ne _ _ _ _ s).trans (aj _ p)
   have L:zK.Ns h.objs.size (λ_=>none):=⟨_,#[],_,U,rfl,λe P=>absurd P<|by simp,λ_=>rfl⟩;show wpAny _ _ (storeInDict h.objs.size (.str name tk) name v) _ _ _;unfold storeInDict newKeyGuard;refine ah (aE<|ah<|wpAny_nsSet1 (Heap.Ns1.of_empty L) λm I G=>?_);obtain⟨oD,Y,Z,X,W,V⟩:=I.count (Within.cons name v Within.nil);refine ah (wpAny_lookBehind X (by rw[W];exact pastItsLine_dict (av V (by rw[ag,bj,dZ];decide))) ?_)
   wp_walk
   exact O m _ ((G.2 x H).trans S) I λb ob s p=>(G.2 b<|aW<|Heap.lt_size p).trans (T b ob s p)
def QY{o}{Q:qH}(hC:h.get? C=some (excClassObj nm q C N bs bm true sn sub ab col dd k0 k1 k2 k3 k5 newId))
 (a:bm.contains (.type "object")=true)(e:h.get? x=some o)(m:o.cls=.ref C)(k:Q () ⟨h,g,d,t,i⟩):wpAny M A (checkBuiltinCall "object.__setattr__" ⟨[.ref x,nv,v],[]⟩) Q E ⟨h,g,d,t,i⟩:=by
  have c:=fU;have b:(Value.ref C::bm).contains (.type "object")=true:=by rw[cq,a,dG]
  have n:=c.args (.ref x) nv v;simp only[checkBuiltinCall,c.kind,c.split];refine ah ?_;unfold isInstance;repeat(first|(with_reducible refine aG e ?_;rw[m])|(with_reducible refine bO hC ?_;rw[b])|wp_step)
  exact k
def adD{o}{Q:qH}(hC:h.get? C=some (excClassObj nm q C N bs bm true sn sub ab col dd k0 k1 k2 k3 k5 newId))
 (p:bm.contains (.type "object")=true)(k:refuseLoop (.ref x) "__setattr__" bm=pure ())(F:mh h C "__setattr__"<|some<|.builtin "object.__setattr__")(D:mh h C name none)(n:h.get? x=some o)(u:o.cls=.ref C)(r:o.data=.fields vs)(s:o.dict=none)
 (G:∀m e,m.get? x=some {o with dict:=some h.objs.size}->m.Ns1 h.objs.size (λy=>if y=name then some v else none)->(∀b ob,b≠x->h.get? b=some ob->m.get? b=some ob)->Q () ⟨m,g,d,e,i⟩):
   wpAny (model f w) A (setAttr (.ref x) name v) Q E ⟨h,g,d,t,i⟩:=by
  have z:=fU;have H:=z.slot.bind (.ref x);unfold setAttr callSpecial? specialOf;repeat(any_goals(first|assumption|(with_reducible refine aG n ?_;rw[u])|with_reducible refine F _ _ _ _ _ _ _ _ ?_|wp_step))
  refine cz z.slot.plain z.entry (QY hC p n u<|adC hC k D n u r s λm e a b c=>?_);repeat(any_goals(first|assumption|wp_step))
  exact G m e a b c
def QW{o}{Q:qH}(hC:h.get? C=some (excClassObj nm q C N bs bm true sn sub ab col dd k0 k1 k2 k3 k5 newId))
 (b:bm.contains (.type "BaseException")=true)(e:h.get? x=some o)(n:o.cls=.ref C)(k:Q () ⟨h,g,d,t,i⟩):wpAny M A (checkBuiltinCall "BaseException.__getattribute__" ⟨[.ref x,nv],[]⟩) Q E ⟨h,g,d,t,i⟩:=by
  have m:builtinKind "BaseException.__getattribute__"=some .slot:=by decide+kernel
  have a:splitId "BaseException.__getattribute__"=some ("BaseException","__getattribute__"):=by decide+kernel
  have c:(Value.ref C::bm).contains (.type "BaseException")=true:=by rw[cq,b,dG]
  have p:=fV (.ref x) nv;simp only[checkBuiltinCall,m,a];refine ah ?_;unfold isInstance;repeat(first|(with_reducible refine aG e ?_;rw[n])|(with_reducible refine bO hC ?_;rw[c])|wp_step)
  exact k
open Builtin Builtin.ObjectAttr in
def WQ{o tk}{Q:Fin->gQ->Prop}(hC:h.get? C=some (excClassObj nm q C N bs bm true sn sub ab col dd k0 k1 k2 k3 k5 newId))
 (m:mh h C name none)(e:h.get? x=some o)(k:o.cls=.ref C)(a:o.data=.fields vs)(b:o.dict=some dx)(r:h.Ns dx mA)(n:mA name=some v)(p:Q (.done<|.ret v) ⟨h,g,d,t,i⟩):
   wpAny (model f w) A (Builtin.«object.__getattribute__» ⟨[.ref x,.str name tk],[]⟩) Q E ⟨h,g,d,t,i⟩:=by
  unfold Builtin.«object.__getattribute__»;repeat(first|(with_reducible refine aG e ?_;rw[k])|with_reducible refine m _ _ _ _ _ _ _ _ ?_|wp_step)
  split
  ·rename_i c z;rw[a]at z;cases z
  unfold instanceDict;repeat(first|(with_reducible refine aG e ?_;rw[k])|with_reducible refine aG hC ?_|wp_step)
  rw[b];repeat(first|(with_reducible refine wpAny_nsGet r ?_;rw[n])|wp_step)
  exact p
def WO{o tk}{Q:iR}(hC:h.get? C=some (excClassObj nm q C N bs bm true sn sub ab col dd k0 k1 k2 k3 k5 newId))
 (b:bm.contains (.type "BaseException")=true)(s:mh h C "__getattribute__"<|some<|.builtin "BaseException.__getattribute__")(r:mh h C "__getattr__" none)(p:mh h C name none)(a:h.get? x=some o)(m:o.cls=.ref C)(e:o.data=.fields vs)
 (k:o.dict=some dx)(y:h.Ns dx mA)(u:mA name=some v)(c:handedOut v=pure v)(D:Q v ⟨h,g,d,t,i⟩):
   wpAny (model f w) A (getAttrBy (.ref x) (.str name tk) fill expr) Q E ⟨h,g,d,t,i⟩:=by
  have n:=fC;have F:=n.ga.bind (.ref x);have z:(expr&&onTheHeap (Value.builtin "BaseException.__getattribute__"))=false:=by cases expr<;>rfl
  have z2:(Value.builtin "BaseException.__getattribute__"==Value.builtin "object.__getattribute__")=false:=by decide+kernel
  have z1:(onTheHeap (Value.ref C)&&Value.builtin "BaseException.__getattribute__"==Value.builtin "object.__getattribute__")=false:=by rw[z2];rfl
  repeat(any_goals(first|assumption|(with_reducible refine aG a ?_;rw[m])|with_reducible refine s _ _ _ _ _ _ _ _ ?_|with_reducible refine r _ _ _ _ _ _ _ _ ?_|wp_step))
  refine cz n.ga.plain fS (QW hC b a m<|WQ hC p a m e k y u ?_);repeat(any_goals(first|assumption|(rw[c])|wp_step))
def WT{o}{Q:iR}(hC:h.get? C=some (excClassObj nm q C N bs bm true sn sub ab col dd k0 k1 k2 k3 k5 newId))
 (a:bm.contains (.type "BaseException")=true)(n:mh h C "__getattribute__"<|some<|.builtin "BaseException.__getattribute__")(m:mh h C "__getattr__" none)(k:mh h C name none)(p:h.get? x=some o)(u:o.cls=.ref C)(c:o.data=.fields vs)
 (e:o.dict=some dx)(s:h.Ns dx mA)(r:mA name=some v)(b:handedOut v=pure v)(y:Q v ⟨h,g,d,t+1,i⟩):
   wpAny (model f w) A (getAttr (.ref x) name expr) Q E ⟨h,g,d,t,i⟩:=by
  unfold getAttr;repeat(any_goals(first|assumption|with_reducible apply WO hC a n m k p u c e s r b|wp_step))
end
end Fx
namespace L2
open PySem PySem.Spec PyProof.Rows Fx
def l5(e C t:gr)(d:kD):HO:=.ext λh=>h.get? e=some {cls:=.ref C,dict:=d,data:=.fields #[.ref t,.none,.none,.none,.bool false,.none]}
def qg(e C:gr)(d:kD):HO:=.ext λh=>∃a c,h.get? e=some a/\a.cls=.ref C/\(∀b,d=some b->a.dict=some b)/\a.data=.fields c
def FK{w}{h:gU}{d}(q:h.get? e=some {cls:=.ref C,dict:=d,data:=.fields #[.ref t,.none,.none,.none,.bool false,.none]}):kj P w H h e (l5 e C t d):=
 ⟨q,⟨_,q⟩,λb a z k=>k _ z⟩
def Tj{w}{h:gU}{d}(q:h.get? e=some oe)(l:oe.cls=.ref C)(j:∀a,d=some a->oe.dict=some a)(i:oe.data=.fields vs):kj P w H h e (qg e C d):=
 ⟨⟨oe,vs,q,l,j,i⟩,⟨_,q⟩,λo n ⟨g,c,f,m,d1,b⟩ k=>⟨g,c,k _ f,m,d1,b⟩⟩
section
variable{X:Cx}{i:jG}{l:St}{H:Hp}{s:gQ}{e:gr}{o:HO}
def Inv.AS(I:Inv X i l H s)(n:BD X i e)(J:H e=none)(new:kj X.prog X.w (upd H e o) s.heap e o):Inv X i l (upd H e o) s:=by
 obtain⟨ok,B,A,a,w,v,j,f,g,h,len⟩:=I;have d:∀b u,H b=some u->b≠e:=λb u q z=>by rw[z,J]at q;cases q
 refine⟨ok,B,A,⟨a.keep,a.slot,λb ob q K G=>?_,a.there,λb k q=>?_,λb ob u q=>?_,λb C q=>?_⟩,w,v,?_,λx c t=>?_,λp r=>?_,λb u q=>?_,len⟩;·rw[hA<|λz=>by rw[z,n.old]at q;cases q];exact a.free b ob q K G
 ·have z:=a.tups b k q;rw[hA<|d _ _ z];exact z
 ·have z:=a.nU b ob u q;rw[hA<|d _ _ z];exact z
 ·obtain⟨m,z⟩:=a.oJ b C q;exact⟨m,by rw[hA (d _ _ z)];exact z⟩
 ·rw[hA<|bQ n.loc];exact j
 ·rw[hA<|n.Jk x c t];exact f x c t
 ·obtain⟨F,E,D⟩:=g p r;exact⟨F,by rw[hA (n.pin p r)];exact E,D⟩
 ·by_cases z:b=e;·subst z;rw[i8]at q;cases q;exact new
  ·rw[hA z]at q;exact(h b u q).o8 (λ_ _ _ y=>y) (λc y=>by rw[hA<|d _ _ y];exact y) λc k y=>by rw[hA<|d _ _ y];exact y
def drop(H:Hp)(e:gr):Hp:=λb=>if b=e then none else H b
def uw(h:b≠e):drop H e b=H b:=ao h
def Inv.forget(I:Inv X i l H s)(q:H e=some (.ext φ)):Inv X i l (drop H e) s:=by
 obtain⟨ok,v,t,a,r,n,j,g,A,h,len⟩:=I;have dn:∀b,H b=none->drop H e b=none:=λb z=>by unfold drop;split<;>first|rfl|exact z
 have f:∀b u,H b=some u->(∀d,u≠.ext d)->b≠e:=λb u y z x=>by rw[x,q]at y;cases y;exact z _ rfl
 refine⟨ok,v,t,⟨a.keep,a.slot,λb ob y E C=>dn b<|a.free b ob y E C,a.there,λb k y=>?_,λb ob u y=>?_,λb w y=>?_⟩,r,n,dn _ j,λx c D=>dn _<|g x c D,λp F=>?_,λb u y=>?_,len⟩
 ·have z:=a.tups b k y;rw[uw<|f _ _ z λd y=>nomatch y];exact z
 ·have z:=a.nU b ob u y;rw[uw<|f _ _ z λd y=>nomatch y];exact z
 ·obtain⟨m,z⟩:=a.oJ b w y;exact⟨m,by rw[uw (f _ _ z λd y=>nomatch y)];exact z⟩
 ·grind
 ·have B:b≠e:=λz=>by subst z;unfold drop at y;rw[af rfl]at y;cases y
  rw[uw B]at y;exact(h b u y).o8 (λ_ _ _ z=>z) (λc z=>by rw[uw<|f _ _ z λd y=>nomatch y];exact z) λc k z=>by rw[uw<|f _ _ z λd y=>nomatch y];exact z
noncomputable def zj(K:gF)(C f:gr)(c:jP)(a:String):gL:=match K.lookup C with
 |some ⟨.type "type",_,.cls b,d⟩=>(match b.mro,d.toList with
  |.ref g::bm,[_,_,_,_,some (.builtin n),_]=>g==C&&n==a&&!b.hasDel&&b.hasDict&&W.tailIn K c bm&&W.nsOkIn K b.ns&&W.nsIn K b.ns "__init__"==some (some<|.ref f)
  |_,_=>false)
 |_=>false
def Yp{K:gF}{n}(X:K.In h)(G:h.Ns N m)(e:W.nsIn K N n=some (some v)):m n=some v:=by
 obtain⟨o,f,g,a,b,_,hf⟩:=G;unfold W.nsIn at e;split at e
 next c d es1 n1 sl q=>
  have z:=X _ _ q;rw[a]at z;cases z;cases b;split at e
  next en he=>cases e;rw[<-hf];unfold nsFind findBy;simp_all
  next=>split at e<;>cases e
 next=>cases e
def wO{K:gF}{C B:gr}{j:jP}{a:String}(q:zj K C B j a=true):
    ∃t N nm v bs u sub y c x r p m k3 k,∀h:gU,K.In h->h.get? C=some (excClassObj nm v C N bs t true u sub y c x r p m k3 k a)/\OwnTail h j t/\∃z,h.Ns N z/\z "__init__"=some (.ref B):=by
 unfold zj at q;split at q
 next x cd sl ho=>
  split at q
  next C1 t r p m k3 n k hm hs=>
   simp only[aq,bK,bW]at q;obtain⟨⟨⟨⟨⟨⟨rfl,rfl⟩,b⟩,g⟩,D⟩,d⟩,f⟩:=q;rcases cd with⟨nm,bs,E,w,v,A,u,sub,y,c,I⟩;dsimp only at hm b d f g;subst hm b g;have F:sl=#[r,p,m,k3,some<|.builtin n,k]:=by grind
   subst F;refine⟨t,w,nm,v,bs,u,sub,y,c,x,r,p,m,k3,k,λh X=>?_⟩;have G:h.Ns w (h.nsMap w):=.of_isNs (W.isNs_of_in X d);exact⟨X _ _ ho,W.tail_of_in X D,_,G,Yp X G f⟩
  next=>cases q
 next=>cases q
structure om(K:gF)(C fI:gr)(field:gp):Prop where
 cls:zj K C fI [.type "ValueError",.type "Exception",.type "BaseException",.type "object"] "ValueError.__new__"=true
 fn:W.isFn K (.ref fI)=true
 kp:W.keepIn K (.ref C)=true
 sa:W.findIn K (.ref C) "__setattr__"=some (some<|.builtin "object.__setattr__")
 ga:W.findIn K (.ref C) "__getattribute__"=some (some<|.builtin "BaseException.__getattribute__")
 gn:W.findIn K (.ref C) "__getattr__"=some none
 fl:W.findIn K (.ref C) field=some none
def si{K:gF}{n}(X:K.In h)(e:W.findIn K (.ref C) n=some y):mh h C n y:=λM A E g d t a Q b=>(W.looks_findIn (M:=M) X e).here (s:=⟨h,g,d,t,a⟩) b
theorem NK:∀{a},OwnTail h [.type "ValueError",.type "Exception",.type "BaseException",.type "object"] a->refuseLoop (.ref x) "__setattr__" a=pure ()
 |_,.base=>PySem.F.store_ValueError.passes (.ref x)
 |_,.own _ _ _ t=>by rw[refuseLoop_ref];exact NK t
def xY(C:gr)(a:gp):Sp:=λc H Q _=>∃e t v,c=[.ref e,v]/\H e=some (l5 e C t none)/\∀b,H b=none->b≠e->Q .non (upd (upd H e<|l5 e C t<|some b) b<|.xd [(a,v)])
variable{o j:hD}{a:gp}{pos B:Pos}{J F:TE}{C r:gr}
def acU(C:gr)(J F:TE)(a:gp):TS:=λD l H=>F l H λy d=>J l d λx c=>∃e t,x=.ref e/\c e=some (l5 e C t none)/\∀b,c b=none->b≠e->D.nx l (upd (upd c e<|l5 e C t<|some b) b<|.xd [(a,y)])
def M4(c:om X.K C r a)(ha:PE X o J)(Y:PE X j F)(Z:swapsWith j (some<|.Attribute o a B) pos.line X.env=pure false)(A:X.ex=[]):PS X (.Assign [.Attribute o a B] j pos) (acU C J F a):=by
 intro i s l H D I h;refine eh (g6 (Y i s l H _ I h) λu P m=>?_) Z;obtain⟨y,H1,I1,R,S⟩:=m;refine g6 (ha i P l H1 _ I1 S) λxv E m=>?_;obtain⟨x,O,n,Q,e,t,ex,K,k⟩:=m;subst ex;cases Q;obtain⟨bm,N,nm,qn,bs,sn,sub,ab,col,dd,k0,k1,k2,k3,k5,all⟩:=wO c.cls;obtain⟨hC,T,mN,hN,hi⟩:=all _ n.iN;obtain⟨W,_,_⟩:=n.hok e _ K;have v:E.heap.get? e=some {cls:=.ref C,dict:=none,data:=.fields #[.ref t,.none,.none,.none,.bool false,.none]}:=W;obtain⟨w,g,d,tk,U⟩:=E;refine adD hC (T.hasType<|by rfl) (NK T) (si n.iN c.sa) (si n.iN c.fl) v rfl rfl rfl λL p M g2 g3=>?_;have fresh:O w.objs.size=none:=n.hok.fresh (au _);have G:w.objs.size≠e:=eL (Heap.lt_size v)
 have I3:Inv X i l (upd O e<|l5 e C t<|some w.objs.size) ⟨L,g,d,p,U⟩:=by refine n.write (x:=e) (e:=e) (o:=l5 e C t<|some w.objs.size) (h':=L) (t':=p) (by rw[K];trivial) (.inl rfl) (λb u V q=>g3 b u V q) ⟨_,M⟩ (FK M)
 refine⟨l,_,I3.AS (e:=w.objs.size) (o:=.xd [(a,y)]) (n.Ag (dw<|au _) A) ?_ ?_,k _ fresh G⟩;·rw[hA G];exact fresh
 ·refine⟨_,g2,λf=>?_⟩;by_cases z:f=a
  ·subst z;rw[af rfl];simp[List.lookup,lS];exact R
  ·rw[ao z];have:(f==a)=false:=by simpa using z
   simp[List.lookup,this,lS]
end
variable{P:iQ}{w:iK}{K:gF}{mg:iY}{U:gU}{N:iH}{Y:gp}{S:Scope}{f:gr}{cd:gE}{A:jd}{outer:kH}{s:gQ}{H:Hp}{E:XK}
def ad9(E:XK)(C:gr)(a:gp)(t:TA):TS:=λ_ d H=>t d H λe c=>∃v,e=[v]/\∀b,c b=none->E (.ref C) (some b) (upd c b<|.xd [(a,v)])
def JM{H:Hp}(g:H e=none)(d:dx≠e):drop (upd (upd (upd H e a) e b) dx c) e=upd H dx c:=by
 funext y;unfold drop;by_cases z:y=e;·subst z;rw[af rfl,hA<|bQ d];exact g.symm
 ·rw[ao z];by_cases z2:y=dx;·subst z2;rw[i8,i8]
  ·rw[hA z2,hA z2,hA z,hA z]
def Kg{K:gF}(X:K.In h)(q:W.isFn K (.ref fI)=true):∃a,h.get? fI=some a/\a.cls=.type "function":=by have z:W.typeIn K (.ref fI)=some (.type "function"):=bK.mp q;obtain⟨o,c,b⟩:=aL.mp (show(K.lookup fI).map (·.cls)=some (.type "function")from z);exact⟨o,X _ _ c,b⟩
def aa6{x:gp}{C fI:gr}{a:gp}{k:Nat}{F:kP}{p1 p2:gp}{np i pos:Pos}{j:hD}{t:TA}(c:om K C fI a)(FI:j7 P w K mg U pY k fI F [p1,p2]<|xY C a)(bI:Binds K F [p1,p2] [])
    (hr:iX (k+1) (iL (iu P w) P w K mg U N Y S f cd A outer s H E).A)(hg:Gl (iL (iu P w) P w K mg U N Y S f cd A outer s H E) x)(hm:mg x=some (.ref C))(ha:PA (iL (iu P w) P w K mg U N Y S f cd A outer s H E) [j] t)
    (Z:autoParam (jl x) aZ1)
    (he:autoParam (starEach [j] (iL (iu P w) P w K mg U N Y S f cd A outer s H E).env=(false,eval j (iL (iu P w) P w K mg U N Y S f cd A outer s H E).env)::starEach [] (iL (iu P w) P w K mg U N Y S f cd A outer s H E).env) aZ0)
    (R:autoParam ((backTo i<|starEach [] (iL (iu P w) P w K mg U N Y S f cd A outer s H E).env).any (·.1)=false) aZ0):
    PS (iL (iu P w) P w K mg U N Y S f cd A outer s H E) (.Raise (some<|.Call (.Name x np) [j] [] i) none pos) (ad9 E C a t):=by
 intro m s1 σ H1 D I h;obtain⟨bm,NS,nm,qn,bs,sn,sub,ab,col,dd,k0,k1,k2,k3,k5,all⟩:=wO c.cls;have T1:=(all _ I.iN).2.1;rw[arm_exec_Raise]
 refine ah (cI (acq (C:=C) (nm:=nm) (q:=qn) (N:=NS) (bs:=bs) (bm:=bm) (hdct:=true) (sn:=sn) (sub:=sub) (ab:=ab) (col:=col) (dd:=dd) (k0:=k0) (k1:=k1) (k2:=k2) (k3:=k3) (k5:=k5) (newId:="ValueError.__new__")
  (T1.hasType (by rfl)) (I.ok.hd rfl) (ah (aK (wpAny_Call_ofName (qU I hg hm ?_ Z)) (λv s3 z=>ah (cI (aE z))) λ_ _ z=>z))))
 refine ee (h₀:=U) I.ok.mod.qT c.kp (g6 (ha i m s1 σ H1 _ I h) λus s2 O=>?_) he R;obtain⟨vs,G,y,r,v,ev,kk⟩:=O;refine⟨y.iN,?_⟩;subst ev;obtain⟨u,rfl,ru⟩:=vals1 r;obtain⟨hC,T,mN,hN,hi⟩:=all _ y.iN;obtain⟨oI,X,V⟩:=Kg y.iN c.fn;obtain⟨hp,g,d,tk,os⟩:=s2;refine IZ dE T hC hN hi X V (λh1 e mk ge=>?_) (by show 1<=sizeLine;decide);obtain⟨l,M,_,_⟩:=mk.there;have na:=y.Ag mk.new rfl;have en:G e=none:=y.hok.no mk.new;have I3:Inv (iL (iu P w) P w K mg U N Y S f cd A outer s H E) m σ G ⟨h1,g,d,tk,os⟩:=y.kept (t':=tk) mk.keeps;have I4:=I3.AS (e:=e) (o:=l5 e C l none) na en (FK M)
 refine eo (cR (FI.run _ (iL (iu P w) P w K mg U N Y S f cd A outer s H E).stack ⟨h1,g,d,tk,os⟩ _ ⟨[.ref e,u],[]⟩ ([.ref e,u]++[]) [.ref e,v] (λv1 H5=>v1=.non/\∃b,G b=none/\b≠e/\H5=upd (upd (upd G e (l5 e C l none)) e (l5 e C l (some b))) b (.xd [(a,v)])) E0
  (hr.make C [u] []) (I4.wM.make C [u] []) (bI _ [.ref e,u] I4.iN rfl) (.cons rfl (.cons ru .nil)) ⟨e,l,v,rfl,i8,λb J p=>⟨rfl,b,?_,p,rfl⟩⟩) λL s5 Q=>?_)
 ·rw[hA p]at J;exact J
 cases L with
 |error ex=>exact Q.elim
 |ok fl=>
  cases fl with
  |ret u1=>
   obtain⟨v1,H5,I5,rv,rfl,b,J,p,rfl⟩:=I4.after Q;have B:upd (upd (upd G e<|l5 e C l none) e<|l5 e C l<|some b) b (.xd [(a,v)]) e=some (l5 e C l<|some b):=by rw[hA<|bQ p,i8]
   obtain⟨hx,_,_⟩:=I5.hok e _ B;have n:s5.heap.get? e=some {cls:=.ref C,dict:=some b,data:=.fields #[.ref l,.none,.none,.none,.bool false,.none]}:=hx;have I6:=I5.forget B;rw[JM en p]at I6;refine⟨rv,e,_,_,rfl,(all _ I5.iN).1,n,rfl,rfl,rfl,?_⟩;exact FL I6 n na.old rfl rfl rfl (λSV z=>by cases z;exact⟨_,n,rfl⟩) (λ_=>rfl) (by rw[hA (bQ p)];exact en) (kk b J)
  |_=>exact False.elim Q
variable{X:Cx}{O:jG}{σ:St}
def Inv.ae2{i:Nat}{n:gp}{C:gU}{u:wx}{m:iY}(I:Inv X O σ H s)(hN:X.N.Nodup)(hi:X.N[i]?=some n)
    (hm:s.heap.Ns X.env.locals m)(hl:∀(j:Nat) (x:gp) (v:V),X.N[j]?=some x->σ[j]?=some (some v)->pF X.env.scope x->∃u,RelV v u/\Look X.env s.heap m x u)
    (hn:C.Ns X.env.locals<|λx=>if x=n then u else m x)(sb:Heap.SameBut X.env.locals s.heap C):Inv X O (σ.set i none) H {s with heap:=C}:=by
 obtain⟨ok,r1,r2,d,_,ce,t,h,D,G,len⟩:=id I;have k:∀b o,b≠X.env.locals->s.heap.get? b=some o->C.get? b=some o:=λb o z q=>(sb.2 b z).trans q;have a:∀b o,X.s₀.heap.get? b=some o->b≠X.env.locals:=λb o q=>aW (ak (Heap.lt_size q) ok.above);refine⟨ok,r1,r2,⟨λb o q Q M g=>k b o (a b o q)<|d.keep b o q Q M g,λb o q Q M g=>?_,d.free,λb o q g=>?_,d.tups,d.nU,d.oJ⟩,⟨_,hn,λj x v e1 Z e3=>?_⟩,λx c e=>?_,t,h,λp hp=>?_,λb u q=>?_,?_⟩
 ·obtain⟨sl,z⟩:=d.slot b o q Q M g;exact⟨sl,k _ _ (a b o q) z⟩
 ·obtain⟨o1,z⟩:=d.there b o q g;exact⟨o1,k _ _ (a b o q) z⟩
 ·have T:j≠i:=λz=>by
   grind
  rw[ai<|bQ T]at Z;obtain⟨uu,r,l⟩:=hl j x v e1 Z e3;have nx:x≠n:=λz=>by subst z;exact T (Ah hN e1 hi)
  refine⟨uu,r,?_⟩;rcases l with⟨F,B⟩|⟨F,cc,B,o,J,L⟩;·exact .inl ⟨F,by simp only[ao nx];exact B⟩
  ·exact .inr ⟨F,cc,B,o,k _ _ (I.oq x cc B) J,L⟩
 ·obtain⟨v,o,J,L⟩:=ce x c e;exact⟨v,o,k _ _ (I.oq x c e) J,L⟩
 ·obtain⟨p1,p2,R,p4⟩:=D p hp;exact⟨k _ _ R p1,p2,R,p4⟩
 ·have nl:∀c y,H c=some y->c≠X.env.locals:=λc y z w=>by rw[w,t]at z;cases z
  refine(G b u q).o8 (λc v e z=>k c v ?_ z) (λ_ z=>z) λ_ _ z=>z;rcases e with rfl|e;·exact nl _ _ q
  ·exact nl _ _ e
 ·rw[aY];exact len
abbrev _root_.ji:=gr->Prop
abbrev _root_.t6:=gL->gQ->Prop
def aa7{l kG:gi Stmt}{b0:Stmt}{tb:TB}{ts:TS}{x n:gp}{i:Nat}{C:gr}{mt:ji}{np k pos:Pos}(hX:X.stack=X.env::X.outer)(hfr:X.env.frame=some X.env.locals)(hN:X.N.Nodup)(hi:X.N[i]?=some n)(hk:X.env.scope.names.lookup n=some .local)
    (hb:BX X l tb)(hs:∀b,md (X.kG b).mr (b0::kG) ts)
    (hmt:∀(h:gU) (g:lT GenState) (d:Drawn) (tk:Nat) (p:OsState) (e j:gr) (oe:kQ) (M:Model) (A:jd) (E:iR) (Q:t6),X.K.In h->mt j->h.get? e=some oe->oe.cls=.ref j->Q true ⟨h,g,d,tk,p⟩->wpAny M A (excMatches (.ref e)<|.ref C) Q E ⟨h,g,d,tk,p⟩)
    (hg:Gl X x)(hm:X.mg x=some (.ref C))(hf:X.fn n=true\/X.env.scope.names.lookup n=some .local)(hdb:jl x):
    PS X (.Try l [.ExceptHandler (some<|.Name x np) (some n) (b0::kG) k] [] [] pos)
     (λD σ H=>tb D (λc cls d F=>∃j,cls=.ref j/\mt j/\∀b,F b=none->ts {nx:=λo H2=>D.nx (o.set i none) H2,rt:=D.rt} (c.set i<|some<|.ref b) (upd F b<|qg b j d)) σ H):=by
 intro O s σ H D I h;refine wpAny_Try_except (aK (hb O s σ H D _ I h) (λfl s1 q1=>?_)<|λex s1 q1=>?_)
 ·cases fl with
  |next=>exact bA q1
  |_=>exact q1
 ·obtain⟨c,b,cls,d,F,B,rfl,fl,cl,en,na,j,rfl,Ed,hts⟩:=q1;rw[hX]at fl;refine C7 (outer:=X.outer) (I.ok.frames.trans<|aI some hX) hfr fl λh1 x1 u1=>zI (s:={s1 with heap:=h1}) x1 λh2 x2 u2=>?_;obtain⟨a0,vD,_⟩:=id x2.1;have I2:Inv X O c F {s1 with heap:=h2}:=cl h2 vD (u1.trans u2);obtain⟨⟨a1,fw⟩,_⟩:=id x2;obtain⟨ob,Eh,L⟩:=fw.there;refine wpAny_handleBy_cons (codeAny_handlers_test (qU (X:=X.kG b) (I2.kG b) hg hm ?_ hdb)) (by intro z;cases z);obtain⟨hp,g,dr,tk,p⟩:=s1;refine hmt h2 g dr tk p b j ob _ _ _ _ I2.iN Ed Eh L (codeAny_handlers_suite_as ?_);refine Kf (s:=⟨h2,g,dr,tk,p⟩) x2 λh3 x3 u3=>?_;obtain⟨⟨a3,Ko⟩,R7⟩:=id x3;obtain⟨oe,vs,T,oT,tz,KQ,⟨UR,_⟩,UX,_⟩:=Ko.2.2.2;have I3:Inv X O c F ⟨h3,g,dr,tk,p⟩:=cl h3 Ko.1 ((u1.trans u2).trans u3);have I4:Inv X O c (upd F b (qg b j d)) ⟨h3,g,dr,tk,p⟩:=I3.AS na en (Tj KQ UR (λdx z=>by
   obtain⟨o2,y1,y2⟩:=R7.1 dx z;rw[KQ]at y1;cases y1;exact y2) UX)
  refine xZ (X:=(X.kG b).mr) ((I4.kG b).ng _) hN hi (.inl hk) (v:=.ref b) rfl (λs5 I5=>?_) hf;refine aK (hs b O s5 _ _ {nx:=λo H2=>D.nx (o.set i none) H2,rt:=D.rt} I5<|hts b en) (λf s6 q6=>?_) (λ_ _ z=>z.elim);have fin:∀(a:St) (t:Hp) (Q6:qH),Inv X O a t s6->(∀G,Inv X O (a.set i none) t G->Q6 () G)->wpAny (model X.prog X.w) X.A (do bindName X.env n .none;unbindBehindTheSuite X.env n k) Q6 X.xe s6:=by
   intro a t Q6 I6 hQ;refine ah (wpAny_bindName<|xZ I6 hN hi (.inl hk) (v:=.non) rfl (λG y=>?_) hf);obtain⟨m,R,Z⟩:=id y.loc;have li:(a.set i<|some V.non)[i]?=some (some V.non):=by have K4:i<X.N.length:=(aD.mp hi).1;rw[aw (by rw[I6.len];exact K4)]
   obtain⟨u,ru,lk⟩:=Z i n .non hi li (.inl hk);have Vu:m n=some u:=by
    rcases lk with⟨_,z⟩|⟨z,_⟩;·exact z
    ·rcases z with z|z<;>(rw[show X.env.kindOf n=some .local from hk]at z;cases z)
   unfold unbindBehindTheSuite;refine wpAny_onRaise (wpAny_unbindName_local hk R Vu (by rw[I6.ok.kind];rfl) λh8 u8 Vx sb8=>?_);have I8:=y.ae2 hN hi R Z Vx sb8;rw[fH]at I8;exact hQ _ I8
  have ok:=I.ok;cases f with
  |next=>obtain⟨a,t,J,q⟩:=q6;exact fin a t _ (Inv.tQ ok J.mM) λG y=>⟨_,_,y,q⟩
  |ret u=>obtain⟨v,a,t,J,r,q⟩:=q6;exact fin a t _ (Inv.tQ ok J.mM) λG y=>⟨v,_,_,y,r,q⟩
  |_=>obtain⟨_,_,_,q⟩:=q6;exact False.elim q
variable{e:hD}{L:gp}{pos:Pos}{ta:TE}{C fI:gr}
def adW(C:gr)(ta:TE)(L:gp):TE:=λσ H Q=>ta σ H λx b=>∃a c fs v,x=.ref a/\b a=some (qg a C<|some c)/\b c=some (.xd fs)/\fs.lookup L=some v/\Q v b
def aan(c:om X.K C fI L)(t:PE X e ta)(B:attributeBase e L X.env (eval e X.env)=eval e X.env):PE X (.Attribute e L pos) (adW C ta L):=by intro O s σ H Q I h;refine Iw B (g6 (t O s σ H _ I h) λu m i=>?_);obtain⟨x,V,b,n,a,k,fs,v,ex,D,y,r,q⟩:=i;subst ex;obtain rfl:u=Value.ref a:=n;obtain⟨bm,N,nm,qn,bs,sn,sub,ab,R,dd,k0,k1,k2,k3,k5,all⟩:=wO c.cls;obtain⟨hC,T,_⟩:=all _ b.iN;obtain⟨⟨oe,Z,M,J,G,F⟩,_,_⟩:=b.hok a _ D;obtain⟨mA,p,o⟩:=b.hok k _ y;have z:=o L;rw[r]at z;obtain⟨uv,l,j⟩:=lS.some_of z;obtain⟨hp,g,d,tk,os⟩:=m;exact WT hC (T.hasType<|by rfl) (si b.iN c.ga) (si b.iN c.gn) (si b.iN c.fl) M J F (G k rfl) p.ns l (W.handedOut_of<|KN j) ⟨v,V,b.tok _,j,q⟩
end L2
namespace P2
open PySem L2
inductive D where
 |non|bl(b:Bool)|int(i:Int)|str(x:Str)|ty(n:String)|ref(a:Addr)
 |tup(ds:List D)|lst(ds:List D)|exc(c:Addr)(ns:List Str)(ds:List D)
inductive R(α:Type) where
 |ok(a:α)|ex(c:Addr)(ns:List Str)(ds:List D)|bad
abbrev gw:=gi D->R D
noncomputable def R.bind{d b:Type}:R d->(d->R b)->R b
 |.ok a,f=>f a
 |.ex c ns ds,_=>.ex c ns ds
 |.bad,_=>.bad
def II{b a}{r:R b}{g}{y:a}(h:r.bind g=.ok y):∃x,r=.ok x/\g x=.ok y:=by
 cases r with
 |ok x=>exact⟨x,rfl,h⟩
 |_=>cases h
def KL(K:gF)(a:gr)(c:gi V):Prop:=∃(b:jP) (n:Nat),K.lookup a=some {cls:=.type "list",data:=.seq b.toArray n}/\b.length<=sizeLine/\Vals c b
def KL.sq(h:KL K a vs):kl K H a vs:=let⟨b,n,e,d,c⟩:=h;.inr ⟨_,b.toArray,n,e,rfl,rfl,rfl,by simpa using d,by simpa using c⟩
def KT(K:gF)(a:gr)(c:gi V):Prop:=∃o b n,K.lookup a=some o/\o.cls=.type "tuple"/\o.data=.seq b n/\b.size<=sizeLine/\Vals c b.toList
def namesOf(K:gF):gi gp:=match K.lookup mainGlobals with
 |some ⟨_,_,.dict a _,_⟩=>a.toList.filterMap λe=>match e.key with
  |.str x _=>some x
  |_=>none
 |_=>[]
noncomputable def aaP(K:gF)(x:gp):gL:=match W.nsIn K mainGlobals x with
 |some (some (.ref f))=>(match K.lookup f with
  |some ⟨_,_,.func a,_⟩=>(match a.defaults,a.kwdefaults with
   |.none,.none=>true
   |_,_=>false)
  |_=>false)
 |_=>false
noncomputable def l6(K:gF):gi (gp×gr×gr):=(namesOf K).filterMap λx=>if aaP K x then(W.tabIn K x).map λq=>(x,q.1,q.2)else none
def lJ(c:gr)(q:gp):HO:=.ext λh=>h.CodeRec (.ref c) q
def lA(K:gF)(H:Hp):Prop:=∀t∈l6 K,∃a,H t.2.2=some (.kU a)/\TriplesOk a.toList/\∀pos c,codeAmong pos a.toList=some c->∃b,c=.ref b/\H b=some (lJ b<|t.1++".<locals>.<lambda>")
def NT(o:HO):Prop:=∀a,o≠.kU a
def o4:NT (.lst l):=λ_ h=>nomatch h
def Ys:NT (.tup l):=λ_ h=>nomatch h
def My{o u}:NT (.nA o u):=λ_ h=>nomatch h
def xy:NT (.xd l):=λ_ h=>nomatch h
def Ai:NT (.ext φ):=λ_ h=>nomatch h
structure j8(K:gF)(H H':Hp):Prop where
 at':∀b o,NT o->H b=some o->H' b=some o
 fr:∀b,H' b=none->H b=none
 tt:lA K H->lA K H'
def j8.refl{K}(H):j8 K H H:=⟨λ_ _ _ h=>h,λ_ h=>h,λh=>h⟩
def j8.trans(a:j8 K H H1)(b:j8 K H1 H2):j8 K H H2:=⟨λc o n h=>b.at' c o n<|a.at' c o n h,λc h=>a.fr c<|b.fr c h,λh=>b.tt<|a.tt h⟩
def j8.free(e:j8 K H H')(h:H' l=Option.none):H l=Option.none:=e.fr l h
def lA.off{f}(t:lA K H)(h:∀a,H p≠some (.kU a))(i:∀q,H p≠some (lJ p q))(e:∀b,b≠p->f b=H b):lA K f:=λx g=>by obtain⟨a,c,k,j⟩:=t x g;refine⟨a,by rw[e _ λw=>h a (by rw[<-w];exact c)];exact c,k,λpos n m=>?_⟩;obtain⟨o,l,d⟩:=j pos n m;exact⟨o,l,by rw[e _ λw=>i _ (by rw[<-w];exact d)];exact d⟩
def zY{H:Hp}(h:H p=some (.lst l)):(∀a,H p≠some (.kU a))/\∀q,H p≠some (lJ p q):=
 ⟨λa w=>(by rw[h]at w;exact nomatch w),λq w=>(by rw[h]at w;unfold lJ at w;exact nomatch w)⟩
def lA.upd{o}(t:lA K H)(f:∀a,H p≠some (.kU a))(g:∀q,H p≠some (lJ p q)):lA K (upd H p o):=λx d=>by obtain⟨a,b,i,h⟩:=t x d;refine⟨a,by rw[hA λw=>f a (by rw[<-w];exact b)];exact b,i,λpos k e=>?_⟩;obtain⟨l,j,c⟩:=h pos k e;exact⟨l,j,by rw[hA λw=>g _ (by rw[<-w];exact c)];exact c⟩
mutual
inductive Rep(K:W.Frag)(al:Addr->Prop)(H:Hp):V->D->Prop
 |non:Rep K al H .non .non
 |bl (b:Bool):Rep K al H (.bl b) (.bl b)
 |int (i:Int):Rep K al H (.int i) (.int i)
 |str (x:Str):Rep K al H (.str x) (.str x)
 |ty (n:String):Rep K al H (.ty n) (.ty n)
 |ref (a:Addr):Rep K al H (.ref a) (.ref a)
 |tup {a:Addr} {vs:List V} {ds:List D}:(al a/\H a=some (.tup vs))\/KT K a vs->gR K al H vs ds->Rep K al H (.ref a) (.tup ds)
 |lst {a:Addr} {vs:List V} {ds:List D}:(al a/\Rd H a (.lst vs))\/KL K a vs->gR K al H vs ds->Rep K al H (.ref a) (.lst ds)
 |exc {a c dx:Addr} {ns:List Str} {vs:List V} {ds:List D}:al a->H a=some (qg a c<|some dx)->al dx->H dx=some (.xd<|ns.zip vs)->gR K al H vs ds->Rep K al H (.ref a) (.exc c ns ds)
 |zi {a c:Addr}:al a->H a=some (qg a c none)->Rep K al H (.ref a) (.exc c [] [])
inductive gR(K:W.Frag)(al:Addr->Prop)(H:Hp):List V->List D->Prop
 |nil:gR K al H [] []
 |cons {v:V} {d:D} {vs:List V} {ds:List D}:Rep K al H v d->gR K al H vs ds->gR K al H (v::vs) (d::ds)
end
def Xt(c:ji)(H:Hp)(b:ji)(d:Hp):Prop:=∀a o,NT o->c a->H a=some o->b a/\d a=some o
def Xt.refl{a}:Xt a H a H:=λ_ _ _ h e=>⟨h,e⟩
def Xt.trans(x:Xt al H Io H1)(y:Xt Io H1 P9 H2):Xt al H P9 H2:=λa o n h e=>y a o n (x a o n h e).1 (x a o n h e).2
def Xt.of(s:j8 K H H'):Xt al H al H':=λa o n h e=>⟨h,s.at' a o n e⟩
def Xt.sub{c b}(s:∀a,c a->b a):Xt c H b H:=λa o _ h e=>⟨s a h,e⟩
def acw{u}(h:Xt al H iZ H')(n:NT u)(z:al a/\Rd H a u):iZ a/\Rd H' a u:=by
 obtain⟨z1,z2|⟨o,z2⟩⟩:=z;·exact⟨(h a _ n z1 z2).1,.inl (h a _ n z1 z2).2⟩
 ·exact⟨(h a _ My z1 z2).1,.inr ⟨o,(h a _ My z1 z2).2⟩⟩
def Rep.mv(h:Xt al H iZ H'){v d}(r:Rep K al H v d):Rep K iZ H' v d:=
 Rep.rec (motive_1:=λv d _=>Rep K iZ H' v d) (motive_2:=λv d _=>gR K iZ H' v d) .non .bl .int .str .ty .ref (λp _ q=>.tup (p.elim (λz=>.inl<|h _ _ Ys z.1 z.2) .inr) q) (λp _ q=>.lst (p.elim (λz=>.inl<|acw h o4 z) .inr) q)
  (λb a e c _ q=>.exc (h _ _ Ai b a).1 (h _ _ Ai b a).2 (h _ _ xy e c).1 (h _ _ xy e c).2 q) (λb a=>.zi (h _ _ Ai b a).1 (h _ _ Ai b a).2) .nil (λ_ _ p q=>.cons p q) r
def gR.mv(h:Xt al H iZ H'){v d}(r:gR K al H v d):gR K iZ H' v d:=by
 induction d generalizing v with
 |nil=>cases r;exact .nil
 |cons d _ a=>
  cases r with
  |cons p q=>exact .cons (p.mv h) (a q)
section
abbrev _root_.ja:=gi D
variable{K:gF}{j B:ji}{H l:Hp}{v:V}{d:D}{c m:gi V}{f A:ja}
def Rep.up(r:Rep K j H v d)(s:j8 K H l):Rep K j l v d:=r.mv (.of s)
def gR.up(r:gR K j H c f)(s:j8 K H l):gR K j l c f:=r.mv (.of s)
def gR.length(r:gR K j H c f):c.length=f.length:=by
 induction f generalizing c with
 |nil=>cases r;rfl
 |cons d f e=>cases r with|cons a b=>rw[ag,ag,e b]
def gR.append(r:gR K j H c f)(q:gR K j H m A):gR K j H (c++m) (f++A):=by
 induction f generalizing c with
 |nil=>cases r;exact q
 |cons d f e=>cases r with|cons a b=>exact .cons a (e b)
def gR.get(r:gR K j H c f){i:Nat}{x}(e:c[i]?=some x):∃y,f[i]?=some y/\Rep K j H x y:=by
 induction f generalizing c i with
 |nil=>cases r;simp at e
 |cons d f g=>
  cases r with
  |cons a b=>
   cases i with
   |zero=>simp at e;subst e;exact⟨_,rfl,a⟩
   |succ i=>simpa using g b (by simpa using e)
def gR.getD(r:gR K j H c f){i:Nat}(e:f[i]?=some y):∃x,c[i]?=some x/\Rep K j H x y:=by
 have g:=r.length;have a:i<c.length:=by rw[g];exact(aD.mp e).1
 obtain⟨z,b,q⟩:=r.get (bw a);rw[e]at b;cases b;exact⟨_,bw a,q⟩
def gR.drop(r:gR K j H c f)(n):gR K j H (c.drop n) (f.drop n):=by
 induction n generalizing c f with
 |zero=>exact r
 |succ n e=>
  cases r with
  |nil=>exact .nil
  |cons a b=>exact e b
def gR.take(r:gR K j H c f)(n):gR K j H (c.take n) (f.take n):=by
 induction n generalizing c f with
 |zero=>exact .nil
 |succ n e=>
  cases r with
  |nil=>exact .nil
  |cons a b=>exact .cons a (e b)
def Rep.sk(r:Rep K j H v<|.tup f):∃a c,v=.ref a/\mf K H a c/\gR K j H c f:=by
 cases r with
 |tup p q=>exact⟨_,_,rfl,p.elim (λz=>.inl<|.inl z.2) .inr,q⟩
def Rep.rQ(r:Rep K j H v<|.lst f):∃a c,v=.ref a/\kl K H a c/\gR K j H c f:=by
 cases r with
 |lst p q=>exact⟨_,_,rfl,p.elim (λz=>.inl z.2) KL.sq,q⟩
def Rep.L3(r:Rep K j H v<|.lst f):∃a c,v=.ref a/\(Rd H a (.lst c)\/KL K a c)/\gR K j H c f:=by
 cases r with
 |lst p q=>exact⟨_,_,rfl,p.imp (λz=>z.2) id,q⟩
def lO{o}(h:H p=none):j8 K H (upd H p o):=⟨λb u _ q=>by rw[hA (nD q h)];exact q,λb q=>by
    by_cases z:b=p;· rw[z];exact h
    · rw[hA z]at q;exact q,λt=>t.upd (λa w=>by rw[h]at w;cases w) λq w=>by rw[h]at w;cases w⟩
def gR.Gq(r:gR K j H c f)(h:H p=none)(a:j p):Rep K j (upd H p<|.tup c) (.ref p) (.tup f):=.tup (.inl ⟨a,i8⟩) (r.up<|lO h)
def gR.xn(r:gR K j H c f)(h:H p=none)(a:j p):Rep K j (upd H p<|.lst c) (.ref p) (.lst f):=.lst (.inl ⟨a,.inl i8⟩) (r.up<|lO h)
end
inductive Sl where
 |no|sh(d:D)|ow(ds:List D)
abbrev il(x:Int):Sl:=.sh (.int x)
abbrev iD(x:ja):Sl:=.sh (.lst x)
abbrev iW(x:gp):Sl:=.sh (.str x)
abbrev Ev:=gi Sl
abbrev hP:=Ev->R D
structure RS(K:gF)(P:ji)(H0:Hp)(al:ji)(H:Hp)(σ:St)(ρ:Ev):Prop where
 same:j8 K H0 H
 tt:lA K H
 fresh:∀a,H a=none->al a
 sub:∀a,al a->P a
 pf:∀a,H0 a=none->P a
 len:ρ.length=σ.length
 sh:∀(i:Nat) (d:D),ρ[i]?=some (.sh d)->∃v,σ[i]?=some (some v)/\Rep K al H v d
 ow:∀(i:Nat) (ds:ja),ρ[i]?=some (.ow ds)->∃a vs,σ[i]?=some (some<|.ref a)/\H a=some (.lst vs)/\gR K al H vs ds/\¬al a/\H0 a=none
 apart:∀(i j:Nat) (ds Sh:ja) (a:gr),ρ[i]?=some (.ow ds)->ρ[j]?=some (.ow Sh)->σ[i]?=some (some<|.ref a)->σ[j]?=some (some<|.ref a)->i=j
section
variable{K:gF}{P f:ji}{m H p:Hp}{l:St}{c:Ev}
def RS.grow(r:RS K P m f H l c)(s:j8 K H p):RS K P m f p l c where
 same:=r.same.trans s
 tt:=s.tt r.tt
 fresh:=λa h=>r.fresh a (s.free h)
 sub:=r.sub
 pf:=r.pf
 len:=r.len
 sh:=λi d e=>let⟨v,a,b⟩:=r.sh i d e;⟨v,a,b.up s⟩
 ow:=λi q e=>let⟨a,g,o,n,k,j⟩:=r.ow i q e;⟨a,g,o,s.at' _ _ o4 n,k.up s,j⟩
 apart:=r.apart
def RS.set(r:RS K P m f H l c){v}{d:D}(o:i<c.length)(q:Rep K f H v d):RS K P m f H (l.set i<|some v) (c.set i<|.sh d) where
 same:=r.same
 tt:=r.tt
 fresh:=r.fresh
 sub:=r.sub
 pf:=r.pf
 len:=by rw[aY,aY];exact r.len
 sh:=λj e h=>by
  by_cases z:i=j
  ·subst z;rw[aw o]at h;cases h;exact⟨v,aw<|by rw[<-r.len];exact o,q⟩
  ·rw[ai z]at h;obtain⟨w,a,b⟩:=r.sh j e h;exact⟨w,by rw[ai z];exact a,b⟩
 ow:=λj t h=>by
  by_cases z:i=j
  ·subst z;rw[aw o]at h;cases h
  ·rw[ai z]at h;obtain⟨a,A,n,g⟩:=r.ow j t h;exact⟨a,A,by rw[ai z];exact n,g⟩
 apart:=λj k t s a n g x u=>by
  by_cases z:i=j;·subst z;rw[aw o]at n;cases n
  ·by_cases y:i=k;·subst y;rw[aw o]at g;cases g
   ·rw[ai z]at n x;rw[ai y]at g u;exact r.apart j k t s a n g x u
def RS.drop(r:RS K P m f H l c){i:Nat}{u:gH V}:RS K P m f H (l.set i u) (c.set i .no) where
 same:=r.same
 tt:=r.tt
 fresh:=r.fresh
 sub:=r.sub
 pf:=r.pf
 len:=by rw[aY,aY];exact r.len
 sh:=λj e h=>by
  by_cases z:i=j
  ·subst z;by_cases n:i<c.length;·rw[aw n]at h;cases h
   ·rw[dj<|by rw[aY];walk_at "l"]at h;cases h
  ·rw[ai z]at h;obtain⟨w,a,b⟩:=r.sh j e h;exact⟨w,by rw[ai z];exact a,b⟩
 ow:=λj q h=>by
  by_cases z:i=j
  ·subst z;by_cases n:i<c.length;·rw[aw n]at h;cases h
   ·rw[dj<|by rw[aY];walk_at "l"]at h;cases h
  ·rw[ai z]at h;obtain⟨a,v,g,d⟩:=r.ow j q h;exact⟨a,v,by rw[ai z];exact g,d⟩
 apart:=λj k q o a g d t s=>by
  by_cases z:i=j
  ·subst z;by_cases n:i<c.length;·rw[aw n]at g;cases g
   ·rw[dj<|by rw[aY];walk_at "l"]at g;cases g
  ·by_cases y:i=k
   ·subst y;by_cases n:i<c.length;·rw[aw n]at d;cases d
    ·rw[dj<|by rw[aY];walk_at "l"]at d;cases d
   ·rw[ai z]at g t;rw[ai y]at d s;exact r.apart j k q o a g d t s
end
def XR(K:gF)(e:ji)(H:Hp)(f:kD)(b:iH)(c:ja):Prop:=
 match f with
 |none=>b=[]/\c=[]
 |some d=>e d/\∃a,H d=some (.xd<|b.zip a)/\gR K e H a c
def XR.mv(h:Xt al H iZ H')(r:XR K al H dx ns ds):XR K iZ H' dx ns ds:=by
 cases dx with
 |none=>exact r
 |some d=>obtain⟨a,b,e,q⟩:=r;exact⟨(h _ _ xy a e).1,b,(h _ _ xy a e).2,q.mv h⟩
def Aft{d:Type}(K:gF)(f:ji)(E:XK)(H:Hp)(r:R d)(k:d->Hp->Prop):Prop:=
 match r with
 |.ok a=>∀b,j8 K H b->k a b
 |.ex c ns ds=>∀e b,j8 K H b->XR K f b e ns ds->E (.ref c) e b
 |.bad=>False
section
variable{e i:Type}{K:gF}{b:ji}{E:XK}{H h:Hp}{r:R e}{k f:e->Hp->Prop}
def Aft.up(a:Aft K b E H r k)(s:j8 K H h):Aft K b E h r k:=by
 cases r with
 |ok x=>exact λg d=>a g (s.trans d)
 |ex c l m=>exact λj g d=>a j g (s.trans d)
 |bad=>exact a
def Aft.mono(a:Aft K b E H r k)(m:∀{x c},j8 K H c->k x c->f x c):Aft K b E H r f:=by
 cases r with
 |ok x=>exact λc d=>m d (a c d)
 |_=>exact a
def Aft.split{g:e->R i}{k}(a:Aft K b E H (r.bind g) k):Aft K b E H r (λx c=>Aft K b E c (g x) k):=by
 cases r with
 |ok x=>exact λc d=>Aft.up a d
 |_=>exact a
end
structure DE(X:Cx)(E:XK)(e:hD)(f:hP):Prop where
 w_::
 o_:∃t:TE,PE X e t/\
 ∀{P H0 al H σ ρ} {Q:VK},RS X.K P H0 al H σ ρ->Aft X.K al E H (f ρ) (λd H'=>∀v,Rep X.K al H' v d->Q v H')->t σ H Q
abbrev _root_.kv:=Ev->R gL
structure DT(X:Cx)(E:XK)(e:hD)(f:kv):Prop where
 w_::
 o_:∃t:TT,PT X e t/\
 ∀{P H0 al H σ ρ} {Q:rE},RS X.K P H0 al H σ ρ->Aft X.K al E H (f ρ) Q->t σ H Q
structure DW(X:Cx)(E:XK)(e:hD)(f:kv):Prop where
 w_::
 o_:∃t:TT,PW X e t/\
 ∀{P H0 al H σ ρ} {Q:rE},RS X.K P H0 al H σ ρ->Aft X.K al E H (f ρ) Q->t σ H Q
abbrev _root_.kE:=Ev->R (gi D)
structure DA(X:Cx)(E:XK)(es:jT)(f:kE):Prop where
 w_::
 o_:∃t:TA,PA X es t/\
 (∀{P H0 al H σ ρ} {Q:gi V->Hp->Prop},RS X.K P H0 al H σ ρ->Aft X.K al E H (f ρ) (λds H'=>∀vs,gR X.K al H' vs ds->Q vs H')->t σ H Q)/\∀ρ ds,f ρ=.ok ds->ds.length=es.length
structure DN(X:Cx)(E:XK)(e:hD)(f:kE):Prop where
 w_::
 o_:∃t:TE,PE X e t/\
 ∀{P H0 al H σ ρ} {Q:VK},RS X.K P H0 al H σ ρ->Aft X.K al E H (f ρ) (λds H'=>∀p vs,H' p=none->gR X.K al H' vs ds->Q (.ref p) (upd H' p<|.lst vs))->t σ H Q
structure kO(X:Cx)(E:XK)(op:gE->gE->Sem gE)(g:D->D->R D):Prop where
 w_::
 o_:∃r:R2,jO X op r/\
 ∀{al H x y dx dy} {Q:VK},(∀a,H a=none->al a)->Rep X.K al H x dx->Rep X.K al H y dy->Aft X.K al E H (g dx dy) (λd H'=>∀v,Rep X.K al H' v d->Q v H')->r x y H Q
structure Bg(X:Cx)(E:XK)(g:D->D->R D):Prop where
 w_::
 o_:∃r:R2,qa X r/\
 ∀{al H x y dx dy} {Q:VK},(∀a,H a=none->al a)->Rep X.K al H x dx->Rep X.K al H y dy->Aft X.K al E H (g dx dy) (λd H'=>∀v,Rep X.K al H' v d->Q v H')->r x y H Q
structure Il(X:Cx)(E:XK)(op:gE->Sem gE)(g:D->R D):Prop where
 w_::
 o_:∃r:V->Hp->VK->Prop,yL X op r/\
 ∀{al H x dx} {Q:VK},(∀a,H a=none->al a)->Rep X.K al H x dx->Aft X.K al E H (g dx) (λd H'=>∀v,Rep X.K al H' v d->Q v H')->r x H Q
structure og(X:Cx)(E:XK)(f:gE)(g:gw):Prop where
 w_::
 o_:∃r:gi V->Hp->VK->Prop,lu X f r/\
 ∀{al H xs ds} {Q:VK},(∀a,H a=none->al a)->gR X.K al H xs ds->Aft X.K al E H (g ds) (λd H'=>∀v,Rep X.K al H' v d->Q v H')->r xs H Q
structure wj(X:Cx)(E:XK)(T id:String)(g:D->gw):Prop where
 w_::
 o_:∃r:V->gi V->Hp->VK->Prop,sI X id r/\
 ∀{al H x xs d ds} {Q:VK},(∀a,H a=none->al a)->Rep X.K al H x d->gR X.K al H xs ds->Aft X.K al E H (g d ds) (λd H'=>∀v,Rep X.K al H' v d->Q v H')->r x xs H Q
noncomputable def dV(i:Nat):hP:=λa=>match a[i]? with
 |some (.sh d)=>.ok d
 |_=>.bad
noncomputable def dC(d:D):hP:=λ_=>.ok d
def d1(g:D->R D)(a:hP):hP:=λb=>(a b).bind g
def d2(g:D->D->R D)(a b:hP):hP:=λc=>(a c).bind λx=>(b c).bind λy=>g x y
abbrev gq(i:Int):hP:=dC (.int i)
abbrev gs(x:gp):hP:=dC (.str x)
def tB(d:D):R gL:=match d with
 |.bl b=>.ok b
 |_=>.bad
noncomputable def tT(d:D):R gL:=match d with
 |.non=>.ok false
 |.bl b=>.ok b
 |.int i=>.ok (i !=0)
 |.str y=>if y.length<=sizeLine then .ok ((y.length:Int)!=0)else .bad
 |.lst ds=>.ok (!ds.isEmpty)
 |.tup ds=>.ok (!ds.isEmpty)
 |_=>.bad
def b1(t:D->R gL)(a:hP):Ev->R gL:=λb=>(a b).bind t
def mj(a b:kv):Ev->R gL:=λd=>(a d).bind λc=>if c=true then b d else .ok false
def lB(a b:kv):Ev->R gL:=λd=>(a d).bind λc=>if c=true then .ok true else b d
def mF(a:kv):Ev->R gL:=λb=>(a b).bind λc=>.ok (!c)
def qf(a b:hP):hP:=λd=>((a d).bind tB).bind λc=>if c=true then b d else .ok (.bl false)
def CN(a b:hP):hP:=λd=>((a d).bind tB).bind λc=>if c=true then .ok (.bl true)else b d
def uo(a:hP):hP:=λb=>((a b).bind tB).bind λc=>.ok (.bl<|!c)
def nR(c:kv)(a b:hP):hP:=λd=>(c d).bind λk=>if k=true then a d else b d
noncomputable def gk:Ev->R (gi D):=λ_=>.ok []
def gh(a:hP)(r:kE):Ev->R (gi D):=λb=>(a b).bind λx=>(r b).bind λc=>.ok (x::c)
def dA(g:gw)(a:kE):hP:=λb=>(a b).bind g
def gY(a:ja):R D:=if a.length<=sizeLine then .ok (.tup a)else .bad
def js(a:ja):R (gi D):=if a.length<=sizeLine then .ok a else .bad
def je(g:kE):hP:=λa=>(g a).bind λb=>.ok (.lst b)
section
variable{X:Cx}{E:XK}{e a b c:hD}{f l B:hP}{pos:Pos}
def zc(i){x}(hN:autoParam (X.N[i]?=some x) aZ0)(k:autoParam (pF X.env.scope x) aZ4)(m:autoParam (jl x) aZ1)
 (g:autoParam ((x==("__classdict__":gp))=false) aZ1):DE X E (.Name x pos) (dV i):=by
  refine⟨_,pN hN k m g,λ{_ _ _ H _ j _} r h=>?_⟩;unfold dV at h;cases q:j[i]? with
  |none=>rw[q]at h;exact h.elim
  |some s=>
   cases s with
   |sh d=>rw[q]at h;obtain⟨v,o,n⟩:=r.sh i d q;exact⟨v,o,h H (.refl H) v n⟩
   |_=>rw[q]at h;exact h.elim
def pH{i j}:DE X E (.Constant (.int i) j pos) (gq i):=⟨_,aap,λ_ h=>h _ (.refl _) _<|.int i⟩
def Ru{i j}:DE X E (.Constant (.bool i) j pos) (dC<|.bl i):=⟨_,aad,λ_ h=>h _ (.refl _) _<|.bl i⟩
def RF{j}:DE X E (.Constant .none j pos) (dC .non):=⟨_,aau,λ_ h=>h _ (.refl _) _ .non⟩
def zb{i j}:DE X E (.Constant (.str i) j pos) (gs i):=⟨_,MT,λ_ h=>h _ (.refl _) _<|.str i⟩
def CP{x:gp}{v:V}{d:D}{u:gE}(j:Gl X x)(i:X.mg x=some u)(r:RelV v u)(k:∀m H,Rep X.K m H v d)(g:jl x):DE X E (.Name x pos) (dC d):=
 ⟨_,aao j i r g,λ_ h=>h _ (.refl _) _<|k _ _⟩
def RM{x}{n}(j:Gl X x)(i:X.mg x=none)(d:bootBuiltins x=some (.type n))(g:autoParam (x≠"__name__") aZ1)(k:autoParam (jl x) aZ1):DE X E (.Name x pos) (dC<|.ty n):=
 ⟨_,aae (v:=.ty n) j i d rfl g k,λ_ h=>h _ (.refl _) _<|.ty n⟩
def RI{j:Operator}{g}(x:kO X E (binaryOp j) g)(z:DE X E a l)(y:DE X E b B):DE X E (.BinOp a j b pos) (d2 g l B):=by obtain⟨r,o,n⟩:=x;obtain⟨F,w,q⟩:=z;obtain⟨D,t,p⟩:=y;refine⟨_,MS o w t,λs h=>q s<|Aft.mono (Aft.split h) λi C v k=>p (s.grow i)<|Aft.mono (Aft.split C) λd A u m=>?_⟩;exact n ((s.grow i).grow d).fresh (k.up d) m A
def RN{g:D->R D}(o:Il X E (unaryOp op) g)(p:DE X E a l):DE X E (.UnaryOp op a pos) (d1 g l):=by obtain⟨r,k,j⟩:=o;obtain⟨t,n,m⟩:=p;exact⟨_,aaz k n,λs h=>m s<|Aft.mono (Aft.split h) λd q v i=>j (s.grow d).fresh i q⟩
def Rz{d:CmpOp}{g}(x:kO X E (compareOp d) g)(A:DE X E a l)(z:DE X E b B)(y:autoParam (behindInMarks d b=false) aZ7):DE X E (.Compare a [d] [b] pos) (d2 g l B):=by obtain⟨r,o,n⟩:=x;obtain⟨G,w,q⟩:=A;obtain⟨F,t,p⟩:=z;refine⟨_,aai o w t y,λs h=>q s<|Aft.mono (Aft.split h) λj D v k=>p (s.grow j)<|Aft.mono (Aft.split D) λi C u m=>?_⟩;exact n ((s.grow j).grow i).fresh (k.up i) m C
def xS{d k}(r:Rep K al H v d)(h:Aft K al E H (tB d) k):∃c,v=.bl c/\k c H:=by
 cases r with
 |bl b=>exact⟨b,rfl,h H<|.refl H⟩
 |_=>exact(h:False).elim
def SF{j:CmpOp}{g}(F:kO X E (compareOp j) g)(I:DE X E a l)(H:DE X E b B)(G:autoParam (behindInMarks j b=false) aZ7):DT X E (.Compare a [j] [b] pos) (b1 tB<|d2 g l B):=by
 obtain⟨r,t,q⟩:=F;obtain⟨P,D,A⟩:=I;obtain⟨O,C,z⟩:=H;refine⟨_,Nd t D C G,λ{_ _ M _ _ _ Q} s h=>A s<|Aft.mono (Aft.split<|Aft.split h) λ{x _} n L v o=>?_⟩;refine z (s.grow n) (Aft.mono (Aft.split (g:=λy=>g x y) (k:=λd N=>Aft X.K M E N (tB d) Q) ?_) λm K u p=>?_);·exact L
 ·exact q ((s.grow n).grow m).fresh (o.up m) p (Aft.mono K λR J w i=>xS i J)
def acF{d k}(r:Rep K al H v d)(h:Aft K al E H (tT d) k):∃c,BK K v H c/\k c H:=by
 cases r with
 |non=>exact⟨_,rfl,h H<|.refl H⟩
 |bl b=>exact⟨_,rfl,h H<|.refl H⟩
 |int b=>exact⟨_,rfl,h H<|.refl H⟩
 |str b=>
  unfold tT at h;by_cases z:b.length<=sizeLine
  ·simp only[z,b8]at h;exact⟨_,⟨z,rfl⟩,h H<|.refl H⟩
  ·simp only[z,cL]at h;exact h.elim
 |tup p q=>refine⟨_,.inr<|.inl ⟨_,p.elim (λz=>.inl<|.inl z.2) .inr,?_⟩,h H<|.refl H⟩;cases q<;>rfl
 |lst p q=>refine⟨_,.inl ⟨_,p.elim (λz=>.inl z.2) KL.sq,?_⟩,h H<|.refl H⟩;cases q<;>rfl
 |_=>exact(h:False).elim
def SJ(m:DE X E e l)(k:autoParam (∀d,isTrue e X.env d=(do let v<-d;standAt e.pos;holding [v] (truthy v))) aZ5):DT X E e (b1 tT l):=by obtain⟨o,j,i⟩:=m;exact⟨_,abb j k,λs h=>i s<|Aft.mono (Aft.split h) λp n v g=>acF g n⟩
variable{A C:kv}{rest:jT}
def DW.dt(h:DW X E e A):DT X E e A:=let⟨t,p,r⟩:=h;⟨t,p.pt,r⟩
def SQ(h:DT X E a A):DW X E (.BoolOp .And [a] pos) A:=let⟨t,p,r⟩:=h;⟨t,Ng p,r⟩
def SS(h:DT X E a A):DW X E (.BoolOp .Or [a] pos) A:=let⟨t,p,r⟩:=h;⟨t,abh p,r⟩
def SO(p:DT X E a A)(o:DW X E (.BoolOp .And (b::rest) pos) C):DW X E (.BoolOp .And (a::b::rest) pos) (mj A C):=by
 obtain⟨r,n,k⟩:=p;obtain⟨q,m,j⟩:=o;refine⟨_,Nf n m,λs h=>k s<|Aft.mono (Aft.split h) λ{c g} i d=>?_⟩;cases c with
 |true=>exact rN (j (s.grow i) d)
 |false=>exact qQ (d g<|.refl g)
def SR(p:DT X E a A)(o:DW X E (.BoolOp .Or (b::rest) pos) C):DW X E (.BoolOp .Or (a::b::rest) pos) (lB A C):=by
 obtain⟨r,n,k⟩:=p;obtain⟨q,m,j⟩:=o;refine⟨_,abg n m,λs h=>k s<|Aft.mono (Aft.split h) λ{c g} i d=>?_⟩;cases c with
 |true=>exact rN (d g<|.refl g)
 |false=>exact qQ (j (s.grow i) d)
def SH(j:DT X E a A):DT X E (.UnaryOp .Not a pos) (mF A):=by obtain⟨m,i,g⟩:=j;exact⟨_,aa9 i,λs h=>g s<|Aft.mono (Aft.split h) λ{_ d} n k=>k d<|.refl d⟩
def RH(h:DE X E a l):DE X E (.BoolOp op [a] pos) l:=let⟨t,p,r⟩:=h;⟨t,aaw p,r⟩
def Rr(q:DE X E a l)(p:DE X E (.BoolOp .And (b::rest) pos) B):DE X E (.BoolOp .And (a::b::rest) pos) (qf l B):=by
 obtain⟨u,o,m⟩:=q;obtain⟨t,n,k⟩:=p;refine⟨_,aac o n,λs h=>m s<|Aft.mono (Aft.split<|Aft.split h) λ{_ g} i r v j=>?_⟩;obtain⟨c,e,d⟩:=xS j r;refine⟨c,e,?_⟩;cases c with
 |true=>exact rN (k (s.grow i) d)
 |false=>exact qQ (d g (.refl g) _<|.bl false)
def RJ(q:DE X E a l)(p:DE X E (.BoolOp .Or (b::rest) pos) B):DE X E (.BoolOp .Or (a::b::rest) pos) (CN l B):=by
 obtain⟨u,o,m⟩:=q;obtain⟨t,n,k⟩:=p;refine⟨_,aax o n,λs h=>m s<|Aft.mono (Aft.split<|Aft.split h) λ{_ g} i r v j=>?_⟩;obtain⟨c,e,d⟩:=xS j r;refine⟨c,e,?_⟩;cases c with
 |true=>exact rN (d g (.refl g) _<|.bl true)
 |false=>exact qQ (k (s.grow i) d)
def RG(k:DE X E a l):DE X E (.UnaryOp .Not a pos) (uo l):=by obtain⟨o,j,i⟩:=k;refine⟨_,aav j,λs h=>i s<|Aft.mono (Aft.split<|Aft.split h) λ{_ d} p n v g=>?_⟩;obtain⟨c,e,m⟩:=xS g n;exact⟨c,e,m d (.refl d) _<|.bl _⟩
def RD(p:DT X E c A)(r:DE X E a l)(q:DE X E b B):DE X E (.IfExp c a b pos) (nR A l B):=by
 obtain⟨t,m,i⟩:=p;obtain⟨v,o,k⟩:=r;obtain⟨u,n,j⟩:=q;refine⟨_,MQ m o n,λs h=>i s<|Aft.mono (Aft.split h) λ{c _} d g=>?_⟩;cases c with
 |true=>exact rN (k (s.grow d) g)
 |false=>exact qQ (j (s.grow d) g)
variable{m:jT}{fs:kE}
def Rm:DA X E [] gk:=⟨_,tE,λ_ h=>h _ (.refl _) _ .nil,λ_ _ h=>by cases h;rfl⟩
def Rk(H:DE X E e l)(G:DA X E m fs)(F:autoParam (X.se e m) aZ0):DA X E (e::m) (gh l fs):=by
 obtain⟨K,w,r⟩:=H;obtain⟨J,t,q,z⟩:=G;refine⟨_,tD w t F,λ{_ _ _ _ _ i _} s h=>r s<|Aft.mono (Aft.split h) λ{x _} n g v o=>q (s.grow n)<|Aft.mono (Aft.split g) λ{y j} k d u p=>?_,λi L h=>?_⟩;·exact d j (.refl j) _ (.cons (o.up k) p)
 ·obtain⟨x,_,g⟩:=II h;obtain⟨y,d,I⟩:=II g;cases I;rw[ag,ag,z i y d]
def RL{j}(q:DA X E m fs):DE X E (.Tuple m j pos) (dA gY fs):=by
 obtain⟨r,o,n,_⟩:=q;refine⟨_,MU o,λs h=>n s<|Aft.mono (Aft.split h) λ{x _} k d v i=>?_⟩;unfold gY at d;by_cases z:x.length<=sizeLine
 ·rw[af z]at d;exact⟨by rw[i.length];exact z,λp g=>d _ (lO g) _<|i.Gq g<|(s.grow k).fresh p g⟩
 ·rw[ao z]at d;exact d.elim
def Sb(q:DA X E m fs):DN X E (.List m pos) (λj=>(fs j).bind js):=by
 obtain⟨r,n,k,_⟩:=q;refine⟨_,aaq n,λs h=>k s<|Aft.mono (Aft.split h) λ{x i} t d v g=>?_⟩;unfold js at d;by_cases z:x.length<=sizeLine
 ·rw[af z]at d;exact⟨by rw[g.length];exact z,λp o=>d i (.refl i) p v o g⟩
 ·rw[ao z]at d;exact d.elim
def DN.de{g}(h:DN X E e g):DE X E e (je g):=by obtain⟨t,p,r⟩:=h;exact⟨t,p,λs h=>r s<|Aft.mono (Aft.split h) λi k p n d j=>k _ (lO d) _<|j.xn d<|(s.grow i).fresh p d⟩
def Jz{g}(y:Bg X E g)(F:DE X E a l)(z:DE X E b B)(x:autoParam (BG b) aZ8):DE X E (.Subscript a b pos) (d2 g l B):=by obtain⟨r,o,n⟩:=y;obtain⟨J,w,q⟩:=F;obtain⟨I,t,p⟩:=z;refine⟨_,MR o w t x,λs h=>q s<|Aft.mono (Aft.split h) λi H v j=>p (s.grow i)<|Aft.mono (Aft.split H) λd G u k=>?_⟩;exact n ((s.grow i).grow d).fresh (j.up d) k G
variable{x:gp}{p:Pos}
def Rx{j:String}{g}(H:og X E (.builtin j) g)(F:Gl X x)(z:X.mg x=none)(w:bootBuiltins x=some (.builtin j))(I:DA X E (e::m) fs)(y:autoParam (x≠"__name__") aZ1)(i:autoParam (jl x) aZ1)
 (G:autoParam (X.se e m) aZ0)(d:autoParam (X.bk pos m) aZ0):DE X E (.Call (.Name x p) (e::m) [] pos) (dA g fs):=by obtain⟨r,q,o⟩:=H;obtain⟨K,u,t,_⟩:=I;exact⟨_,Fd q F z w u y i G d,λs h=>t s<|Aft.mono (Aft.split h) λk J v n=>o (s.grow k).fresh n J⟩
def Ry{g}(G:og X E (.type T) g)(z:Gl X x)(y:X.mg x=none)(u:bootBuiltins x=some (.type T))(H:DA X E (e::m) fs)(w:autoParam (x≠"__name__") aZ1)(i:autoParam (jl x) aZ1)
 (F:autoParam (X.se e m) aZ0)(d:autoParam (X.bk pos m) aZ0):DE X E (.Call (.Name x p) (e::m) [] pos) (dA g fs):=by obtain⟨r,o,n⟩:=G;obtain⟨J,t,q,_⟩:=H;exact⟨_,aah o z y u t w i F d,λs h=>q s<|Aft.mono (Aft.split h) λj I v k=>n (s.grow j).fresh k I⟩
def iJ(n:Nat)(K:gF)(F:gw):Sp:=λh H Q E=>h.length=n/\lA K H/\∃g i,(∀a,H a=none->g a)/\gR K g H h i/\Aft K g E H (F i) (λd j=>∀v,Rep K g j v d->Q v j)
variable{k n:Nat}{I:iH}{F:gw}
def Rv(G:oQ X.prog X.w X.K X.mg X.base (iu X.prog X.w) k x I<|iJ n X.K F)(y:iX k X.A)(H:Gl X x)(w:Passes (iu X.prog X.w) X E)(z:(e::m).length=n)(K:DA X E (e::m) fs)(i:autoParam (jl x) aZ1)
 (J:autoParam (X.se e m) aZ0)(g:autoParam (X.bk pos m) aZ0):DE X E (.Call (.Name x p) (e::m) [] pos) (dA F fs):=by
  obtain⟨N,u,t,v⟩:=K;refine⟨_,Ff G y H w u i J g,λ{_ _ L _ _ o _} s h=>t s ?_⟩;unfold dA at h;cases q:fs o with
  |ok j=>rw[q]at h;intro P d M r;rw[aP];exact⟨by rw[r.length,v o j q];exact z,(s.grow d).tt,L,j,(s.grow d).fresh,r,Aft.up h d⟩
  |ex c O j=>rw[q]at h;exact h
  |bad=>rw[q]at h;exact h.elim
end
inductive RT where
 |nx(ρ:Ev)|rt(d:D)|bk(ρ:Ev)|ct(ρ:Ev)|ex(c:Addr)(ns:List Str)(ds:List D)|bad
abbrev g0:=Ev->RT
noncomputable def toS{b:Type}(r:R b)(k:b->RT):RT:=match r with
 |.ok a=>k a
 |.ex c ns ds=>.ex c ns ds
 |.bad=>.bad
def tJ(r:RT)(k:g0):RT:=match r with
 |.nx a=>k a
 |r=>r
def jR(K:gF)(P:ji)(g:Hp)(E:XK)(D:Ends)(h:ji)(H:Hp):RT->Prop
 |.nx f=>∀e a b,Xt h H e a->RS K P g e a b f->D.nx b a
 |.bk f=>∀e a b,Xt h H e a->RS K P g e a b f->D.bk b a
 |.ct f=>∀e a b,Xt h H e a->RS K P g e a b f->D.ct b a
 |.rt d=>∀v a,j8 K g a->Rep K P a v d->D.rt v a
 |.ex c ns ds=>∀i a,j8 K g a->XR K P a i ns ds->E (.ref c) i a
 |.bad=>False
section
variable{K:gF}{P b e:ji}{f H i:Hp}{E:XK}{D:Ends}{s:RT}{j:St}{l:Ev}
def jR.ext(h:jR K P f E D b H s)(x:Xt b H e i):jR K P f E D e i s:=by
 cases s with
 |rt d=>exact h
 |ex c m n=>exact h
 |bad=>exact h
 |_=>exact λa k g y r=>h a k g (x.trans y) r
def jR.qp{g}{r:R g}{k}(h:jR K P f E D b H<|toS r k)(s:RS K P f b H j l):Aft K b E H r (λx a=>jR K P f E D b a<|k x):=by
 cases r with
 |ok x=>exact λa d=>jR.ext h (.of d)
 |ex c n o=>exact λm a d q=>h m a (s.same.trans d) (q.mv<|.sub s.sub)
 |bad=>exact h
end
structure DS(X:Cx)(E:XK)(st:Stmt)(g:g0):Prop where
 w_::
 o_:∃t:TS,PS X st t/\
 ∀{P H0 al H σ ρ} {D:Ends},RS X.K P H0 al H σ ρ->jR X.K P H0 E D al H (g ρ)->t D σ H
structure nI(X:Cx)(E:XK)(st:gi Stmt)(g:g0):Prop where
 w_::
 o_:∃t:TS,md X st t/\
 ∀{P H0 al H σ ρ} {D:Ends},RS X.K P H0 al H σ ρ->jR X.K P H0 E D al H (g ρ)->t D σ H
def iC:g0:=.nx
def gy(a b:g0):g0:=λc=>tJ (a c) b
def g9(f:hP):g0:=λa=>toS (f a) .rt
def gS(i:Nat)(f:hP):g0:=λa=>toS (f a) λd=>if i<a.length then .nx (a.set i<|.sh d)else .bad
def iA(c:kv)(a b:g0):g0:=λd=>toS (c d) λk=>if k=true then a d else b d
section
variable{X:Cx}{E:XK}{l:Stmt}{rest B A:gi Stmt}{g u C a:g0}{e c:hD}{f:hP}{j:kv}{pos:Pos}
def SA:nI X E [] iC:=⟨_,Na,λ{_ _ d H b _ _} s h=>h d H b .refl s⟩
def SD(h:DS X E l g):nI X E [l] g:=let⟨t,p,r⟩:=h;⟨t,Ap p,r⟩
def Sy(t:DS X E l g)(r:nI X E rest u):nI X E (l::rest) (gy g u):=by
 obtain⟨z,p,n⟩:=t;obtain⟨y,o,m⟩:=r;refine⟨_,M9 p o,λ{P G F H w i D} s h=>n s ?_⟩;unfold gy at h;cases q:g i with
 |nx d=>rw[q]at h;exact λv I b x k=>m k (jR.ext h x)
 |_=>rw[q]at h;exact h
def Ss(i:DE X E e f):DS X E (.Return (some e) pos) (g9 f):=by obtain⟨t,p,r⟩:=i;exact⟨_,M6 p,λs h=>r s<|Aft.mono (jR.qp h s) λ{_ m} b k v d=>k v m (s.same.trans b)<|d.mv<|.sub s.sub⟩
def Su(i)(hN:X.N.Nodup)(q:X.N[i]?=some x)(n:Loc X.env.scope x)(w:DE X E e f)(o:autoParam (swapsWith e (some<|.Name x pos') pos.line X.env=pure false) aZ0)(hf:autoParam (X.hf x) aZ2):
    DS X E (.Assign [.Name x pos'] e pos) (gS i f):=by
 obtain⟨t,p,r⟩:=w;refine⟨_,Fv hN q n p o hf,λ{_ _ y _ _ d _} s h=>r s<|Aft.mono (jR.qp h s) λ{_ D} k b v m=>?_⟩;by_cases z:i<d.length
 ·simp only[z,b8]at b;exact b y D _ .refl ((s.grow k).set z m)
 ·simp only[z,cL]at b;exact b.elim
def Sn(r:DT X E c j)(v:nI X E B C)(t:nI X E A a):DS X E (.If c B A pos) (iA j C a):=by
 obtain⟨w,o,i⟩:=r;obtain⟨y,q,n⟩:=v;obtain⟨x,p,m⟩:=t;refine⟨_,M5 o q p,λs h=>i s<|Aft.mono (jR.qp h s) λ{k _} b d=>?_⟩;cases k with
 |true=>exact rN (n (s.grow b) d)
 |false=>exact qQ (m (s.grow b) d)
def turnT(r:RT)(k:g0):RT:=match r with
 |.nx b=>k b
 |.ct b=>k b
 |.bk b=>.nx b
 |r=>r
def pV(c:kv)(b:g0):Nat->g0
 |0,_=>.bad
 |n+1,d=>toS (c d) λk=>if k=true then turnT (b d) (pV c b n)else .nx d
def ON{D k}(h:jR K P H0 E D al H<|turnT r k)
 (hN:∀b i d m,Xt al H b i->RS K P H0 b i d m->jR K P H0 E D b i (k m)->N d i):jR K P H0 E {D with nx:=N,ct:=N,bk:=D.nx} al H r:=by
  cases r with
  |nx n=>exact λb i d x s=>hN b i d n x s (jR.ext h x)
  |ct n=>exact λb i d x s=>hN b i d n x s (jR.ext h x)
  |_=>exact h
def Sx(n)(M:PassesOwn (model X.prog X.w) X.A X.env X.xe)(N:DT X E c j)(O:nI X E A a):DS X E (.While c A [] pos) (pV j a n):=by
 obtain⟨U,K,I⟩:=N;obtain⟨V,L,J⟩:=O;refine⟨_,M8 M K L,λ{P q S _ _ G D} s h=>⟨λm i w=>∃b d,RS X.K P q b w i d/\jR X.K P q E D b w (pV j a m d),⟨n,S,G,s,h⟩,?_⟩⟩
 rintro m i w ⟨b,d,p,F⟩
 cases m with
 |zero=>exact F.elim
 |succ m=>
  refine I p (Aft.mono (jR.qp F p) λ{k T} x y=>?_);cases k with
  |true=>refine rN ⟨λo r=>∃b d,RS X.K P q b r o d/\jR X.K P q E D b r (pV j a m d),λo r z=>⟨m,bL m,z⟩,J (p.grow x)<|ON (k:=pV j a m) y λv r o t _ H Q=>⟨v,t,H,Q⟩⟩
  |false=>exact qQ (y b T i .refl<|p.grow x)
end
def Wk(K:gF)(g:ji)(H:Hp)(J:It)(f:ja):Prop:=∀b c,Xt g H b c->(∀a,c a=none->b a)->
 (∀i d,f[i]?=some d->J.go i c/\∀x e,J.A1 i c x e->e=c/\Rep K b c x d)/\∀i,f.length<=i->J.stop i c
structure DI(X:Cx)(E:XK)(tg iter:hD)(f:kE):Prop where
 w_::
 o_:∃wi:TI,PI X tg iter wi/\
 ∀{P H0 al H σ ρ} {R:It->Hp->Prop},RS X.K P H0 al H σ ρ->Aft X.K al E H (f ρ) (λds H'=>∀J,Wk X.K al H' J ds->R J H')->wi σ H R
abbrev _root_.hZ:=gi Nat
def Kp(l:hZ)(b a:St):Prop:=a.length=b.length/\∀j,j∉l->a[j]?=b[j]?
abbrev _root_.oj:=D->Ev->gH Ev
structure DG(X:Cx)(tg:hD)(l:hZ)(a:oj):Prop where
 w_::
 o_:∃g:TG,PG X tg g/\
 ∀{P H0 al H σ ρ v d} {Q:St->Hp->Prop},RS X.K P H0 al H σ ρ->Rep X.K al H v d->(∃jr,a d ρ=some jr/\∀lr,Kp l σ lr->RS X.K P H0 al H lr jr->Q lr H)->g v σ H Q
abbrev _root_.BO:=gi D->Ev->gH Ev
structure yo(X:Cx)(tg:jT)(l:hZ)(a:BO):Prop where
 w_::
 o_:∃g:sL,t5 X tg g/\
 ∀{P H0 al H σ ρ v d} {Q:St->Hp->Prop},RS X.K P H0 al H σ ρ->gR X.K al H v d->(∃jr,a d ρ=some jr/\∀lr,Kp l σ lr->RS X.K P H0 al H lr jr->Q lr H)->g v σ H Q
def gV(i:Nat):D->Ev->gH Ev:=λd a=>if i<a.length then some (a.set i<|.sh d)else none
def gN:gi D->Ev->gH Ev:=λb a=>match b with
 |[]=>some a
 |_=>none
def gC(a:oj)(b:BO):gi D->Ev->gH Ev:=λe c=>match e with
 |d::r=>(a d c).bind (b r)
 |[]=>none
def gT(n:Nat)(a:BO):D->Ev->gH Ev:=λd b=>match d with
 |.tup ds=>if ds.length=n then a ds b else none
 |_=>none
def toO{b:Type}(r:gH b)(k:b->RT):RT:=match r with
 |some a=>k a
 |none=>.bad
def qM(a:oj)(b:g0):gi D->g0
 |[],e=>.nx e
 |d::r,e=>toO (a d e) λc=>turnT (b c) (qM a b r)
section
variable{X:Cx}{E:XK}{T I:hD}{C:gi Stmt}{O:kE}{a:oj}{L:g0}{pos:Pos}
def vx(O:kE)(a:oj)(L:g0):g0:=λb=>toS (O b) λc=>qM a L c b
def ur(i)(hN:X.N.Nodup)(k:X.N[i]?=some x)(f:Loc X.env.scope x)(hf:autoParam (X.hf x) aZ2):DG X (.Name x pos) [i] (gV i):=by
 refine⟨_,MV hN k f hf,λ{_ _ _ _ _ c _ _ _} s d h=>?_⟩;obtain⟨b,e,q⟩:=h;unfold gV at e;by_cases z:i<c.length
 ·rw[af z]at e;cases e;exact q _ ⟨aY ..,λj g=>ai<|λw=>g<|by simp[w]⟩ (s.set z d)
 ·rw[ao z]at e;cases e
def RV:yo X [] [] gN:=by
 refine⟨_,MY,λs c h=>?_⟩;obtain⟨b,e,q⟩:=h;cases c with
 |nil=>cases e;exact⟨rfl,q _ ⟨rfl,λ_ _=>rfl⟩ s⟩
 |cons _ _=>cases e
def JF{u}(A:DG X e l1 a)(z:yo X es l2 u)(y:autoParam ((assignEach (e::es) X.env).map (·.2)=assign e X.env::(assignEach es X.env).map (·.2)) aZ0):yo X (e::es) (l1++l2) (gC a u):=by
 obtain⟨H,x,t⟩:=A;obtain⟨G,v,r⟩:=z;refine⟨_,MX x v y,λs n h=>?_⟩;obtain⟨d,e,q⟩:=h;cases n with
 |nil=>cases e
 |cons p o=>obtain⟨c,F,B⟩:=bp.mp e;exact⟨_,_,rfl,t s p ⟨c,F,λk g m=>r m o ⟨d,B,λb f l=>q b ⟨f.1.trans g.1,λj i=>(f.2 j λw=>i<|aU _ w).trans (g.2 j λw=>i<|cx _ w)⟩ l⟩⟩⟩
def RU{k n u}(p:X.calm=true)(h:yo X es l u)(o:autoParam ((assignEach es X.env).length=n) aZ0)(c:autoParam ((assignEach es X.env).findIdx? (·.1)=none) aZ0):DG X (.Tuple es k pos) l (gT n u):=by
 obtain⟨w,m,j⟩:=h;refine⟨_,MW p m o c,λ{_ _ _ _ _ _ _ d _} s i h=>?_⟩;obtain⟨b,e,q⟩:=h;unfold gT at e;cases d with
 |tup v=>
  by_cases z:v.length=n
  ·simp only[z,b8]at e;obtain⟨a,g,t,r,f⟩:=i.sk;exact⟨a,g,t,r,by rw[f.length];exact z,j s f ⟨b,e,q⟩⟩
  ·simp only[z,cL]at e;cases e
 |_=>cases e
def FX(f:hP)(a:oj):g0:=λb=>toS (f b) λd=>toO (a d b) .nx
def JO(hp:PassesOwn (model X.prog X.w) X.A X.env X.xe)(hc:X.calm=true)(u:DI X E T I O)(hg:DG X T l a)(hb:nI X E C L)(hs:autoParam (∀x,foldedSetIterable I X.env x=pure x) aZ5):
    DS X E (.For T I C [] pos) (vx O a L):=by
 obtain⟨wi,pi,ri⟩:=u;obtain⟨g,pg,rg⟩:=hg;obtain⟨tb,pb,rb⟩:=hb;refine⟨_,Fu hp hc pi pg pb hs,λ{P v al _ _ H D} s h=>ri s<|Aft.mono (jR.qp h s) λ{d _} Y h1 J S=>?_⟩;refine⟨λi m j p=>∃b c,RS X.K P v b p j c/\Wk X.K b p J d/\jR X.K P v E D b p (qM a L (d.drop i) c)/\m=d.length - i,⟨_,al,H,s.grow Y,S,h1,rfl⟩,?_⟩
 rintro i m j p ⟨b,c,z,r,f,rfl⟩
 obtain⟨V,U⟩:=r b p .refl z.fresh;by_cases u:i<d.length
 ·right;have ed:d[i]?=some d[i]:=bw u;obtain⟨go,M⟩:=V i _ ed;rw[b9 u]at f;refine⟨go,λn t=>∃b c,RS X.K P v b t n c/\Wk X.K b t J d/\jR X.K P v E D b t (qM a L (d.drop<|i+1) c),λn t ⟨B,o,z1,z2,K⟩=>⟨d.length - (i+1),by grind,B,o,z1,z2,K,rfl⟩,λx H3 y=>?_⟩;obtain⟨rfl,rx⟩:=M x H3 y;unfold qM at f;cases q:a d[i] c with
  |some o=>rw[q]at f;refine rg z rx ⟨o,q,λG _ W=>rb W<|ON (k:=qM a L<|d.drop<|i+1) f λF t n w Q Z h'=>⟨F,w,Z,λA H4 N=>r A H4<|Q.trans N,h'⟩⟩
  |none=>rw[q]at f;exact f.elim
 ·left;have e:d.drop i=[]:=bX (by simp_all);rw[e]at f;exact⟨U i<|by simp_all,f b p j .refl z⟩
def gJ(n:Nat)(b:ja):Ev:=b.map .sh++List.replicate (n - b.length) .no
noncomputable def gB:RT->R D
 |.rt d=>.ok d
 |.nx _=>.ok .non
 |.ex c ns ds=>.ex c ns ds
 |_=>.bad
def acM{c}(tt:lA K H)(fr:∀a,H a=none->c a)(r:gR K c H vs ds):RS K c H c H (L2.start N vs) (gJ N.length ds) where
 same:=.refl H
 tt:=tt
 fresh:=fr
 sub:=λ_ h=>h
 pf:=fr
 len:=by unfold L2.start gJ;simp[r.length]
 sh:=λi d h=>by
  unfold gJ at h;by_cases b:i<ds.length
  ·rw[aX<|by simpa using b,aN]at h;cases q:ds[i]? with
   |none=>rw[q]at h;cases h
   |some y=>rw[q]at h;cases h;obtain⟨v,f,e⟩:=r.getD q;refine⟨v,?_,e⟩;unfold L2.start;rw[aX<|by simpa [r.length]using b,aN,f];rfl
  ·rw[bh<|by simpa using b,bM]at h;split at h<;>cases h
 ow:=λi d h=>by
  unfold gJ at h;by_cases b:i<ds.length
  ·rw[aX<|by simpa using b,aN]at h;cases q:ds[i]? with
   |_=>rw[q]at h;cases h
  ·rw[bh<|by simpa using b,bM]at h;split at h<;>cases h
 apart:=λi j d g a h _ _ _=>by
  unfold gJ at h;by_cases b:i<ds.length
  ·rw[aX<|by simpa using b,aN]at h;cases q:ds[i]? with
   |_=>rw[q]at h;cases h
  ·rw[bh<|by simpa using b,bM]at h;split at h<;>cases h
variable{P:iQ}{w:iK}{K:gF}{M:iY}{B:gU}
def TK{k g}(F:mD K x x st f fd)(S:pz N ps<|iz st)
 (C:∀e A b s H E,iX k (iL (iu P w) P w K M B N x (iz st) f e A b s H E).A->nI (iL (iu P w) P w K M B N x (iz st) f e A b s H E) E (kx st) g):
   kX P w K M B (k+1) f fd ps (iJ ps.length K λl=>gB<|g<|gJ N.length l):=by
  refine F.MC S (λo H Q E h=>h.1) (λe A b s H o Q E y h=>?_);obtain⟨U,u,Y,l,fr,j,h⟩:=h;obtain⟨t,p,r⟩:=C e A b s H E y;dsimp only at h;refine⟨t,p,r (acM u fr j) ?_⟩;cases q:g (gJ N.length l)with
  |nx G=>rw[q]at h;exact λz m n _ i=>h m i.same .non .non
  |rt d=>rw[q]at h;exact λv m i j=>h m i v j
  |ex c J V=>rw[q]at h;exact h
  |_=>rw[q]at h;exact h.elim
def oQ.up{k}(G:ik P w K M B j x ps sp)(h:j<=k):ik P w K M B k x ps sp:=let⟨f,b,fo,r⟩:=G;⟨f,b,fo.mono h,r⟩
variable{N:iH}{Y:gp}{U:Scope}{f:gr}{cd:gE}{A:jd}{b:kH}{s:gQ}{H:Hp}
end
def oV(T:String):D->gL
 |.str _=>T=="str"
 |.int _=>T=="int"
 |.lst _=>T=="list"
 |_=>false
def UO{d}(r:Rep K al H v d)(h:oV T d=true):yf K T v H:=by
 cases r with
 |str x=>exact bK.mp h
 |int x=>exact bK.mp h
 |lst p q=>exact .inl ⟨bK.mp h,_,p.elim (λz=>.inl z.2) KL.sq⟩
 |_=>exact absurd h (by simp[oV])
def jW(T:String)(g:D->gw)(o:hP)(a:kE):hP:=λb=>(o b).bind λx=>if oV T x=true then(a b).bind λc=>g x c else .bad
section
variable{X:Cx}{E:XK}{o e:hD}{q:jT}{fo:hP}{fs:kE}{c:gp}{m b:Pos}{T A:String}{g:D->gw}
def za(H:PlainAttrs T)(i:Slot T c A)(n:typeOf (.builtin A)=pure (.type "method_descriptor"))(K:wj X E T A g)(J:DE X E o fo)(L:DA X E (e::q) fs)
 (f:autoParam (attributeBase o c X.env (eval o X.env)=eval o X.env) aZ0)
 (j:autoParam (((backTo b (starEach (e::q) X.env)).all (λx=>!x.1)&&(backToKw b (keywordEach [] X.env)).all (λx=>x.1.isSome)
 &&decide ((e::q).length+([]:gi Keyword).length+(if([]:gi Keyword).isEmpty then 0 else 1)<30))=true) aZ0)
 (d:autoParam ((m.endLine==b.line)=true) aZ0)(I:autoParam (X.se e q) aZ0)(a:autoParam ((backTo b<|starEach q X.env).any (·.1)=false) aZ0):
   DE X E (.Call (.Attribute o c m) (e::q) [] b) (jW T g fo fs):=by
  obtain⟨r,B,w⟩:=K;obtain⟨O,G,y⟩:=J;obtain⟨P,F,C,_⟩:=L;refine⟨_,E9 H i n B G F f j d I a,λs h=>y s<|Aft.mono (Aft.split h) λ{x _} t k v u=>?_⟩;by_cases z:oV T x=true
  ·rw[af z]at k;exact⟨UO u z,C (s.grow t)<|Aft.mono (Aft.split k) λp M N l=>w ((s.grow t).grow p).fresh (u.up p) l M⟩
  ·rw[ao z]at k;exact k.elim
structure DO(X:Cx)(E:XK)(e:gH hD)(f:Ev->R (gH Int)):Prop where
 w_::
 o_:∃t:TO,PO X e t/\
 ∀{P H0 al H σ ρ} {Q:gH Int->Hp->Prop},RS X.K P H0 al H σ ρ->Aft X.K al E H (f ρ) Q->t σ H Q
abbrev _root_.BL:=D->gH Int->gH Int->R D
structure BJ(X:Cx)(E:XK)(g:BL):Prop where
 w_::
 o_:∃r,qG X r/\
 ∀{al H x dx lo hi} {Q:VK},(∀a,H a=none->al a)->Rep X.K al H x dx->Aft X.K al E H (g dx lo hi) (λd H'=>∀v,Rep X.K al H' v d->Q v H')->r x lo hi H Q
def pI(d:D):R (gH Int):=match d with
 |.int i=>.ok (some i)
 |_=>.bad
def CU:DO X E none (λ_=>.ok none):=⟨_,aaR,λ_ h=>h _<|.refl _⟩
def Sg(h:DE X E e fo):DO X E (some e) (λf=>(fo f).bind pI):=by
 obtain⟨t,p,r⟩:=h;refine⟨_,aaS p,λs h=>r s<|Aft.mono (Aft.split h) λ{_ d} k a v j=>?_⟩;cases j with
 |int i=>exact⟨i,rfl,a d<|.refl d⟩
 |_=>exact(a:False).elim
def ot(g:BL)(a:hP)(l u:Ev->R (gH Int)):hP:=λd=>(a d).bind λx=>(l d).bind λi=>(u d).bind λj=>g x i j
def RK{g i}(z:BJ X E g)(C:DE X E e fo)(B:DO X E i fl)(y:DO X E hi fu):DE X E (.Subscript e (.Slice i hi none p2) pos) (ot g fo fl fu):=by obtain⟨r,p,l⟩:=z;obtain⟨J,w,n⟩:=C;obtain⟨K,x,t⟩:=B;obtain⟨I,u,k⟩:=y;refine⟨_,aay p w x u,λs h=>n s<|Aft.mono (Aft.split h) λd H v j=>?_⟩;refine t (s.grow d) (Aft.mono (Aft.split H) λa G=>k ((s.grow d).grow a)<|Aft.mono (Aft.split G) λf F=>?_);exact l (((s.grow d).grow a).grow f).fresh ((j.up a).up f) F
end
def MZ(d:PI X tg iter w1)(c:PI X tg iter w2):PI X tg iter (λb H R=>w1 b H R\/w2 b H R):=λa s b H R I h=>h.elim (d a s b H R I) (c a s b H R I)
section
variable{X:Cx}{E:XK}{J e:hD}{f:hP}
def GZ(r:Rep K al H (.ref a)<|.lst ds):Wk K al H (Be K a) ds:=by intro g m x fr;obtain⟨l,b,e,q,rs⟩:=(r.mv x).rQ;cases e;refine⟨λi d h=>?_,λi h=>⟨b,q,by rw[rs.length];exact h⟩⟩;obtain⟨v,c,k⟩:=rs.getD h;refine⟨⟨b,v,q,c⟩,λy j z=>⟨z.1,?_⟩⟩;have:=z.2 b q;simp_all
def afg(r:Rep K al H (.ref a)<|.tup ds):Wk K al H (Bf K a) ds:=by intro g m x fr;obtain⟨l,b,e,q,rs⟩:=(r.mv x).sk;cases e;refine⟨λi d h=>?_,λi h=>⟨b,q,by rw[rs.length];exact h⟩⟩;obtain⟨v,c,k⟩:=rs.getD h;refine⟨⟨b,v,q,c⟩,λy j z=>⟨z.1,?_⟩⟩;have:=z.2 b q;simp_all
def vu(a:Int)(n:Nat):gi D:=(List.range n).map λ(k:Nat)=>D.int (a+(k:Int))
def afe{a n}:Wk K al H (yy a n) (vu a n):=by
 intro c j x fr;refine⟨λi d h=>?_,λi h=>?_⟩
 ·unfold vu at h;rw[aN]at h;by_cases b:i<n
  ·rw[List.getElem?_range b]at h;cases h;exact⟨b,λy g z=>⟨z.1,by rw[z.2];exact .int _⟩⟩
  ·simp_all
 ·unfold vu at h;show n<=i;simpa using h
noncomputable def mL(a:ja):R (gi D):=match a with
 |[.int j]=>if -(2^62)<=j/\j<2^62 then .ok (vu 0 j.toNat)else .bad
 |_=>.bad
def R1{fs}(n:Gl X "range")(m:X.mg "range"=none)(o:DA X E [a] fs)(l:autoParam (starEach [a] X.env=[(false,eval a X.env)]) aZ0):DI X E J (.Call (.Name "range" p) [a] [] pos) (λd=>(fs d).bind mL):=by
 obtain⟨t,q,r,_⟩:=o;refine⟨_,aaE n m q l,λs h=>r s<|Aft.mono (Aft.split h) λ{_ c} v b u g=>?_⟩;unfold mL at b;split at b
 ·rename_i j;cases g with
  |cons k i=>
   cases i;cases k;split at b
   ·rename_i z;exact⟨j,rfl,z.1,z.2,b c (.refl c) _ afe⟩
   ·exact b.elim
 ·exact b.elim
variable{K:gF}{P A:ji}{C H:Hp}{B:St}{m:Ev}
def RS.own(r:RS K P C A H B m)(y:i<m.length)(t:H p=none)(q:gR K A H vs ds):
    RS K P C (λb=>A b/\b≠p) (upd H p<|.lst vs) (B.set i<|some<|.ref p) (m.set i<|.ow ds)/\Xt A H (λb=>A b/\b≠p) (upd H p<|.lst vs):=by
 have x:Xt A H (λb=>A b/\b≠p) (upd H p<|.lst vs):=λb o _ g e=>⟨⟨g,nD e t⟩,by rw[hA<|nD e t];exact e⟩;have s:=lO (K:=K) (o:=HO.lst vs) t;have Q:i<B.length:=by rw[<-r.len];exact y
 refine⟨⟨r.same.trans s,s.tt r.tt,λb g=>?_,λb g=>r.sub b g.1,r.pf,by rw[aY,aY];exact r.len,λj d h=>?_,λj F h=>?_,λj k d1 d2 b S N R M=>?_⟩,x⟩
 ·refine⟨r.fresh b<|s.free g,λz=>?_⟩;rw[z,i8]at g;cases g
 ·by_cases z:i=j;·subst z;rw[aw y]at h;cases h
  ·rw[ai z]at h;obtain⟨v,n,u⟩:=r.sh j d h;exact⟨v,by rw[ai z];exact n,u.mv x⟩
 ·by_cases z:i=j
  ·subst z;rw[aw y]at h;cases h;exact⟨p,vs,aw Q,i8,q.mv x,λw=>w.2 rfl,r.same.free t⟩
  ·rw[ai z]at h;obtain⟨a,L,n,u,V,U,T⟩:=r.ow j F h;exact⟨a,L,by rw[ai z];exact n,s.at' _ _ o4 u,V.mv x,λw=>U w.1,T⟩
 ·have c:∀(l:Nat) (d:ja),(m.set i<|.ow ds)[l]?=some (.ow d)->(B.set i<|some<|.ref p)[l]?=some (some<|.ref b)->(l=i/\b=p)\/(l≠i/\b≠p/\m[l]?=some (.ow d)/\B[l]?=some (some<|.ref b)):=by
   intro l d z1 z2;by_cases z:i=l;·simp_all
   ·rw[ai z]at z1 z2;right;obtain⟨a,L,n,u,_⟩:=r.ow l d z1;rw[n]at z2;cases z2;exact⟨λw=>z w.symm,nD u t,z1,n⟩
  rcases c j d1 S R with⟨O,I⟩|⟨O,I,a3,a4⟩
  ·rcases c k d2 N M with⟨b1,_⟩|⟨_,G,_⟩;·rw[O,b1]
   ·exact absurd I G
  ·rcases c k d2 N M with⟨_,G⟩|⟨_,_,Z,Y⟩;·exact absurd G I
   ·exact r.apart j k d1 d2 b a3 Z a4 Y
def RS.write(r:RS K P C A H B m)(h:m[i]?=some (.ow JN))(e:B[i]?=some (some<|.ref a))(q:gR K A H vs ds):
    RS K P C A (upd H a<|.lst vs) B (m.set i<|.ow ds)/\Xt A H A (upd H a<|.lst vs):=by
 obtain⟨a',us,O,N,e3,M,F⟩:=r.ow i JN h;rw[e]at O;cases O;have L:i<m.length:=(aD.mp h).1;have Y:∀b,A b->b≠a:=λb g z=>M (z▸g);have x:Xt A H A (upd H a (.lst vs)):=λb o _ g w=>⟨g,by rw[hA (Y b g)];exact w⟩;have up:lA K H->lA K (upd H a (.lst vs)):=λt=>t.upd (λps w=>by rw[N]at w;cases w) λq w=>by rw[N]at w;unfold lJ at w;cases w
 refine⟨⟨⟨λb o n w=>?_,λb w=>?_,λt=>up<|r.same.tt t⟩,up r.tt,λb g=>?_,r.sub,r.pf,by rw[aY];exact r.len,λj d z=>?_,λj d z=>?_,λj k d1 d2 b z1 z2 R Q=>?_⟩,x⟩;·rw[hA<|nD w F];exact r.same.at' b o n w
 ·by_cases z:b=a;·rw[z];exact F
  ·rw[hA z]at w;exact r.same.fr b w
 ·by_cases z:b=a;·rw[z,i8]at g;cases g
  ·rw[hA z]at g;exact r.fresh b g
 ·by_cases y:i=j;·subst y;rw[aw L]at z;cases z
  ·rw[ai y]at z;obtain⟨v,s,u⟩:=r.sh j d z;exact⟨v,s,u.mv x⟩
 ·by_cases y:i=j
  ·subst y;rw[aw L]at z;cases z;exact⟨a,vs,e,i8,q.mv x,M,F⟩
  ·rw[ai y]at z;obtain⟨b,S,s,u,V,U,T⟩:=r.ow j d z;refine⟨b,S,s,?_,V.mv x,U,T⟩;rw[hA];exact u;intro c;subst c;exact y (r.apart i j JN d b h z e s)
 ·have p:∀(l:Nat) (d:ja),(m.set i<|.ow ds)[l]?=some (.ow d)->∃Z,m[l]?=some (.ow Z):=λl d w=>by
   grind
  obtain⟨I,s⟩:=p j d1 z1;obtain⟨G,u⟩:=p k d2 z2;exact r.apart j k I G b s u R Q
def rL(i:Nat)(m:Ev):Ev:=match m[i]? with
 |some (.ow a)=>m.set i (iD a)
 |_=>m
def RS.freeze(r:RS K P C A H B m)(i):∃n,RS K P C n H B (rL i m)/\Xt A H n H:=by
 unfold rL;split
 ·rename_i q h;obtain⟨a,R,t,Q,O,S,N⟩:=r.ow i q h;have s:i<m.length:=(aD.mp h).1;have x:Xt A H (λb=>A b\/b=a) H:=.sub λ_ z=>.inl z;refine⟨λb=>A b\/b=a,⟨r.same,r.tt,λb g=>.inl (r.fresh b g),λb g=>?_,r.pf,by rw[aY];exact r.len,λj d z=>?_,λj d z=>?_,λj k d1 d2 b z1 z2 F u=>?_⟩,x⟩
  ·rcases g with g|rfl;·exact r.sub b g
   ·exact r.pf _ N
  ·by_cases y:i=j
   ·subst y;rw[aw s]at z;cases z;exact⟨.ref a,t,.lst (.inl ⟨.inr rfl,.inl Q⟩)<|O.mv x⟩
   ·rw[ai y]at z;obtain⟨v,o,p⟩:=r.sh j d z;exact⟨v,o,p.mv x⟩
  ·by_cases y:i=j;·subst y;rw[aw s]at z;cases z
   ·rw[ai y]at z;obtain⟨b,G,o,p,M,L,I⟩:=r.ow j d z;refine⟨b,G,o,p,M.mv x,λw=>?_,I⟩;rcases w with w|rfl;·exact L w
    ·exact y (r.apart i j q d b h z t o)
  ·have c:∀(l:Nat) (d:ja),(m.set i<|iD q)[l]?=some (.ow d)->m[l]?=some (.ow d):=λl d w=>by
    grind
   exact r.apart j k d1 d2 b (c j d1 z1) (c k d2 z2) F u
 ·exact⟨A,r,.refl⟩
variable{F:gi Stmt}{L:Stmt}{g:g0}{I:kE}{pos:Pos}
def Sz(i)(h:nI X E F g):nI X E F (λm=>g (rL i m)):=by obtain⟨t,p,r⟩:=h;refine⟨t,p,λs h=>?_⟩;obtain⟨b,a,x⟩:=s.freeze i;exact r a (jR.ext h x)
def pP(i:Nat)(f:kE):g0:=λm=>toS (f m) λa=>if i<m.length then .nx (m.set i<|.ow a)else .bad
def So(i)(hN:X.N.Nodup)(o:X.N[i]?=some x)(k:Loc X.env.scope x)(u:DN X E e I)(l:autoParam (swapsWith e (some<|.Name x pos') pos.line X.env=pure false) aZ0)(hf:autoParam (X.hf x) aZ2):
    DS X E (.Assign [.Name x pos'] e pos) (pP i I):=by
 obtain⟨t,p,r⟩:=u;refine⟨_,Fv hN o k p l hf,λ{_ _ _ _ _ m _} s h=>r s<|Aft.mono (jR.qp h s) λd a q v n j=>?_⟩;by_cases z:i<m.length
 ·simp only[z,b8]at a;obtain⟨c,b⟩:=(s.grow d).own z n j;exact a _ _ _ b c
 ·simp only[z,cL]at a;exact a.elim
def n7(i:Nat)(f:hP):g0:=λm=>match m[i]? with
 |some (.ow a)=>toS (f m) λd=>if a.length<sizeLine then .nx (m.set i<|.ow<|a++[d])else .bad
 |_=>.bad
def Sj(i){o:hD}{b:Pos}(Z:PlainAttrs "list")(k:Slot "list" "append" "list.append")(w:typeOf (.builtin "list.append")=pure (.type "method_descriptor"))(he:DE X E e f)
 (hN:autoParam (X.N[i]?=some x) aZ0)(hv:autoParam (pF X.env.scope x) aZ4)(hd:autoParam (jl x) aZ1)
 (G:autoParam ((x==("__classdict__":gp))=false) aZ1)
 (j:autoParam (attributeBase (.Name x oE) "append" X.env (eval (.Name x oE) X.env)=eval (.Name x oE) X.env) aZ0)
 (l:autoParam (((backTo lU (starEach [e] X.env)).all (λx=>!x.1)&&(backToKw lU (keywordEach [] X.env)).all (λx=>x.1.isSome)
 &&decide ([e].length+([]:gi Keyword).length+(if([]:gi Keyword).isEmpty then 0 else 1)<30))=true) aZ0)
 (d:autoParam ((b.endLine==lU.line)=true) aZ0)(N:autoParam (X.se e []) aZ0)(c:autoParam ((backTo lU<|starEach [] X.env).any (·.1)=false) aZ0)
 (y:autoParam (swapsWith (.Call (.Attribute (.Name x oE) "append" b) [e] [] lU) none pos.line X.env=pure false) aZ0):
   DS X E (.Expr (.Call (.Attribute (.Name x oE) "append" b) [e] [] lU) pos) (n7 i f):=by
  obtain⟨t,p,r⟩:=he;refine⟨_,Fm (E9 Z k w z9 (pN hN hv hd G) (tD p tE N) j l d N c) y,λs h=>?_⟩;unfold n7 at h;split at h
  ·rename_i T q;obtain⟨a,M,S,Q,O,e4,e5⟩:=s.ow i T q;refine⟨_,S,.inl ⟨rfl,M,.inl<|.inl Q⟩,r s<|Aft.mono (jR.qp h s) λu n v Y=>?_⟩;by_cases z:T.length<sizeLine
   ·simp only[z,b8]at n;obtain⟨V,U⟩:=(s.grow u).write q S ((O.up u).append (.cons Y .nil));exact⟨a,M,v,rfl,rfl,u.at' _ _ o4 Q,by rw[O.length];exact z,n _ _ _ U V⟩
   ·simp only[z,cL]at n;exact n.elim
  ·exact h.elim
end
section
variable{P:iQ}{w:iK}{K:gF}{j:iY}{e:gU}{N:iH}{i:gp}{a:Scope}{f:gr}{m:gE}{A:jd}{b:kH}{s:gQ}{H:Hp}{E:XK}
def JP{x:gp}{C Q:gr}{d:gp}{k:Nat}{v:kP}{M L:gp}{X n pos:Pos}{g:hD}{fs:kE}(c:om K C Q d)(FI:j7 P w K j e pY k Q v [M,L]<|xY C d)(bI:Binds K v [M,L] [])
    (Y:iX (k+1) (iL (iu P w) P w K j e N i a f m A b s H E).A)(hg:Gl (iL (iu P w) P w K j e N i a f m A b s H E) x)(Z:j x=some (.ref C))(ha:DA (iL (iu P w) P w K j e N i a f m A b s H E) E [g] fs)
    (J:autoParam (jl x) aZ1)
    (he:autoParam (starEach [g] (iL (iu P w) P w K j e N i a f m A b s H E).env=(false,eval g (iL (iu P w) P w K j e N i a f m A b s H E).env)::starEach [] (iL (iu P w) P w K j e N i a f m A b s H E).env) aZ0)
    (I:autoParam ((backTo n<|starEach [] (iL (iu P w) P w K j e N i a f m A b s H E).env).any (·.1)=false) aZ0):
    DS (iL (iu P w) P w K j e N i a f m A b s H E) E (.Raise (some<|.Call (.Name x X) [g] [] n) none pos) (λy=>toS (fs y) λG=>.ex C [d] G):=by
 obtain⟨t,p,r,l⟩:=ha;refine⟨_,aa6 c FI bI Y hg Z p J he I,λ{P0 H0 al H1 σ y D} o h=>r o ?_⟩
 (try dsimp only at h)
 cases q:fs y with
 |bad=>rw[q]at h;exact h.elim
 |ex c ns G=>rw[q]at h;exact λF S B z=>h F S (o.same.trans B) (z.mv<|.sub o.sub)
 |ok G=>
  rw[q]at h;intro S B vs T;have O:=l y G q;cases T with
  |nil=>cases O
  |cons V U=>
   cases U with
   |cons _ _=>cases O
   |nil=>refine⟨_,rfl,λF u=>h (some F) _ ((o.same.trans B).trans (lO u)) ⟨o.sub _<|(o.grow B).fresh F u,[_],i8,?_⟩⟩;exact .cons ((V.up<|lO u).mv (.sub o.sub)) .nil
def Sr(n:ExcBaseFacts B newId V8 wD)(q:W.excIn K C wD newId=true)
 (k:Gl (iL (iu P w) P w K j e N i a f m A b s H E) x)(g:j x=some (.ref C))(c:autoParam (jl x) aZ1):
   DS (iL (iu P w) P w K j e N i a f m A b s H E) E (.Raise (some<|.Call (.Name x np) [] [] lU) none pos) (λ_=>.ex C [] []):=
  ⟨_,aa5 n q k g c,λ{t u r l o p D} d h=>h none l d.same ⟨rfl,rfl⟩⟩
end
variable{X:Cx}{E:XK}
structure DX(X:Cx)(e:hD)(f:hP):Prop where
 w_::
 o_:∃t:TX,EX X e t/\
 ∀{P H0 al H σ ρ} {Q:VK} {R:XK},RS X.K P H0 al H σ ρ->Aft X.K al R H (f ρ) (λd H'=>∀v,Rep X.K al H' v d->Q v H')->t σ H Q R
def wI(F:gw)(fs:kE):hP:=λa=>match fs a with
 |.ok ds=>F ds
 |_=>.bad
def SW{k n fs pos}(G:oQ X.prog X.w X.K X.mg X.base (iu X.prog X.w) k x ps<|iJ n X.K F)(o:iX k X.A)(t:Gl X x)(r:(e::es).length=n)(v:DA X.mr (λ_ _ _=>False) (e::es) fs)
 (c:autoParam (X.ex=[]) aZ0)(d:autoParam (jl x) aZ1)
 (u:autoParam (X.se e es) aZ0)(b:autoParam (X.bk pos es) aZ0):DX X (.Call (.Name x p) (e::es) [] pos) (wI F fs):=by
  obtain⟨A,l,j,m⟩:=v;refine⟨_,J2 G o t l c d u b,λ{P C w H y f _ _} s h=>j s ?_⟩;unfold wI at h;cases q:fs f with
  |ok i=>rw[q]at h;intro B a z g;rw[aP];exact⟨by rw[g.length,m f i q];exact r,(s.grow a).tt,w,i,(s.grow a).fresh,g,Aft.up h a⟩
  |_=>rw[q]at h;exact h.elim
structure DB(X:Cx)(body:gi Stmt)(f:Ev->R Ev):Prop where
 w_::
 o_:∃t:TB,BX X body t/\
 ∀{P H0 al H σ ρ} {D:Ends} {R:St->XK},RS X.K P H0 al H σ ρ->Aft X.K al (R σ) H (f ρ) (λjr H'=>∀lr,RS X.K P H0 al H' lr jr->D.nx lr H')->t D R σ H
def Rn{pos:Pos}(i:DX X e f)(g:autoParam (swapsWith e none pos.line X.env=pure false) aZ0):DB X [.Expr e pos] (λa=>(f a).bind λ_=>.ok a):=by obtain⟨t,p,r⟩:=i;exact⟨_,IP p g,λ{_ _ _ _ c _ _ _} s h=>r s<|Aft.mono (Aft.split h) λ{_ b} d j v k=>j b (.refl b) c<|s.grow d⟩
def Cy(i:Nat):RT->RT
 |.nx a=>.nx (a.set i .no)
 |.rt d=>.rt d
 |_=>.bad
noncomputable def xW(i:Nat)(d:gr->gL)(f:Ev->R Ev)(g:g0):g0:=λb=>match f b with
 |.ok a=>.nx a
 |.ex c ns ds=>if d c=true/\i<b.length then Cy i (g<|b.set i<|.sh<|.exc c ns ds)else .bad
 |.bad=>.bad
def Sw{kG g n pos}(i)(mt:gr->gL)(hX:X.stack=X.env::X.outer)(G:X.env.frame=some X.env.locals)(hN:X.N.Nodup)(hi:X.N[i]?=some n)(hk:X.env.scope.names.lookup n=some .local)
 (hb:DB X body fb)(hs:∀a,nI (X.kG a).mr (λ_ _ _=>False) (b0::kG) g)
 (F:∀h g d tk N e T O M A E (Q:t6),X.K.In h->mt T=true->h.get? e=some O->O.cls=.ref T->Q true ⟨h,g,d,tk,N⟩->wpAny M A (excMatches (.ref e)<|.ref C) Q E ⟨h,g,d,tk,N⟩)
 (hg:Gl X x)(hm:X.mg x=some (.ref C))(hf:autoParam (X.fn n=true\/X.env.scope.names.lookup n=some .local) aZ2)(I:autoParam (jl x) aZ1):
   DS X E (.Try body [.ExceptHandler (some<|.Name x np) (some n) (b0::kG) K5] [] [] pos) (xW i mt fb g):=by
  obtain⟨tb,pb,rb⟩:=hb;refine⟨_,aa7 (mt:=λc=>mt c=true) (ts:=λD U H=>∃P u k f,RS X.K P u k H U f/\jR X.K P u (λ_ _ _=>False) D k H (g f)) hX G hN hi hk pb (λa=>?_) F hg hm hf I,λ{P u k _ _ f _} s h=>?_⟩
  ·obtain⟨t,p,r⟩:=hs a;intro o b w l D1 I1 h1;obtain⟨P,u,k,f,s,h⟩:=h1;exact p o b w l D1 I1 (r s h)
  ·refine rb s ?_;unfold xW at h;cases q:fb f with
   |bad=>rw[q]at h;exact h.elim
   |ok W=>rw[q]at h;exact λl b m y=>h k l m (.of b) y
   |ex c R S=>
    rw[q]at h;intro J l b L;dsimp only at h;by_cases z:mt c=true/\i<f.length
    ·rw[af z]at h;refine⟨c,rfl,z.1,λa j=>?_⟩;have v:j8 X.K l (upd l a<|qg a c J):=lO j;have Z:Rep X.K k (upd l a<|qg a c J) (.ref a) (.exc c R S):=by
      cases J with
      |none=>obtain⟨rfl,rfl⟩:=L;exact .zi ((s.grow b).fresh a j) i8
      |some d=>obtain⟨a1,vs,a2,a3⟩:=L;exact .exc ((s.grow b).fresh a j) i8 a1 (v.at' _ _ xy a2) (a3.up v)
     refine⟨P,u,k,_,((s.grow b).grow v).set z.2 Z,?_⟩;cases B:g (f.set i<|.sh<|.exc c R S)with
     |nx V=>rw[B]at h;exact λK H' m Y y=>h K H' _ ((Xt.of<|b.trans v).trans Y) y.drop
     |rt d=>rw[B]at h;exact h
     |_=>rw[B]at h;exact h.elim
    ·rw[ao z]at h;exact h.elim
end P2
namespace L2
open PySem PySem.Spec PyProof.Rows
variable{f:iQ}{w:iK}{A:jd}{R:Result->gQ->Prop}{s:gQ}
def Q8(I:Nat->gQ->Prop)
 (q:∀n s,I n s->wpAny (model f w) A (pyNext it) (λr b=>match r with
 |none=>R (.ok .next) b
 |some v=>wpAny (model f w) A (letOwnedTupleGo target it v) (λ_ l=>wpAny (model f w) A (assign target env v) (λ_ k=>
 wpAny (model f w) A (forIn ifs true λc r=>if r=true then do let ok<-isTrue c env (eval c env);pure (ForInStep.yield ok)else pure (ForInStep.yield r)) (λok a=>
 if ok=true then wpAny (model f w) A (eval elt env) (λx j=>
 wpAny (model f w) A (call (.builtin "list.append") [acc,x]) (λ_ i=>∃m,m<n/\I m i) (notedBy (model f w) A env λe d=>R (.error e) d) j) (notedBy (model f w) A env λe d=>R (.error e) d) a
 else∃m,m<n/\I m a) (notedBy (model f w) A env λe d=>R (.error e) d) k) (notedBy (model f w) A env λe d=>R (.error e) d) l) (notedBy (model f w) A env λe d=>R (.error e) d) b) (notedBy (model f w) A env λe d=>R (.error e) d) s)
 (n)(h:I n s):codeAny (model f w) A (.compLoop (.ListComp elt [⟨target,iter,ifs,0⟩] scope pos) 0 it acc env) R s:=by
  refine codeAny_loop rfl I (λn s B=>?_) n h;refine wpAny_noted ?_;refine ah (cI<|ah<|aK (q n s B) (λr b p=>?_) λ_ _ g=>g);cases r with
  |none=>exact aE p
  |some v=>
   refine ah (aK p (λ_ l z=>?_) λ_ _ g=>g);refine ah (aK z (λ_ k y=>ah<|aK y (λok a o=>?_) λ_ _ g=>g) λ_ _ g=>g);cases ok with
   |false=>exact aE ⟨rfl,o⟩
   |true=>exact ah (ah<|aK o (λx j u=>ah<|aK u (λ_ i t=>aE<|aE ⟨rfl,t⟩) λ_ _ g=>g) λ_ _ g=>g)
abbrev Cx.comp(X:Cx)(scope:Scope)(N':iH)(cl:gi<|gp×gr)(fp:pD)(s3:gQ)(H3:Hp)(C:gr):Cx:=
 {X with N:=N',s₀:=s3,H₀:=H3,env:=compEnvC scope cl C X.env,outer:=X.stack,ex:=fp,fn:=λ_=>false,pn:=[],xe:=λ_ _=>False}
inductive px(X:Cx)(cl:List<|Str×Addr):List Str->List Nat->Prop
 |nil:px X cl [] []
 |cons {x:Str} {i:Nat} {N:List Str} {ci:List Nat}:X.N[i]?=some x->(X.env.kindOf x=some .cell\/X.env.kindOf x=some .free)->cl.lookup x=X.env.cells.lookup x->px X cl N ci->px X cl (x::N) (i::ci)
def px.length{cl}(h:px X cl N ci):N.length=ci.length:=by
 induction h with
 |nil=>rfl
 |cons _ _ _ _ a=>simp_all
def px.get{X}{cl}{a}(h:px X cl N a){k:Nat}(e:N[k]?=some x):∃i,a[k]?=some i/\X.N[i]?=some x/\(X.env.kindOf x=some .cell\/X.env.kindOf x=some .free)/\cl.lookup x=X.env.cells.lookup x:=by
 induction h generalizing k with
 |nil=>simp at e
 |cons g d c _ b=>grind
def nP(b:Nat)(c:hZ)(a:St):St:=List.replicate b none++c.map λi=>(a[i]?).getD none
def Jf(h:(nP tn ci σ)[j]?=some (some v)):∃k i,j=tn+k/\ci[k]?=some i/\σ[i]?=some (some v):=by
 unfold nP at h
 grind
def Cz:(nP tn ci σ).length=tn+ci.length:=by unfold nP;simp
def Gg(y:TI)(h:Nat)(n:hZ)(g:TG)(B:TT)(z:TE):TE:=λk H Q=>y k H λJ p=>∀l,p l=none->∃W:Nat->Nat->Hp->Prop,(∃m,W 0 m<|upd p l<|.lst [])/\∀i m d,W i m d->(∀b o u,upd p l (.lst []) b=some (.nA o u)->d b=some (.nA o u))->
 (J.stop i d/\Q (.ref l) d)\/(J.go i d/\∀x t,J.A1 i d x t->g x (nP h n k) t λa C=>(a.length=h+n.length/\∀j,h<=j->a[j]?=(nP h n k)[j]?)/\B a C λb r=>if b=true then z a r λv q=>∃c,q l=some (.lst c)/\c.length<sizeLine/\∃e,e<m/\W (i+1) e (upd q l<|.lst<|c++[v])else∃e,e<m/\W (i+1) e r)
def PF(X:Cx)(d:jT)(t:TT):Prop:=
 ∀a s b H Q,Inv X a b H s->t b H Q->
  wpAny (model X.prog X.w) X.A (forIn d true λc r=>if r=true then do let ok<-isTrue c X.env (eval c X.env);pure (ForInStep.yield ok)else pure (ForInStep.yield r)) (TP X a b Q) X.xe s
def aaA:PF X [] (λ_ H Q=>Q true H):=λ_ _ _ H _ I h=>wpAny_tests_nil ⟨H,I,h⟩
def aaB{t}(h:PT X c t):PF X [c] t:=λa s b H Q I d=>wpAny_tests_one (h a s b H Q I d)
variable{X:Cx}{M B L:hD}{K:jT}{scope:Scope}{pos:Pos}{O:TI}{g:TG}{tc:TT}{te:TE}{cl:gi<|gp×gr}{F:Nat}{Nt Nc:iH}{E:hZ}
def Js{s}{H:Hp}{RR:gE->gr->Result->gQ->Prop}(I:Inv X pins σ H s)(hc:X.calm=true)(hi:PI X M B O)
 (hg:∀D s3 H3 C,PG (X.comp scope (Nt++Nc) cl D s3 H3 C) M g)(hf:∀D s3 H3 C,PF (X.comp scope (Nt++Nc) cl D s3 H3 C) K tc)(he:∀D s3 H3 C,PE (X.comp scope (Nt++Nc) cl D s3 H3 C) L te)
 (hkind:scope.kind=.function)(hcell:u5 scope)(wY:px X cl Nc E)(zG:Nt.length=F)
 (V:∀x c,cl.lookup x=some c->X.env.cells.lookup x=some c)(hhas:∀x,((relabel scope X.env).names.lookup x=some .cell\/(relabel scope X.env).names.lookup x=some .free)->∃c,cl.lookup x=some c)
 (VR:∀x∈Nc,(relabel scope X.env).names.lookup x=some .cell\/(relabel scope X.env).names.lookup x=some .free)
 (h:Gg O F E g tc te σ H Q)
 (fin:∀l C H' s' m,s'.heap.Ns C m->Inv X pins σ H' s'->H' C=none->C≠X.env.locals->X.s₀.heap.objs.size<=C->(∀x c,X.env.cells.lookup x=some c->c≠C)->(∀p∈X.pn++pins,p.1≠C)->Q (.ref l) H'->RR (.ref l) C (.ok .next) s'):
   wpAny (model X.prog X.w) X.A (eval B X.env) (λx adJ=>wpAny (model X.prog X.w) X.A (pyIter x) (λit adK=>wpAny (model X.prog X.w) X.A (newList []) (λacc adL=>wpAny (model X.prog X.w) X.A (newFunctionEnv scope X.env.globals cl [] X.env.qual none .none<|some X.env) (λJn adM=>codeAny (model X.prog X.w) X.A (.compStart (.ListComp L [⟨M,B,K,0⟩] scope pos) 0 it acc {Jn with scope:=relabel scope X.env}) (RR acc Jn.locals) adM) X.xe adL) X.xe adK) X.xe adJ) X.xe s:=by
  refine g6 (hi pins s σ H _ I h) λv s1 h1=>g6 h1 λWg s2 h2=>?_;obtain⟨it,D,tk,J,H2,rfl,I2,T,vD,f2,hW⟩:=h2;refine cS (wpAny_newFunctionEnv hcell (by intro y hy;simp at hy) (λEl P N=>?_) hkind);dsimp only at P N⊢;generalize hG:s2.heap.push {cls:=.type "list",dict:=none,data:=.seq ([]:gi gE).toArray}=G at P N⊢;have Us:G.objs.size=s2.heap.objs.size+1:=by rw[<-hG,d9]
  have hl:H2 s2.heap.objs.size=none:=I2.hok.fresh (au _);obtain⟨W,⟨m0,w0⟩,turn⟩:=hW _ hl;have t:Inv X pins σ (upd H2 s2.heap.objs.size<|.lst []) {s2 with heap:=G}:=by rw[<-hG];exact I2.laid (t':=s2.toks) (λb u e=>aj _ e) (au _) ⟨cy _,[],0,.nil,aJ _ rfl⟩
  generalize KD:upd H2 s2.heap.objs.size (.lst [])=H3 at w0 t;have U:∀b o,G.get? b=some o->El.get? b=some o:=λb o e=>N.extBut b o (aW<|Heap.lt_size e) (aj _ e);have L5:∀b∈D,b<s2.heap.objs.size:=λb a=>by obtain⟨o,e,_⟩:=T.obj 0 _ vD b a;exact Heap.lt_size e
  have Ki:∀b∈D,b≠G.objs.size:=λb a=>aW (ak (L5 b a)<|by rw[Us];exact c6 _);have Kj:∀b∈D,H3 b=none:=λb a=>by rw[<-KD,hA<|aW<|L5 b a];exact(f2 b a).1
  let X':=X.comp scope (Nt++Nc) cl D {s2 with heap:=G} H3 G.objs.size
  have ok':X'.Ok:=by
   refine⟨t.ok.mod,(by show(relabel scope X.env).kind=_;exact hkind),t.ok.glob,t.ok.blt,au _,λx y c e1 e2=>t.ok.inj x y c (V x c e1)<|V y c e2,λx hx=>hhas x hx,(λx c z=>nomatch z),t.ok.hd,t.ok.frames,.inl rfl,λb a=>⟨Ki b a,λx c e=>(f2 b a).2.2.2.2.1 x c (V x c e)⟩,λb o e=>t.bs b o e,av t.ok.qL t.sz,λb o e a=>?_,λb a z=>?_,t.stack,t.Gd⟩
   ·rcases(f2 b a).2.2.2.1 with z|z;·exact t.ok.xx b o e z
    ·exact absurd (ak (Heap.lt_size e)<|av t.ok.qL z) (cF _)
   ·rcases aT.mp (t.AK b z)with e|e;·exact(f2 b a).2.1 e
    ·exact(f2 b a).2.2.1 e
  have J0:Inv X' [] (nP F E σ) H3 {s2 with heap:=El,toks:=s2.toks+0}:=by
   refine⟨ok',rfl,t.bare,Un.kept U,⟨_,P,λi x v e1 e2 e3=>?_⟩,λx c e=>?_,t.hok.fresh<|au _,λx c e=>t.oU x c<|V x c e,λp hp=>absurd (show p∈([]:gi<|gr×kQ)from hp)<|by simp,t.hok.kept U,?_⟩
   ·obtain⟨k,j,rfl,q1,q2⟩:=Jf e2;have JR:Nc[k]?=some x:=by
     rw[bh<|by simp_all]at e1;rw[show F+k - Nt.length=k by simp_all]at e1;exact e1
    obtain⟨j',z1,z2,z3,z4⟩:=wY.get JR;rw[q1]at z1;cases z1;obtain⟨m,hn,Vr⟩:=t.loc;obtain⟨u,r,lk⟩:=Vr j x v z2 q2 (z3.elim (λz=>.inr<|.inl z) λz=>.inr<|.inr z);refine⟨u,r,.inr ⟨VR x<|eB JR,?_⟩⟩;rcases lk with⟨k1,_⟩|⟨_,c,k2,k3⟩;·rcases z3 with z|z<;>(rw[k1]at z;cases z)
    ·refine⟨c,z4.trans k2,?_⟩;obtain⟨o,ho,hd⟩:=k3;exact⟨o,U _ _ ho,hd⟩
   ·obtain⟨v,o,ho,hd⟩:=t.cell x c (V x c e);exact⟨v,o,U _ _ ho,hd⟩
   ·rw[Cz];show _=(Nt++Nc).length;rw[aa,wY.length,zG]
  have stat:∀{Y:jG} {H':Hp},(∀p∈Y,p.1∉D)->(∀b∈D,H' b=none)->∀b∈D,pA X' Y H' b:=λ{Y H'} hp hn b a=>⟨hn b a,Ki b a,λz=>ok'.wQ b a z,.inl a,λx c e=>(ok'.C4 b a).2 x c e,λp VA z=>hp p ((a9.mp VA).elim (λw=>absurd (show p∈([]:gi<|gr×kQ)from w)<|by simp) λw=>w)<|by rw[z];exact a⟩
  have mk:∀(s5:gQ),(∀i H5,Inv X' [] (nP F E σ) H5 s5->tk i s5.heap->(∀b∈D,H5 b=none)->∀n,W i n H5->
   codeAny (model X.prog X.w) X.A (.compLoop (.ListComp L [⟨M,B,K,0⟩] scope pos) 0 (.ref it) (.ref s2.heap.objs.size) (compEnvC scope cl G.objs.size X.env)) (RR (.ref s2.heap.objs.size) G.objs.size) s5):=by
   intro s5 i5 H5 J5 st5 TV n5 w5;refine Q8 (λn s'=>∃i H',Inv X' [] (nP F E σ) H' s'/\tk i s'.heap/\(∀b∈D,H' b=none)/\W i n H') ?_ n5 ⟨i5,H5,J5,st5,TV,w5⟩
   rintro n s6 ⟨i,H6,J6,Oj,Kl,w6⟩
   rcases turn i n H6 w6 (λb o u e=>J6.base.nU b o u (show H3 b=_ by rw[<-KD];exact e))with⟨stop,q⟩|⟨go,step⟩
   ·refine aK (T.done X' rfl rfl rfl hc i [] s6 _ H6 (λ_ _=>False) J6 (stat (by simp) Kl) Oj stop) (λr s7 ⟨hr,J7⟩=>?_) λ_ _ z=>z.elim;subst hr;obtain⟨m,hn,_⟩:=J7.loc;have IX:Inv X pins σ H6 s7:=t.IY (ch:=D) J7.os J7.base J7.hok J7.bare λb a=>⟨(f2 b a).2.2.2.1,(f2 b a).2.1,(f2 b a).2.2.2.2.1,(f2 b a).2.2.2.2.2⟩;refine fin _ _ H6 s7 m hn IX J7.free (eL t.lt) (av t.sz<|au _) (λx c e z=>?_) (λp hp z=>?_) q
    ·obtain⟨v,o,ho,_⟩:=t.cell x c e;exact absurd (Heap.lt_size ho) (by rw[z];exact cF _)
    ·exact absurd (Heap.lt_size (t.pin p hp).1) (by rw[z];exact cF _)
   ·refine aK (T.item X' rfl rfl rfl hc i [] s6 _ H6 (λ_ _=>False) J6 (stat (by simp) Kl) Oj go) (λr s7 ⟨u,hr,h7⟩=>?_) λ_ _ z=>z.elim;subst hr;refine aK h7 (λ_ s8 Z=>?_) λ_ _ z=>z.elim;obtain⟨x,H8,J8,r8,y8,Ga,TY⟩:=Z;have PV:=J8.pinned (stat (by simp) TY) (T.obj _ _ Ga)
    have back:∀{S:St} {H9:Hp} {s9:gQ},Inv X' ([]++xG D s8.heap) S H9 s9->S.length=F+E.length->(∀j,F<=j->S[j]?=(nP F E σ)[j]?)->∀m',m'<n->W (i+1) m' H9->
     ∃m,m<n/\∃i H',Inv X' [] (nP F E σ) H' s9/\tk i s9.heap/\(∀b∈D,H' b=none)/\W i m H':=λ{S H9 s9} J9 Va U9 m' hm w9=>by
     refine⟨m',hm,i+1,H9,J9.AV.weak (by rw[Cz,Va]) λj v e=>?_,T.keep _ _ _ Ga λb a o e=>(J9.pin (b,o)<|aU _<|aU _<|z7 a e).1,λb a=>?_,w9⟩
     ·obtain⟨k,_,rfl,_⟩:=Jf e;rw[U9 _<|by simp];exact e
     ·obtain⟨o,e,d⟩:=T.obj _ _ Ga b a;exact(J9.pin (b,o)<|aU _<|aU _<|z7 a e).2.1
    refine aK (hg D _ _ _ _ s8 _ H8 x u _ PV r8<|step x H8 y8) (λ_ s9 Z=>?_) λ_ _ z=>z.elim;obtain⟨S,H9,J9,⟨l9,k9⟩,q9⟩:=Z;refine aK (hf D _ _ _ _ s9 S H9 _ J9 q9) (λb s10 ⟨PL,HI,Ar⟩=>?_) λ_ _ z=>z.elim;cases b with
    |false=>rw[ao aR]at Ar⊢;obtain⟨m',hm,w10⟩:=Ar;exact back HI l9 k9 m' hm w10
    |true=>rw[af rfl]at Ar⊢;refine aK (he D _ _ _ _ s10 S PL _ HI Ar) (λy s11 Z=>?_) λ_ _ z=>z.elim;obtain⟨v,PM,PQ,r11,acc,SX,z11,m',hm,w11⟩:=Z;refine aK (z9 (X:=X') _ s11 S PM (.ref _) [v] (.ref _) [y] (λ_ HF=>W (i+1) m' HF) PQ rfl (.cons r11 .nil) ⟨_,acc,v,rfl,rfl,SX,z11,w11⟩) (λ_ s12 Z=>?_) λ_ _ z=>z.elim;obtain⟨_,HF,PU,_,w12⟩:=Z;exact back PU l9 k9 m' hm w12
  have F9:tk 0 El:=T.keep _ _ _ vD λb _ o e=>U b o (by rw[<-hG];exact aj _ e);exact codeAny_compStart_list (mk _ 0 H3 J0 F9 Kj m0 w0) (T.self _ 0 _ _ _ F9<|mk _ 0 H3 J0 F9 Kj m0 w0)
def aaj(U:X.calm=true)(P:PI X M B O)(S:∀v k y C,PG (X.comp scope (Nt++Nc) cl v k y C) M g)(hf:∀v k y C,PF (X.comp scope (Nt++Nc) cl v k y C) K tc)(T:∀v k y C,PE (X.comp scope (Nt++Nc) cl v k y C) L te)
 (i:closureFor scope X.env=pure cl)(a:scope.kind=.function)(j:u5 scope)(d:xk scope)(u:px X cl Nc E)(z:Nt.length=F)
 (p:∀x c,cl.lookup x=some c->X.env.cells.lookup x=some c)(t:∀x,((relabel scope X.env).names.lookup x=some .cell\/(relabel scope X.env).names.lookup x=some .free)->∃c,cl.lookup x=some c)
 (n:∀x∈Nc,(relabel scope X.env).names.lookup x=some .cell\/(relabel scope X.env).names.lookup x=some .free)
 (J:∀x,foldedSetIterable B X.env x=pure x):PE X (.ListComp L [⟨M,B,K,0⟩] scope pos) (Gg O F E g tc te):=by intro D s σ H Q I h;refine wpAny_comprehension_free (use:=none) rfl J i a d (Js (Nt:=Nt) (Nc:=Nc) I U P S hf T a j u z p t n h ?_);intro l C H' G m N I' h1 h2 Z Y W q;exact⟨m,N,λUl r=>⟨.ref l,H',I'.turned (t':=G.toks) (λb o V e=>r.extBut b o V e) h1 h2 (.inr Z) Y W,rfl,q⟩⟩
def BF(X:Cx)(e:hD)(t:TE):Prop:=
 ∀(i:Nat) (x:gp) (pos':Pos) (_:X.N.Nodup) (_:X.N[i]?=some x) (_:Loc X.env.scope x) (_:X.hf x) (pins:jG) (s:gQ) (σ:St) (H:Hp) (Q:VK),Inv X pins σ H s->t σ H Q->
  wpAny (model X.prog X.w) X.A (evalThenUse e X.env<|assign (.Name x pos') X.env) (λ_ b=>∃v a,Inv X pins (σ.set i<|some v) a b/\Q v a) X.xe s
def abc(hc:X.calm=true)(hi:PI X M B O)(hg:∀J p N C,PG (X.comp scope (Nt++Nc) cl J p N C) M g)(hf:∀J p N C,PF (X.comp scope (Nt++Nc) cl J p N C) K tc)(he:∀J p N C,PE (X.comp scope (Nt++Nc) cl J p N C) L te)
    (k:closureFor scope X.env=pure cl)(d:scope.kind=.function)(n:u5 scope)(j:xk scope)(G:px X cl Nc E)(T:Nt.length=F)
    (y:∀x c,cl.lookup x=some c->X.env.cells.lookup x=some c)(D:∀x,((relabel scope X.env).names.lookup x=some .cell\/(relabel scope X.env).names.lookup x=some .free)->∃c,cl.lookup x=some c)
    (u:∀x∈Nc,(relabel scope X.env).names.lookup x=some .cell\/(relabel scope X.env).names.lookup x=some .free)
    (hs:∀x,foldedSetIterable B X.env x=pure x):BF X (.ListComp L [⟨M,B,K,0⟩] scope pos) (Gg O F E g tc te):=by
 intro i x t hN P hx S U s σ H Q I h;unfold evalThenUse;refine ah (wpAny_comprehension_free (use:=some<|assign (.Name x t) X.env) rfl hs k d j<|Js (Nt:=Nt) (Nc:=Nc) I hc hi hg hf he d n G T y D u h ?_);intro l C H' s' m hn I' h1 h2 h3 h4 h5 q;refine ah (cI<|wpAny_bindName<|Oo I' hN P hx (v:=.ref l) rfl (λY I2 V=>?_) S);obtain⟨a,W,V⟩:=V;have Z:C≠a:=by grind
 obtain⟨o,es,ep,e,r⟩:=hn;refine⟨m,⟨o,es,ep,(W.2 C Z).trans e,r⟩,λUl z=>aE ⟨.ref l,H',I2.turned (t':=Y.toks) (λb o hb e=>z.extBut b o hb e) h1 h2 (.inr h3) h4 h5,q⟩⟩
def M7{te}(hN:X.N.Nodup)(j:X.N[i]?=some x)(c:Loc X.env.scope x)(k:BF X e te)(d:swapsWith e (some<|.Name x pos') ady.line X.env=pure true)(hf:X.hf x):
    PS X (.Assign [.Name x pos'] e ady) (Gf te<|Dd i):=by
 intro a s b H D I h;rw[exec_Assign_Name_used _ _ _ _ d];refine ah (cI<|ah<|g6 (k i x pos' hN j c hf a s b H _ I h) λ_ n ⟨v,m,l,q⟩=>aE ⟨_,m,l,q⟩)
end L2
namespace P2
open PySem L2 PyProof.Rows
abbrev bits(x:Int):Nat:=Builtin.Int.intBits x
def ve(h:jO X f r)(e:jO X f r'):jO X f (λx y H Q=>r x y H Q\/r' x y H Q):=
 λa s b H x y v u Q I d c q=>q.elim (h a s b H x y v u Q I d c) (e a s b H x y v u Q I d c)
def iB(C:Int->Int->gL)(g:Int->Int->D)(x y:D):R D:=match x,y with
 |.int i,.int j=>if C i j=true then .ok (g i j)else .bad
 |_,_=>.bad
section
variable{X:Cx}{E:XK}
def E6{g}(c:jO X op<|rI C g)(hC:∀i j,Cb i j=true->C i j)(d:∀i j K e H,Rep K e H (g i j)<|gd i j):kO X E op (iB Cb gd):=by
 refine⟨_,c,λ{_ H _ _ _ _ _} fr b a h=>?_⟩;unfold iB at h;split at h
 ·rename_i i j;cases b;cases a;split at h
  ·rename_i z;exact⟨i,j,rfl,rfl,hC i j z,h H (.refl H) _<|d i j _ _ _⟩
  ·exact h.elim
 ·exact h.elim
def Al{g}(c:jO X op<|r9 g)(d:∀i j K e H,Rep K e H (g i j)<|gd i j):kO X E op (iB (λ_ _=>true) gd):=by
 refine⟨_,c,λ{_ H _ _ _ _ _} fr b a h=>?_⟩;unfold iB at h;split at h
 ·rename_i i j;cases b;cases a;exact⟨i,j,rfl,rfl,h H (.refl H) _<|d i j _ _ _⟩
 ·exact h.elim
def pQ:D->D->R D:=iB (λ_ _=>true) λi j=>.int (i - j)
def Zz:kO X E (binaryOp .Sub) pQ:=Al Zy λ_ _ _ _ _=>.int _
def Mz(i j:Int):gL:=decide (bits i<=1048576)&&decide (bits j<=1048576)
def xB(_ j:Int):gL:=decide (j≠0)&&decide (bits j<=9000)
def MB(i j:Int):gL:=decide (0<=j)&&decide (j<=1000000)&&decide (i.natAbs<2^64)
def iE:D->D->R D:=iB xB λi j=>.int (i.fdiv j)
def YT:kO X E (binaryOp .FloorDiv) iE:=E6 YS (λi j h=>by unfold xB at h;simpa [HE]using h) λ_ _ _ _ _=>.int _
def hR:D->D->R D:=iB (λ_ j=>decide<|j≠0) λi j=>.int (i.fmod j)
def Zh:kO X E (binaryOp .Mod) hR:=E6 Zj (λi j h=>by simpa using h) λ_ _ _ _ _=>.int _
def rZ:D->D->R D:=iB MB λi j=>.int (i^j.toNat)
def Zw:kO X E (binaryOp .Pow) rZ:=E6 Zv (λi j h=>by unfold MB at h;simp only[aq,aA]at h;exact⟨h.1.1,h.1.2,h.2⟩) λ_ _ _ _ _=>.int _
def oZ:D->D->R D:=iB (λ_ _=>true) λi j=>.bl (decide<|i<j)
def jX:D->D->R D:=iB (λ_ _=>true) λi j=>.bl (decide<|j<i)
def uM:D->D->R D:=iB (λ_ _=>true) λi j=>.bl (decide<|j<=i)
def Zg:kO X E (compareOp .Lt) oZ:=Al Zd λ_ _ _ _ _=>.bl _
def YX:kO X E (compareOp .Gt) jX:=Al YW λ_ _ _ _ _=>.bl _
def YV:kO X E (compareOp .GtE) uM:=Al YU λ_ _ _ _ _=>.bl _
def u6:D->R D
 |.int i=>.ok (.int<|-i)
 |_=>.bad
def ae1:Il X E (unaryOp .USub) u6:=by
 refine⟨_,ae0,λ{_ H _ _ _} fr a h=>?_⟩;unfold u6 at h;split at h;·cases a;exact⟨_,rfl,h H (.refl H) _<|.int _⟩
 ·exact h.elim
def yJ(K:gF)(H:Hp)(a:gr)(b:gi V):Prop:=Rd H a (.lst b)\/KL K a b
def yJ.is{s}(I:Inv X pins σ H s)(h:yJ X.K H a xs):∃b n,Vals xs b/\s.heap.get? a=some {cls:=.type "list",data:=.seq b.toArray n}:=by
 rcases h with h|⟨b,n,h1,h2,h3⟩
 ·obtain⟨z,b,n,r,e⟩:=h.ok I.hok
  grind
 ·exact⟨b,n,h3,I.iN a _ h1⟩
def acf(K:gF):R2:=λx y H Q=>∃l b c a,x=.ref l/\y=.ref b/\yJ K H l c/\yJ K H b a/\c.length+a.length<=sizeLine/\∀p,H p=none->Q (.ref p) (upd H p<|.lst<|c++a)
def YP:jO X (binaryOp .Add) (acf X.K):=by
 intro f s t H x y v u Q I i g h;obtain⟨l,b,z,w,rfl,rfl,k,m,B,q⟩:=h;cases i;cases g;obtain⟨c,n,r,e⟩:=k.is I;obtain⟨a,A,d,p⟩:=m.is I;have C:=r.length;have j:=d.length;refine PySem.P.add_list e p ?_ (by rw[aM,aM];simp_all);have o:c.toArray++a.toArray=(c++a).toArray:=by simp
 rw[o];exact⟨.ref _,_,I.LR (t':=s.toks) (r.append d)<|by rw[aa];omega,rfl,q _ I.fresh⟩
noncomputable def gv:D->D->R D
 |.int i,.int j=>.ok (.int<|i+j)
 |.str i,.str j=>if i.length+j.length<=sizeLine then .ok (.str<|i++j)else .bad
 |.lst xs,.lst a=>if xs.length+a.length<=sizeLine then .ok (.lst<|xs++a)else .bad
 |_,_=>.bad
def YN:kO X E (binaryOp .Add) gv:=by
 refine⟨_,ve YM<|ve YO YP,λ{_ H _ _ _ _ _} fr d c h=>?_⟩;unfold gv at h;split at h;·cases d;cases c;exact .inl ⟨_,_,rfl,rfl,h H (.refl H) _<|.int _⟩
 ·cases d;cases c;split at h;·rename_i z;exact .inr (.inl ⟨_,_,rfl,rfl,z,h H (.refl H) _<|.str _⟩)
  ·exact h.elim
 ·split at h
  ·rename_i z;obtain⟨a,j,rfl,l,g⟩:=d.L3;obtain⟨b,i,rfl,k,f⟩:=c.L3;exact .inr (.inr ⟨a,b,j,i,rfl,rfl,l,k,by rw[g.length,f.length];exact z,λp e=>h _ (lO e) _ ((g.append f).xn e (fr p e))⟩)
  ·exact h.elim
 ·exact h.elim
noncomputable def rW(x:gp)(n:Int):gL:=!(decide (n< -(2^63:Int))||decide (n≥2^63))&&decide (x.length*n.toNat<=1000000)&&decide (x.length<=1000000)&&decide (n<=1000000)
def Zp:jO X (binaryOp .Mult) (λx y H Q=>∃i n,x=.str i/\y=.int n/\MulOk i n/\Q (.str<|Txt.mul i n) H):=by intro a s f H x y v u Q I d c h;obtain⟨i,j,rfl,rfl,e,q⟩:=h;obtain⟨t,rfl⟩:=d;obtain⟨g,rfl⟩:=c;exact SB.mul e λb k=>⟨.str _,H,I.tok _,⟨_,rfl⟩,q⟩
def mulOk_of{n}(h:rW x n=true):MulOk x n:=by
 unfold rW at h;simp only[aq,aA,bW]at h;obtain⟨⟨⟨a,g⟩,f⟩,e⟩:=h;refine⟨a,λd _=>?_,λ_ _=>?_⟩
 ·have c:(1:Int)<=n:=by simp_all
  have b:(1000000:Int)<=(2^63 - 1)/n:=by
   apply(Int.le_ediv_iff_mul_le<|by walk_at "l").mpr
   lia
  lia
 ·have:sizeLine=16777216:=dZ;unfold Builtin.Str.tooLong;simp only[cY]
  lia
noncomputable def wR:D->D->gH gL
 |.non,.non=>some true
 |.int i,.int j=>some (decide<|i=j)
 |.str i,.str j=>some (decide<|i=j)
 |.bl i,.bl j=>some (decide<|i=j)
 |.non,.int _=>some false
 |.int _,.non=>some false
 |.non,.str _=>some false
 |.str _,.non=>some false
 |.non,.bl _=>some false
 |.bl _,.non=>some false
 |.int _,.str _=>some false
 |.str _,.int _=>some false
 |_,_=>none
def gW(x y:D):R D:=match wR x y with
 |some b=>.ok (.bl b)
 |none=>.bad
def ky(x y:D):R D:=match wR x y with
 |some b=>.ok (.bl<|!b)
 |none=>.bad
def Ke{K}(c:Rep K al H x dx)(a:Rep K al H y dy)(h:wR dx dy=some b):FZ x y=true/\decide (x=y)=b:=by
 have f:∀{x i},Rep K al H x (.int i)->x=.int i:=λr=>by cases r;rfl
 have d:∀{x i},Rep K al H x (.str i)->x=.str i:=λr=>by cases r;rfl
 have g:∀{x i},Rep K al H x (.bl i)->x=.bl i:=λr=>by cases r;rfl
 have e:∀{x},Rep K al H x .non->x=.non:=λr=>by cases r;rfl
 cases dx<;>first|(cases h;done)|(cases dy<;>first|(cases h;done)|((first|cases f c|cases d c|cases g c|cases e c)<;>(first|cases f a|cases d a|cases g a|cases e a)<;>(cases h;exact⟨rfl,by simp⟩)))
def YR:kO X E (compareOp .Eq) gW:=by
 refine⟨_,YQ,λ{_ H _ _ g f _} fr c a h=>?_⟩;unfold gW at h;cases q:wR g f with
 |none=>rw[q]at h;exact h.elim
 |some b=>rw[q]at h;obtain⟨e,d⟩:=Ke c a q;exact⟨e,by rw[d];exact h H (.refl H) _ (.bl b)⟩
def Zs:kO X E (compareOp .NotEq) ky:=by
 refine⟨_,Zq,λ{_ H _ _ g f _} fr c a h=>?_⟩;unfold ky at h;cases q:wR g f with
 |none=>rw[q]at h;exact h.elim
 |some b=>rw[q]at h;obtain⟨e,d⟩:=Ke c a q;exact⟨e,by rw[d];exact h H (.refl H) _ (.bl _)⟩
def nB:D->D->R D
 |.str i,.str j=>.ok (.bl<|Txt.contains j i)
 |_,_=>.bad
def MG:kO X E (compareOp .In) nB:=by
 refine⟨_,YZ,λ{_ H _ _ _ _ _} fr b a h=>?_⟩;unfold nB at h;split at h;·cases b;cases a;exact⟨_,_,rfl,rfl,h H (.refl H) _<|.bl _⟩
 ·exact h.elim
def gR.hI{K}(r:gR K al H vs ds){d}(h:L2.hI ds i=some d):∃v,L2.hI vs i=some v/\Rep K al H v d:=by
 unfold L2.hI at h⊢;rw[r.length];cases q:qR ds.length i with
 |none=>simp_all
 |some j=>rw[q]at h;exact r.getD h
noncomputable def gK:D->D->R D
 |.lst ds,.int i=>match L2.hI ds i with
  |some d=>.ok d
  |none=>.bad
 |.tup ds,.int i=>match L2.hI ds i with
  |some d=>.ok d
  |none=>.bad
 |.str z,.int i=>if z.length<=sizeLine then(match L2.hI z.cps.toList i with
  |some c=>.ok (.str ⟨#[c]⟩)
  |none=>.bad)else .bad
 |_,_=>.bad
abbrev i6(i:Nat)(k:Int):hP:=d2 gK (dV i) (gq k)
def Ep:Bg X E gK:=by
 refine⟨_,Wl,λ{_ H _ _ _ _ _} fr f e h=>?_⟩;unfold gK at h;split at h
 ·rename_i m i;cases e;cases q:L2.hI m i with
  |none=>rw[q]at h;exact h.elim
  |some d=>rw[q]at h;obtain⟨a,b,rfl,j,g⟩:=f.rQ;obtain⟨v,l,k⟩:=gR.hI g q;exact .inl ⟨a,b,i,v,rfl,rfl,j,l,h H (.refl H) _ k⟩
 ·rename_i m i;cases e;cases q:L2.hI m i with
  |none=>rw[q]at h;exact h.elim
  |some d=>rw[q]at h;obtain⟨a,b,rfl,j,g⟩:=f.sk;obtain⟨v,l,k⟩:=gR.hI g q;exact .inr (.inl ⟨a,b,i,v,rfl,rfl,j,l,h H (.refl H) _ k⟩)
 ·rename_i z i;cases f;cases e;split at h
  ·rename_i n;cases q:L2.hI z.cps.toList i with
   |none=>rw[q]at h;exact h.elim
   |some c=>rw[q]at h;exact .inr (.inr ⟨z,i,c,rfl,rfl,n,q,h H (.refl H) _<|.str _⟩)
  ·exact h.elim
 ·exact h.elim
def af5(i){x:gp}{k j}{p c b}(hN:autoParam (X.N[i]?=some x) aZ0)(d:autoParam (pF X.env.scope x) aZ4)(e:autoParam ((x==("__debug__":gp))=false) aZ1)(a:autoParam ((x==("__classdict__":gp))=false) aZ1):DE X E (.Subscript (.Name x p) (.Constant (.int k) j c) b) (i6 i k):=Jz Ep (zc i hN d e a) pH
def ack:V->gH Int->gH Int->Hp->VK->Prop:=λx a b H Q=>∃z,x=.str z/\z.length<=sizeLine/\Q (.str<|Txt.slice z a b) H
def adp:qG X ack:=by
 intro m s w H x v A y C D B Q I n r p g h;obtain⟨z,rfl,a,q⟩:=h;obtain⟨t,rfl⟩:=n;refine⟨"str",_,PySem.F.slot_str_getitem.lookup,et s z t,?_⟩;obtain⟨o,d,c,b⟩:=r;cases p with
 |none=>
  cases g with
  |none=>exact cZ (l:=none) (u:=none) (st:=none) ⟨o,d,c,b⟩ rfl (eG ⟨av (eN z none none) a,λe k=>⟨.str _,H,I.tok _,⟨_,rfl⟩,q⟩⟩)
  |int j u=>exact cZ (l:=none) (u:=some (j,u)) (st:=none) ⟨o,d,c,b⟩ rfl (eG ⟨av (eN z none<|some j) a,λe k=>⟨.str _,H,I.tok _,⟨_,rfl⟩,q⟩⟩)
 |int i f=>
  cases g with
  |none=>exact cZ (l:=some (i,f)) (u:=none) (st:=none) ⟨o,d,c,b⟩ rfl (eG ⟨av (eN z (some i) none) a,λe k=>⟨.str _,H,I.tok _,⟨_,rfl⟩,q⟩⟩)
  |int j u=>exact cZ (l:=some (i,f)) (u:=some (j,u)) (st:=none) ⟨o,d,c,b⟩ rfl (eG ⟨av (eN z (some i)<|some j) a,λe k=>⟨.str _,H,I.tok _,⟨_,rfl⟩,q⟩⟩)
def cutD(a:ja)(b c:sP):gi D:=(a.drop<|HT.iG a.length 0 b).take (HT.iG a.length a.length c - HT.iG a.length 0 b)
def gR.cut{K}(r:gR K al H vs ds)(lo hi):gR K al H (rK vs lo hi) (cutD ds lo hi):=by unfold rK cutD;rw[r.length];exact(r.drop _).take _
def F4:D->gH Int->gH Int->R D
 |.lst ds,lo,a=>.ok (.lst<|cutD ds lo a)
 |.str z,lo,a=>if z.length<=sizeLine then .ok (.str<|Txt.slice z lo a)else .bad
 |_,_,_=>.bad
def adm:BJ X E F4:=by
 refine⟨_,ado.or adp,λ{_ H _ _ e g _} fr c h=>?_⟩;unfold F4 at h;split at h
 ·obtain⟨a,d,rfl,j,i⟩:=c.rQ;exact .inl ⟨a,d,rfl,j,λp b=>h _ (lO b) _<|(i.cut e g).xn b (fr p b)⟩
 ·cases c;split at h;·rename_i f;exact .inr ⟨_,rfl,f,h H (.refl H) _<|.str _⟩
  ·exact h.elim
 ·exact h.elim
noncomputable def ih:gw
 |[.str z]=>if z.length<=sizeLine then .ok (.int z.length)else .bad
 |[.lst ds]=>.ok (.int ds.length)
 |[.tup ds]=>.ok (.int ds.length)
 |_=>.bad
def gR.one{K d}(r:gR K al H vs [d]):∃v,vs=[v]/\Rep K al H v d:=by
 cases r with
 |cons a b=>cases b;exact⟨_,rfl,a⟩
def gR.two{K d}(r:gR K al H vs [d,e]):∃v u,vs=[v,u]/\Rep K al H v d/\Rep K al H u e:=by
 cases r with
 |cons a b=>obtain⟨u,rfl,q⟩:=gR.one b;exact⟨_,_,rfl,a,q⟩
def Jc:og X E (.builtin "len") ih:=by
 refine⟨_,QO.or Jd,λ{_ H _ _ _} fr r h=>?_⟩;unfold ih at h;split at h
 ·obtain⟨v,rfl,q⟩:=gR.one r;cases q;split at h;·rename_i e;exact .inl ⟨_,rfl,e,h H (.refl H) _<|.int _⟩
  ·exact h.elim
 ·obtain⟨v,rfl,q⟩:=gR.one r;obtain⟨a,b,rfl,d,c⟩:=q.rQ;exact .inr ⟨a,b,rfl,.inl d,by rw[c.length];exact h H (.refl H) _ (.int _)⟩
 ·obtain⟨v,rfl,q⟩:=gR.one r;obtain⟨a,b,rfl,d,c⟩:=q.sk;exact .inr ⟨a,b,rfl,.inr d,by rw[c.length];exact h H (.refl H) _ (.int _)⟩
 ·exact h.elim
noncomputable def t9:gw
 |[.int i]=>.ok (.int<|if i<0 then -i else i)
 |_=>.bad
def QE:og X E (.builtin "abs") t9:=by
 refine⟨_,QD,λ{_ H _ _ _} fr r h=>?_⟩;unfold t9 at h;split at h
 ·obtain⟨v,rfl,q⟩:=gR.one r;cases q;exact⟨_,rfl,h H (.refl H) _<|.int _⟩
 ·exact h.elim
noncomputable def tj:gw
 |[.int i,.int j]=>.ok (.int<|if j>i then j else i)
 |_=>.bad
def Je(b:X.calm=true):og X E (.builtin "max") tj:=by
 refine⟨_,QP b,λ{_ H _ _ _} fr r h=>?_⟩;unfold tj at h;split at h
 ·obtain⟨v,u,rfl,q,a⟩:=gR.two r;cases q;cases a;exact⟨_,_,rfl,h H (.refl H) _<|.int _⟩
 ·exact h.elim
noncomputable def lQ:gw
 |[.int i]=>if i.natAbs.log2<1920 then .ok (.str<|toString i)else .bad
 |_=>.bad
def QQ:og X E (.type "str") lQ:=by
 refine⟨_,QR,λ{_ H _ _ _} fr r h=>?_⟩;unfold lQ at h;split at h
 ·obtain⟨v,rfl,q⟩:=gR.one r;cases q;split at h;·rename_i a;exact⟨_,rfl,a,h H (.refl H) _<|.str _⟩
  ·exact h.elim
 ·exact h.elim
def QH:lu X (.type "int") (λa H Q=>∃z n,a=[.str z]/\PySem.intText? z=some n/\z.length<=640/\Q (.int n) H):=by intro b s e H a f Q I r h;obtain⟨z,n,rfl,d,c,q⟩:=h;obtain⟨u,rfl,t,rfl⟩:=vals1 r;exact W.KIN.call_text d c ⟨.int n,H,I.tok _,⟨_,rfl⟩,q⟩
noncomputable def intD:gw
 |[.str z]=>match PySem.intText? z with
  |some n=>if z.length<=640 then .ok (.int n)else .bad
  |none=>.bad
 |_=>.bad
def Jb:og X E (.type "int") intD:=by
 refine⟨_,QH,λ{_ H _ _ _} fr r h=>?_⟩;unfold intD at h;split at h
 ·rename_i z;obtain⟨v,rfl,q⟩:=gR.one r;cases q;cases e:PySem.intText? z with
  |none=>rw[e]at h;exact h.elim
  |some n=>
   rw[e]at h;dsimp only at h;split at h;·rename_i a;exact⟨z,n,rfl,e,a,h H (.refl H) _<|.int _⟩
   ·exact h.elim
 ·exact h.elim
theorem OV:∀{bs:gi gL} {a},Vals (bs.map V.bl) a->a=bs.map Value.bool
 |[],_,r=>by cases r;rfl
 |b::bs,_,r=>by
  cases r with
  |cons d c=>cases d;rw[OV c];rfl
def all_range(bs:gi gL):(List.range bs.length).all (λi=>bs.getD i false)=bs.all id:=by
 rw[bx];simp only[aZ,d8,id];constructor
 ·intro h b c;obtain⟨i,a,rfl⟩:=List.getElem_of_mem c;simp_all
 ·intro h i a;rw[List.getD_eq_getElem?_getD,bw a];exact h _ (ey a)
def QF(t:X.calm=true):lu X (.builtin "all") (λf H Q=>∃(a:gr) (bs:gi gL),f=[.ref a]/\kl X.K H a (bs.map V.bl)/\Q (.bl<|bs.all id) H):=by
 intro g s y H f z Q I r h;obtain⟨a,bs,rfl,w,q⟩:=h;obtain⟨u,rfl,l⟩:=vals1 r;cases l;obtain⟨m,j,c,B⟩:=I.list w;have x:=OV j;subst x;refine call_all_walk (dq c.isList ?_);have p:(X.A.in1).handled=none:=I.ok.hd t;have d:a≠s.heap.objs.size:=aW (by obtain⟨o,e,_⟩:=c.isList;exact Heap.lt_size e);refine⟨s.heap.objs.size,_,_,_,_,_,λi=>bs.getD i false,rfl,Walks.list p s.heap.objs.size a d (bs.map Value.bool).toArray,⟨⟨_,aJ _ rfl,rfl,rfl⟩,c.isList.at λo e=>aj _ e⟩,?_,λD tk k=>?_⟩
 ·intro i v A F G C n;have:v=Value.bool (bs.getD i false):=by grind
  subst this;exact cC n
 ·refine⟨.bl<|bs.all id,H,I.kept (t':=tk) λb o e=>k b o (by simp only[aS];exact aW (Heap.lt_size e))<|aj _ e,?_,q⟩;show Value.bool _=Value.bool _;rw[aM,ae,all_range]
def oS:gi D->gH (gi gL)
 |[]=>some []
 |.bl b::r=>(oS r).map (b:: ·)
 |_=>none
theorem gR.bools{K}:∀{d} {c} {bs},gR K al H d c->oS c=some bs->d=bs.map V.bl
 |_,[],bs,r,h=>by cases r;cases h;rfl
 |_,.bl b::c,bs,r,h=>by
  unfold oS at h;obtain⟨g,f,e⟩:=aL.mp h;subst e;cases r with
  |cons a q=>cases a;rw[gR.bools q f];rfl
 |_,.non::_,_,_,h=>by cases h
 |_,.int _::_,_,_,h=>by cases h
 |_,.str _::_,_,_,h=>by cases h
 |_,.ty _::_,_,_,h=>by cases h
 |_,.ref _::_,_,_,h=>by cases h
 |_,.tup _::_,_,_,h=>by cases h
 |_,.lst _::_,_,_,h=>by cases h
 |_,.exc _ _ _::_,_,_,h=>by cases h
def rH:gw
 |[.lst ds]=>match oS ds with
  |some bs=>.ok (.bl<|bs.all id)
  |none=>.bad
 |_=>.bad
def y6(c:X.calm=true):og X E (.builtin "all") rH:=by
 refine⟨_,QF c,λ{_ H _ b _} fr r h=>?_⟩;unfold rH at h;split at h
 ·rename_i b;obtain⟨v,rfl,q⟩:=gR.one r;obtain⟨a,i,rfl,f,d⟩:=q.rQ;cases e:oS b with
  |none=>rw[e]at h;exact h.elim
  |some bs=>rw[e]at h;have g:=gR.bools d e;subst g;exact⟨a,bs,rfl,f,h H (.refl H) _<|.bl _⟩
 ·exact h.elim
def XX:sI X "str.startswith" (λx a H Q=>∃i j,x=.str i/\a=[.str j]/\Q (.bl<|Txt.startswith i j) H):=by intro b s d H x a v e Q I c rs h;obtain⟨i,j,rfl,rfl,q⟩:=h;obtain⟨t,rfl⟩:=c;obtain⟨u,rfl,f,rfl⟩:=vals1 rs;exact SC.startswith ⟨.bl _,H,I,rfl,q⟩
def vE:D->gw
 |.str i,[.str j]=>.ok (.bl<|Txt.startswith i j)
 |_,_=>.bad
def XY:wj X E "str" "str.startswith" vE:=by
 refine⟨_,XX,λ{_ H _ _ _ _ _} fr a rs h=>?_⟩;unfold vE at h;split at h
 ·cases a;obtain⟨v,rfl,q⟩:=gR.one rs;cases q;exact⟨_,_,rfl,rfl,h H (.refl H) _<|.bl _⟩
 ·exact h.elim
noncomputable def afD:D->gw
 |.str z,[.int i]=>if PadOk i=true then .ok (.str<|Txt.zfill z i)else .bad
 |_,_=>.bad
noncomputable def iI:D->R D
 |.str z=>if z.length<=sizeLine then .ok (.str z)else .bad
 |.int i=>if i.natAbs.log2<1920 then .ok (.str<|toString i)else .bad
 |_=>.bad
def RA{pos}(x:DE X E e f):DE X E (.FormattedValue e (-1) none pos) (d1 iI f):=by
 obtain⟨t,p,r⟩:=x;refine⟨λg H Q=>t g H λv a=>(∃z,v=.str z/\z.length<=sizeLine/\Q (.str z) a)\/∃i,v=.int i/\i.natAbs.log2<1920/\Q (.str<|toString i) a,λd s g H Q I h=>?_,λ{_ _ _ H g _ _} s h=>r s<|Aft.mono (Aft.split h) λ{_ a} o b v k=>?_⟩
 ·refine FormattedValue_plain (g6 (p d s g H _ I h) λu o j=>?_);obtain⟨v,a,m,l,w⟩:=j;rcases w with⟨z,rfl,c,q⟩|⟨i,rfl,c,q⟩
  ·obtain⟨n,rfl⟩:=l;exact formatField_str (λy tk=>⟨.str z,a,m.tok _,⟨_,rfl⟩,q⟩) c
  ·obtain⟨n,rfl⟩:=l;exact formatField_int_small c ⟨.str _,a,m.tok _,⟨_,rfl⟩,q⟩
 ·unfold iI at b;split at b
  ·cases k;split at b;·rename_i c;exact .inl ⟨_,rfl,c,b a (.refl a) _<|.str _⟩
   ·exact b.elim
  ·cases k;split at b;·rename_i c;exact .inr ⟨_,rfl,c,b a (.refl a) _<|.str _⟩
   ·exact b.elim
  ·exact b.elim
structure DJ(X:Cx)(E:XK)(es:jT)(f:gp->hP):Prop where
 w_::
 o_:∃t:gp->TE,(∀(out:gp) (pins:jG) (s:gQ) (σ:L2.St) (H:Hp) (Q:VK),Inv X pins σ H s->t out σ H Q->wpAny (model X.prog X.w) X.A (joinParts out<|evalEach es X.env) (EP X pins σ Q) X.xe s)/\
 ∀{out P H0 al H σ ρ} {Q:VK},RS X.K P H0 al H σ ρ->Aft X.K al E H (f out ρ) (λd H'=>∀v,Rep X.K al H' v d->Q v H')->t out σ H Q
def kn(out:gp):hP:=λ_=>if out.length<=sizeLine then .ok (.str out)else .bad
def g8(a:hP)(r:gp->hP)(out:gp):hP:=λb=>(a b).bind λx=>match x with
 |.str y=>if(out++y).length<=sizeLine then r (out++y) b else .bad
 |_=>.bad
def R6:DJ X E [] kn:=by
 refine⟨λout _ H Q=>out.length<=sizeLine/\Q (.str out) H,λout a s b H Q I h=>joinParts_nil ⟨.str out,H,I.tok _,⟨_,rfl⟩,h.2⟩ h.1,λ{_ _ _ _ H _ _ _} s h=>?_⟩;unfold kn at h;split at h;·rename_i z;exact⟨z,h H (.refl H) _<|.str _⟩
 ·exact h.elim
def R5{fr}(r:DE X E e fa)(p:DJ X E es fr):DJ X E (e::es) (g8 fa fr):=by
 obtain⟨j,o,m⟩:=r;obtain⟨i,pr,l⟩:=p;refine⟨λout a H Q=>j a H λv f=>∃y,v=.str y/\(out++y).length<=sizeLine/\i (out++y) a f Q,λout b s a H Q I h=>?_,λ{out _ _ _ H a _ _} s h=>m s<|Aft.mono (Aft.split h) λ{_ f} g c v k=>?_⟩
 ·show wpAny _ _ (joinParts out<|eval e X.env::evalEach es X.env) _ _ _;refine joinParts_cons (g6 (o b s a H _ I h) λu g d=>?_);obtain⟨v,f,x,n,y,t,z,q⟩:=d;subst t;obtain⟨w,rfl⟩:=n
  grind
 ·cases k with
  |str y=>
   dsimp only at c;split at c;·rename_i z;exact⟨y,rfl,z,l (s.grow g) c⟩
   ·exact c.elim
  |_=>exact(c:False).elim
def RE{pos}(h:DJ X E (e1::e2::es) f):DE X E (.JoinedStr (e1::e2::es) pos) (f Str.empty):=by obtain⟨t,p,r⟩:=h;exact⟨t Str.empty,λa s b H Q I h=>JoinedStr_many<|p Str.empty a s b H Q I h,r (out:=Str.empty)⟩
end
def wE(K:gF)(E:XK)(f:hP):TE:=λe H Q=>∃P g a b,RS K P g a H e b/\Aft K a E H (f b) (λd c=>∀v,Rep K a c v d->Q v c)
def wT(K:gF)(E:XK)(f:kv):TT:=λc H Q=>∃P d b a,RS K P d b H c a/\Aft K b E H (f a) Q
def wG(K:gF)(l:hZ)(a:oj):TG:=λv f H Q=>∃P h e g d,RS K P h e H f g/\Rep K e H v d/\∃c,a d g=some c/\∀b,Kp l f b->RS K P h e H b c->Q b H
def DE.w{X E e f}(h:DE X E e f):PE X e (wE X.K E f):=by obtain⟨t,p,r⟩:=h;intro b s c H Q I g;obtain⟨P,k,j,i,d,a⟩:=g;exact p b s c H Q I (r d a)
def DT.w{X E e f}(h:DT X E e f):PT X e (wT X.K E f):=by obtain⟨t,p,r⟩:=h;intro b s c H Q I g;obtain⟨P,k,j,i,d,a⟩:=g;exact p b s c H Q I (r d a)
def DG.w{X c l a}(h:DG X c l a):PG X c (wG X.K l a):=by obtain⟨t,p,r⟩:=h;intro b s e H v u Q I g j;obtain⟨P,n,m,k,d,f,i,a⟩:=j;exact p b s e H v u Q I g (r f i a)
def sD(X:Cx)(a:jT)(f:kv):Prop:=PF X a (wT X.K (λ_ _ _=>False) f)
def JE:sD X [] (λ_=>.ok true):=λb s c H Q I h=>by obtain⟨P,g,f,d,e,a⟩:=h;exact aaA b s c H Q I (a H<|.refl H)
def RP(h:DT X (λ_ _ _=>False) c f):sD X [c] f:=aaB h.w
noncomputable def lD(b:Nat)(c:hZ)(a:Ev):Ev:=List.replicate b .no++c.map λi=>match a[i]? with
 |some (.sh d)=>.sh d
 |_=>.no
def xC{b:Type}:R b->gH b
 |.ok a=>some a
 |_=>none
def xA{b:Type}:gH b->R b
 |some a=>.ok a
 |none=>.bad
noncomputable def kR(a:oj)(c:kv)(e:hP)(f:Ev):gi D->gH (gi D)
 |[]=>some []
 |d::r=>(a d f).bind λg=>(xC<|c g).bind λb=>if b=true then(xC<|e g).bind λv=>(kR a c e f r).bind λh=>some (v::h)else kR a c e f r
def kS(g:kE)(f:Nat)(h:hZ)(a:oj)(c:kv)(e:hP):Ev->R (gi D):=λb=>(g b).bind λd=>if d.length<=sizeLine then xA (kR a c e (lD f h b) d)else .bad
def MA{a}(h:xC r=some a):r=.ok a:=by
 cases r with
 |ok x=>cases h;rfl
 |_=>cases h
def acL{K}(s:RS K P H0 al H1 σ ρ)(x:Xt al H1 iZ H2)(g:j8 K H1 H2)(fr:∀a,H2 a=none->iZ a)(sub:∀a,iZ a->al a)(tn ci):
    RS K al H1 iZ H2 (nP tn ci σ) (lD tn ci ρ) where
 same:=g
 tt:=g.tt s.tt
 fresh:=fr
 sub:=sub
 pf:=s.fresh
 len:=by unfold nP lD;simp
 sh:=λj d h=>by
  unfold lD at h;by_cases c:j<tn;·rw[aX<|by simpa using c,bM,af c]at h;cases h
  ·rw[bh<|by simpa using c,bG,aN]at h;cases q:ci[j - tn]? with
   |none=>rw[q]at h;cases h
   |some i=>
    rw[q]at h;have f:(match ρ[i]? with|some (.sh d)=>Sl.sh d|_=>.no)=.sh d:=Option.some.inj h;cases z:ρ[i]? with
    |none=>rw[z]at f;cases f
    |some y=>
     rw[z]at f;cases y with
     |sh e=>cases f;obtain⟨v,m,l⟩:=s.sh i d z;refine⟨v,?_,l.mv x⟩;unfold nP;rw[bh<|by simpa using c,bG,aN,q];show some ((σ[i]?).getD none)=_;rw[m];rfl
     |_=>cases f
 ow:=λj d h=>by
  unfold lD at h;by_cases c:j<tn;·rw[aX<|by simpa using c,bM,af c]at h;cases h
  ·rw[bh<|by simpa using c,bG,aN]at h;cases q:ci[j - tn]? with
   |none=>rw[q]at h;cases h
   |some i=>rw[q]at h;have f:(match ρ[i]? with|some (.sh d)=>Sl.sh d|_=>.no)=.ow d:=Option.some.inj h;split at f<;>cases f
 apart:=λj k d n b h _ _ _=>by
  exfalso;unfold lD at h;by_cases c:j<tn;·rw[aX<|by simpa using c,bM,af c]at h;cases h
  ·rw[bh<|by simpa using c,bG,aN]at h;cases q:ci[j - tn]? with
   |none=>rw[q]at h;cases h
   |some i=>rw[q]at h;have f:(match ρ[i]? with|some (.sh d)=>Sl.sh d|_=>.no)=.ow d:=Option.some.inj h;split at f<;>cases f
variable{X:Cx}{E:XK}{U L O:hD}{N:jT}{B:Scope}{pos:Pos}{fi:kE}{a:oj}{fc:kv}{Y:hP}{cl:gi<|gp×gr}{M:Nat}{Nt Nc:iH}{ci l:hZ}
structure qD(X:Cx)(E:XK)(e:hD)(f:kE):Prop where
 w_::
 o_:∃t:TE,PE X e t/\BF X e t/\
 ∀{P H0 al H σ ρ} {Q:VK},RS X.K P H0 al H σ ρ->Aft X.K al E H (f ρ) (λds H'=>∀p vs,H' p=none->gR X.K al H' vs ds->Q (.ref p) (upd H' p<|.lst vs))->t σ H Q
def qD.dn(h:qD X E e f):DN X E e f:=let⟨t,p,_,r⟩:=h;⟨t,p,r⟩
def JK(T:X.calm=true)(hi:DI X E U L fi)(hg:∀G k r C,DG (X.comp B (Nt++Nc) cl G k r C) U l a)(hl:∀j∈l,j<M)(hf:∀G k r C,sD (X.comp B (Nt++Nc) cl G k r C) N fc)
 (he:∀G k r C,DE (X.comp B (Nt++Nc) cl G k r C) (λ_ _ _=>False) O Y)
 (P:closureFor B X.env=pure cl)(K:B.kind=.function)(Q:u5 B)(F:xk B)(wY:px X cl Nc ci)(zG:Nt.length=M)
 (Z:∀x c,cl.lookup x=some c->X.env.cells.lookup x=some c)(hhas:∀x,((relabel B X.env).names.lookup x=some .cell\/(relabel B X.env).names.lookup x=some .free)->∃c,cl.lookup x=some c)
 (W:∀x∈Nc,(relabel B X.env).names.lookup x=some .cell\/(relabel B X.env).names.lookup x=some .free)
 (hs:∀x,foldedSetIterable L X.env x=pure x):qD X E (.ListComp O [⟨U,L,N,0⟩] B pos) (kS fi M ci a fc Y):=by
  obtain⟨wi,pi,ri⟩:=hi;refine⟨_,aaj (te:=wE X.K (λ_ _ _=>False) Y) (tc:=wT X.K (λ_ _ _=>False) fc) (g:=wG X.K l a) T pi (λG k r C=>(hg G k r C).w) hf (λG k r C=>(he G k r C).w) P K Q F wY zG Z hhas W hs,abc (te:=wE X.K (λ_ _ _=>False) Y) (tc:=wT X.K (λ_ _ _=>False) fc) (g:=wG X.K l a) T pi (λG k r C=>(hg G k r C).w) hf (λG k r C=>(he G k r C).w) P K Q F wY zG Z hhas W hs,λ{_ _ al _ _ ρ _} s h=>ri s<|Aft.mono (Aft.split h) λ{H H1} s1 h1 J wk=>?_⟩;intro p hp;by_cases hz:H.length<=sizeLine
  ·rw[af hz]at h1;cases q:kR a fc Y (lD M ci ρ) H with
   |none=>rw[q]at h1;exact h1.elim
   |some out=>
    rw[q]at h1;have s2:=s.grow s1
    let f:gr->Prop:=λb=>al b/\b≠p
    refine⟨λi m A=>∃e rest d,out=e++rest/\kR a fc Y (lD M ci ρ) (H.drop i)=some rest/\A p=some (.lst d)/\gR X.K f A d e/\j8 X.K H1 A/\(∀b,A b=none->f b)/\m=H.length - i/\i<=H.length/\e.length<=i,⟨_,[],out,[],rfl,q,i8,.nil,lO hp,λb S=>?_,rfl,cy _,au _⟩,?_⟩
    ·have z:b≠p:=λw=>by rw[w,i8]at S;cases S
     rw[hA z]at S;exact⟨s2.fresh b S,z⟩
    ·rintro i m A ⟨e,rest,d,e1,e2,e3,e4,V,e6,rfl,e7,e8⟩ _
     have O6:Xt al H1 f A:=λb o n S w=>⟨⟨S,nD w hp⟩,V.at' _ _ n w⟩;obtain⟨w1,w2⟩:=wk f A O6 e6;by_cases hi:i<H.length
     ·right;have ed:H[i]?=some H[i]:=bw hi;obtain⟨go,yl⟩:=w1 i _ ed;refine⟨go,λx r y=>?_⟩;obtain⟨rfl,rx⟩:=yl x r y;rw[b9 hi]at e2;unfold kR at e2;obtain⟨HC,a1,a2⟩:=bp.mp e2;obtain⟨b,a3,a4⟩:=bp.mp a2;refine⟨al,H1,f,lD M ci ρ,H[i],acL s2 O6 V e6 (λ_ z=>z.1) M ci,rx,HC,a1,λσ2 kp k=>⟨⟨?_,λj hj=>kp.2 j λw=>absurd (hl j w)<|by lia⟩,al,H1,f,HC,k,?_⟩⟩;·rw[kp.1,Cz]
      ·rw[MA a3];intro H5 I;cases b with
       |false=>rw[ao aR]at a4⊢;exact⟨H.length - (i+1),by grind,e,rest,d,e1,a4,I.at' _ _ o4 e3,e4.up I,V.trans I,λb S=>e6 b<|I.free S,rfl,hi,by walk_at "l"⟩
       |true=>
        rw[af rfl]at a4⊢;obtain⟨v,a5,a6⟩:=bp.mp a4;obtain⟨vs,a7,a8⟩:=bp.mp a6;cases a8;refine⟨al,H1,f,HC,k.grow I,?_⟩;rw[MA a5];intro H6 s6 u ru;have CY:=s6.at' _ _ o4 (I.at' _ _ o4 e3);have x6:Xt f H6 f (upd H6 p (.lst (d++[u]))):=λc o _ T w=>⟨T,by rw[hA T.2];exact w⟩;refine⟨d,CY,by rw[e4.length];lia,H.length - (i+1),by grind,e++[v],vs,d++[u],by rw[e1];simp,a7,i8,((((e4.up I).up s6).append (.cons ru .nil)).mv x6),?_,λc T=>?_,rfl,hi,by rw[aa];simp;omega⟩
        ·exact⟨λc o n w=>by
          rw[hA<|nD w hp];exact s6.at' _ _ n (I.at' _ _ n<|V.at' _ _ n w),λc w=>by
          by_cases z:c=p;· rw[z];exact hp
          · rw[hA z]at w;exact V.fr c (I.fr c (s6.fr c w)),λt=>(s6.tt (I.tt (V.tt t))).upd (zY CY).1 (zY CY).2⟩
        ·have z:c≠p:=λw=>by rw[w,i8]at T;cases T
         rw[hA z]at T;exact e6 c (I.free<|s6.free T)
     ·left;have ei:i=H.length:=by lia
      rw[bX<|by simp_all]at e2;cases e2;rw[aP]at e1;subst e1;refine⟨w2 i<|by simp_all,?_⟩
      let H':Hp:=λb=>if b=p then none else A b
      have hH:upd H' p (.lst d)=A:=by
       funext b;by_cases z:b=p;·subst z;rw[i8,e3]
       ·rw[hA z];show(if b=p then none else A b)=_;rw[ao z]
      have sm:j8 X.K H1 H':=⟨λb o n w=>by
       show(if b=p then none else A b)=_;rw[ao<|nD w hp];exact V.at' _ _ n w,λb w=>by
       by_cases z:b=p;· rw[z];exact hp
       · have w':(if b=p then none else A b)=none:=w;rw[ao z]at w';exact V.fr b w',λt=>(V.tt t).off (zY e3).1 (zY e3).2 λb z=>by show(if b=p then none else A b)=_;rw[ao z]⟩
      rw[<-hH];refine h1 H' sm p d (by show(if p=p then none else A p)=_;rw[af rfl]) (e4.mv λb o _ S w=>⟨S.1,?_⟩);show(if b=p then none else A b)=_;rw[ao S.2];exact w
  ·rw[ao hz]at h1;exact h1.elim
def Se(u:X.calm=true)(r:DI X E U L fi)(s:∀i h m C,DG (X.comp B Nt [] i h m C) U l a)(q:∀j∈l,j<M)(hf:∀i h m C,sD (X.comp B Nt [] i h m C) N fc)
 (t:∀i h m C,DE (X.comp B Nt [] i h m C) (λ_ _ _=>False) O Y)
 (b:∀y∈B.names,y.2≠.free)(g:B.kind=.function)(d:u5 B)(f:xk B)(o:Nt.length=M)
 (p:autoParam (∀x,foldedSetIterable L X.env x=pure x) aZ5):qD X E (.ListComp O [⟨U,L,N,0⟩] B pos) (kS fi M [] a fc Y):=by
  have e:relabel B X.env=B:=by
   have:B.names.map (λ(n,k)=>if(k==NameKind.free&&X.env.scope.kind==.function&&X.env.kindOf n==some .cell)then(n,NameKind.cell)else(n,k))=B.names:=by
    refine map_eq_self λy v=>?_
    grind
   unfold relabel;rw[this]
  refine JK (cl:=[]) (Nc:=[]) (ci:=[]) u r (by rw[aP];exact s) q (by rw[aP];exact hf) (by rw[aP];exact t) (closureFor_none b) g d f .nil o (λx c z=>nomatch z) (λx z=>?_) (λx z=>nomatch z) p;rw[e]at z;rcases z with z|z;·exact absurd rfl (d _<|bN z)
  ·exact absurd rfl (b _<|bN z)
def cB(b:Scope)(x:gp):gL:=b.names.all (λy=>decide (y.2≠.free)&&decide (y.2≠.cell)&&(decide (y.2≠.local)||decide (b.names.lookup y.1=some .local)))&&decide (b.kind=.function)&&decide (b.names.lookup x=some .local)
def CT(k:DI X E (.Name x p0) L fi)(hf:∀f d g C,sD (X.comp B [x] [] f d g C) N fc)(m:∀f d g C,DE (X.comp B [x] [] f d g C) (λ_ _ _=>False) O Y)
 (h:cB B x=true)(o:X.calm=true)(j:∀x,foldedSetIterable L X.env x=pure x):qD X E (.ListComp O [⟨.Name x p0,L,N,0⟩] B pos) (kS fi 1 [] (gV 0) fc Y):=by
  simp only[cB,aq,ba,aZ,aA]at h;obtain⟨⟨c,p⟩,i⟩:=h;have e:(relabel B X.env).names=B.names:=by unfold relabel;refine map_eq_self λy b=>?_;have:=(c y b).1.1;simp_all
  exact Se o k (λ_ _ _ _=>ur 0 (by simp) rfl (.inl<|by show(relabel B X.env).names.lookup x=_;rw[e];exact i)<|.inr<|by show(relabel B X.env).names.lookup x=_;rw[e];exact i) (by simp) hf m (λy b=>(c y b).1.1) p (λy b=>(c y b).1.2) (λy b z=>(c y b).2.resolve_left λn=>n z) rfl j
def Sa(f:DI X E (.Name x p0) L fi)(hf:∀c b d C,sD (X.comp B [x] [] c b d C) N fc)(g:∀c b d C,DE (X.comp B [x] [] c b d C) (λ_ _ _=>False) O Y)
 (i:cB B x=true)(h:X.calm=true)(e:∀x,foldedSetIterable L X.env x=pure x):DN X E (.ListComp O [⟨.Name x p0,L,N,0⟩] B pos) (kS fi 1 [] (gV 0) fc Y):=(CT f hf g i h e).dn
def yz(x:gp):It:=⟨λi _=>i<x.cps.size,λi H v b=>b=H/\∃c,x.cps[i]?=some c/\v=.str ⟨#[c]⟩,λi _=>x.cps.size<=i⟩
def aeR{w K U}(x t it):Turn P w K U (yz x) [it] it (λi h=>h.IsStrIter it "str_ascii_iterator" x t i) where
 mem:=by simp
 obj:=λi h g b n=>by
  have e:b=it:=by simpa using n
  subst e;obtain⟨o,e,c,d⟩:=g;exact⟨o,e,λv z=>by rw[d]at z;cases z⟩
 keep:=λi h q g k=>let⟨o,T,r⟩:=g;⟨o,k it (by simp) o T,r⟩
 item:=by intro X A u C f i m s Q H E I hf g y;subst A u C;obtain⟨f0,f1,V,J,G,F⟩:=hf it (by simp);have j:i<x.cps.size:=y;refine wpAny_pyNext_ascii_item g (c:=x.cps[i]) (by simp[j]) λq p S=>?_;have Z:Inv X m Q H {s with heap:=q,toks:=s.toks+1}:=I.turned (λb o n e=>(S.2 b n).trans e) f0 f1 J G F;obtain⟨o,e,c,d⟩:=id p;exact⟨_,rfl,uQ (s:={s with heap:=q,toks:=s.toks+1}) e c d (by decide) ⟨.str ⟨#[x.cps[i]]⟩,H,Z,⟨_,rfl⟩,⟨rfl,x.cps[i],by simp[j],rfl⟩,p,λb n=>(hf b n).1⟩⟩
 done:=by intro X A u C f i m s Q H E I hf g y;subst A u C;obtain⟨f0,f1,V,J,G,F⟩:=hf it (by simp);have j:x.cps.size<=i:=y;exact wpAny_pyNext_ascii_end (I.ok.hd f) g (by simp[j]) λq W=>⟨rfl,I.turned (t':=s.toks) (λb o n e=>W b o n e) f0 f1 J G F⟩
 self:=λ_ _ _ _ _ g h=>wpAny_pyIter_striter_ascii g h
def aeW{w K U}(x t it):Turn P w K U (yz x) [it] it (λi h=>h.IsStrIter it "str_iterator" x t i) where
 mem:=by simp
 obj:=λi h g b n=>by
  have e:b=it:=by simpa using n
  subst e;obtain⟨o,e,c,d⟩:=g;exact⟨o,e,λv z=>by rw[d]at z;cases z⟩
 keep:=λi h q g k=>let⟨o,T,r⟩:=g;⟨o,k it (by simp) o T,r⟩
 item:=by intro X A u C f i m s Q H E I hf g y;subst A u C;obtain⟨f0,f1,V,J,G,F⟩:=hf it (by simp);have j:i<x.cps.size:=y;refine wpAny_pyNext_wide_item g (c:=x.cps[i]) (by simp[j]) λq p S=>?_;have Z:Inv X m Q H {s with heap:=q,toks:=s.toks+1}:=I.turned (λb o n e=>(S.2 b n).trans e) f0 f1 J G F;obtain⟨o,e,c,d⟩:=id p;exact⟨_,rfl,uQ (s:={s with heap:=q,toks:=s.toks+1}) e c d (by decide) ⟨.str ⟨#[x.cps[i]]⟩,H,Z,⟨_,rfl⟩,⟨rfl,x.cps[i],by simp[j],rfl⟩,p,λb n=>(hf b n).1⟩⟩
 done:=by intro X A u C f i m s Q H E I hf g y;subst A u C;obtain⟨f0,f1,V,J,G,F⟩:=hf it (by simp);have j:x.cps.size<=i:=y;exact wpAny_pyNext_wide_end (I.ok.hd f) g (by simp[j]) λq W=>⟨rfl,I.turned (t':=s.toks) (λb o n e=>W b o n e) f0 f1 J G F⟩
 self:=λ_ _ _ _ _ g h=>wpAny_pyIter_striter_wide g h
variable{e:hD}{f:hP}
def VY(c:TE):TI:=λb H R=>c b H λx d=>∃z,x=.str z/\R (yz z) d
def aaF{l}(u:PE X l tl):PI X U l (VY tl):=by
 intro d s n H R I h;refine g6 (u d s n H _ I h) λv c i=>?_;obtain⟨x,j,g,p,r⟩:=i;obtain⟨z,e,q⟩:=r;subst e;obtain⟨t,rfl⟩:=p;have m:∀b∈[c.heap.objs.size],pA X d j b:=λb w=>by
  have e:b=c.heap.objs.size:=by simpa using w
  subst e;exact g.uy (au _) (g.hok.fresh<|au _)
 cases k:z.cps.all (· <128)with
 |true=>refine wpAny_pyIter_ascii k ?_;exact⟨c.heap.objs.size,[c.heap.objs.size],_,_,j,rfl,g.kept (t':=c.toks) λb o e=>aj _ e,aeR z t _,⟨_,aJ _ rfl,rfl,rfl⟩,m,q⟩
 |false=>refine wpAny_pyIter_wide k ?_;exact⟨c.heap.objs.size,[c.heap.objs.size],_,_,j,rfl,g.kept (t':=c.toks) λb o e=>aj _ e,aeW z t _,⟨_,aJ _ rfl,rfl,rfl⟩,m,q⟩
def signs(z:gp):gi D:=z.cps.toList.map λc=>.str ⟨#[c]⟩
def aff{K}:Wk K al H (yz z) (signs z):=by
 intro j n x fr;refine⟨λi d h=>?_,λi h=>?_⟩
 ·unfold signs at h;rw[aN,fR]at h;cases q:z.cps[i]? with
  |none=>simp_all
  |some c=>rw[q]at h;cases h;refine⟨(bV.mp q).1,λy k w=>⟨w.1,?_⟩⟩;obtain⟨m,b,g⟩:=w.2;rw[q]at b;cases b;subst g;exact .str _
 ·unfold signs at h;show z.cps.size<=i;simpa using h
def mi(d:D):R (gi D):=match d with
 |.lst ds=>.ok ds
 |.tup ds=>.ok ds
 |.str z=>.ok (signs z)
 |_=>.bad
def RY(u:DE X E e f):DI X E U e (λj=>(f j).bind mi):=by
 obtain⟨t,p,r⟩:=u;refine⟨_,MZ (aaD p)<|MZ (aaG p)<|aaF p,λ{_ _ _ _ _ j _} s h=>?_⟩
 (try dsimp only at h)
 cases q:f j with
 |bad=>rw[q]at h;exact h.elim
 |ex c x o=>rw[q]at h;exact .inl (r s<|by rw[q];exact h)
 |ok d=>
  rw[q]at h;cases d with
  |lst o=>left;refine r s ?_;rw[q];intro i g v b;obtain⟨a,k,n,m,w⟩:=b.rQ;subst n;exact⟨a,rfl,⟨k,m⟩,h i g _<|GZ b⟩
  |tup o=>right;left;refine r s ?_;rw[q];intro i g v b;obtain⟨a,k,n,m,w⟩:=b.sk;subst n;exact⟨a,rfl,⟨k,m⟩,h i g _<|afg b⟩
  |str z=>right;right;refine r s ?_;rw[q];intro i g v b;cases b;exact⟨z,rfl,h i g _ aff⟩
  |_=>exact(h:False).elim
def tyName:D->gH String
 |.non=>some "NoneType"
 |.bl _=>some "bool"
 |.int _=>some "int"
 |.str _=>some "str"
 |.lst _=>some "list"
 |.tup _=>some "tuple"
 |_=>none
def pL:gi String:=["NoneType","bool","int","str","list","tuple"]
def Ez(K):∀T∈pL,∀n∈pL,W.kitOne K (.type T) (.type n)=some (T==n||(T=="bool"&&n=="int")):=by intro T hT n b;simp only[pL,aT,List.not_mem_nil,or_false]at hT b;rcases hT with rfl|rfl|rfl|rfl|rfl|rfl<;>rcases b with rfl|rfl|rfl|rfl|rfl|rfl<;>first|rfl|kernel_rfl
noncomputable def isD:gw
 |[d,.ty n]=>match tyName d with
  |some T=>if pL.contains n then .ok (.bl<|T==n||(T=="bool"&&n=="int"))else .bad
  |none=>.bad
 |_=>.bad
def acg(X:Cx):gi V->Hp->VK->Prop:=λd H Q=>∃x n T,d=[x,.ty n]/\pL.contains T=true/\pL.contains n=true/\
 ((x=.non/\T="NoneType")\/(∃b,x=.bl b/\T="bool")\/(∃i,x=.int i/\T="int")\/(∃z,x=.str z/\T="str")\/(∃a c,x=.ref a/\kl X.K H a c/\T="list")\/(∃a c,x=.ref a/\mf X.K H a c/\T="tuple"))/\Q (.bl<|T==n||(T=="bool"&&n=="int")) H
def QI:lu X (.builtin "isinstance") (acg X):=by
 intro g s y H K P Q I r h;obtain⟨x,n,T,rfl,G,F,J,q⟩:=h;obtain⟨u,c,rfl,d,C⟩:=vals2 r;cases C;have e:=Ez X.K T (by simpa using G) n (by simpa using F);have fin:∀tk,EP X g y Q (.bool<|T==n||(T=="bool"&&n=="int")) {s with toks:=tk}:=λtk=>⟨.bl _,H,I.tok tk,rfl,q⟩;rcases J with⟨rfl,rfl⟩|⟨b,rfl,rfl⟩|⟨i,rfl,rfl⟩|⟨z,rfl,rfl⟩|⟨a,A,rfl,p,rfl⟩|⟨a,A,rfl,p,rfl⟩;·cases d;exact eP W.kitx_none I.iN True.intro e (λz=>nomatch z) fin
 ·cases d;exact eP W.kitx_bool I.iN True.intro e (λz=>nomatch z) fin
 ·obtain⟨t,rfl⟩:=d;exact eP W.kitx_int I.iN True.intro e (λz=>nomatch z) fin
 ·obtain⟨t,rfl⟩:=d;exact eP W.kitx_str I.iN True.intro e (λz=>nomatch z) fin
 ·cases d;obtain⟨m,_,j,_⟩:=I.list p;obtain⟨o,k,w,v,_⟩:=j;exact eP W.kitx_list I.iN ⟨o,w,v⟩ e (λz=>nomatch z) fin
 ·cases d;obtain⟨m,_,j,_⟩:=I.tuple p;obtain⟨o,w,v,_⟩:=j;exact eP W.kitx_tuple I.iN ⟨o,w,v⟩ e (λz=>nomatch z) fin
def QN:og X E (.builtin "isinstance") isD:=by
 refine⟨_,QI,λ{_ H _ _ _} fr r h=>?_⟩;unfold isD at h;split at h
 ·rename_i d n;obtain⟨v,u,rfl,q,i⟩:=gR.two r;cases i;cases e:tyName d with
  |none=>rw[e]at h;exact h.elim
  |some T=>
   rw[e]at h;dsimp only at h;split at h
   ·rename_i g;have c:=h H (.refl H) _ (.bl _);cases q with
    |non=>cases e;exact⟨_,n,_,rfl,rfl,g,.inl ⟨rfl,rfl⟩,c⟩
    |bl b=>cases e;exact⟨_,n,_,rfl,rfl,g,.inr<|.inl ⟨b,rfl,rfl⟩,c⟩
    |int b=>cases e;exact⟨_,n,_,rfl,rfl,g,.inr<|.inr<|.inl ⟨b,rfl,rfl⟩,c⟩
    |str b=>cases e;exact⟨_,n,_,rfl,rfl,g,.inr<|.inr<|.inr<|.inl ⟨b,rfl,rfl⟩,c⟩
    |lst p _=>cases e;exact⟨_,n,_,rfl,rfl,g,.inr<|.inr<|.inr<|.inr<|.inl ⟨_,_,rfl,p.elim (λz=>.inl z.2) KL.sq,rfl⟩,c⟩
    |tup p _=>cases e;exact⟨_,n,_,rfl,rfl,g,.inr<|.inr<|.inr<|.inr<|.inr ⟨_,_,rfl,p.elim (λz=>.inl<|.inl z.2) .inr,rfl⟩,c⟩
    |_=>cases e
   ·exact h.elim
 ·exact h.elim
def Cq:bootBuiltins "isinstance"=some (.builtin "isinstance"):=by decide+kernel
def wF:bootBuiltins "len"=some (.builtin "len"):=by decide+kernel
def Ci:bootBuiltins "abs"=some (.builtin "abs"):=by decide+kernel
def yZ:bootBuiltins "max"=some (.builtin "max"):=by decide+kernel
def Cj:bootBuiltins "all"=some (.builtin "all"):=by decide+kernel
def Cp:bootBuiltins "int"=some (.type "int"):=by decide+kernel
def Co:bootBuiltins "bool"=some (.type "bool"):=by decide+kernel
def Cs:bootBuiltins "str"=some (.type "str"):=by decide+kernel
def Ct:bootBuiltins "tuple"=some (.type "tuple"):=by decide+kernel
def Cr:bootBuiltins "list"=some (.type "list"):=by decide+kernel
variable{x:gp}
inductive mT(mg:iY)(x:Str):D->Prop
 |int {i:Int} {t:Tok}:mg x=some (.int i t)->mT mg x (.int i)
 |str {z:Str} {t:Tok}:mg x=some (.str z t)->mT mg x (.str z)
def RB{d}(c:Gl X x)(h:mT X.mg x d)(b:autoParam (jl x) aZ1):DE X E (.Name x pos) (dC d):=by
 cases h with
 |@int i t h=>exact CP (v:=.int i) c h ⟨t,rfl⟩ (λ_ _=>.int _) b
 |@str z t h=>exact CP (v:=.str z) c h ⟨t,rfl⟩ (λ_ _=>.str _) b
def so(C:gr)(b:gp):D->R D
 |.exc c ns ds=>if c=C then(match(ns.zip ds).lookup b with
  |some d=>.ok d
  |none=>.bad)else .bad
 |_=>.bad
theorem gR.look{K:gF}{k:ji}{H:Hp}{c:gp}{d:D}:∀{g:iH} {j:gi V} {i:ja},gR K k H j i->(g.zip i).lookup c=some d->∃v,(g.zip j).lookup c=some v/\Rep K k H v d
 |[],_,_,_,h=>by simp at h
 |_::_,_,[],_,h=>by simp at h
 |n::g,_,e::i,r,h=>by
  cases r with
  |cons a b=>
   rw[eU,cJ]at h⊢;cases q:c==n with
   |true=>rw[q]at h;cases h;exact⟨_,rfl,a⟩
   |false=>rw[q]at h;exact gR.look b h
def RO{e:hD}{f:hP}{b:gp}{C A:gr}(c:om X.K C A b)(w:DE X E e f)(y:attributeBase e b X.env (eval e X.env)=eval e X.env):DE X E (.Attribute e b pos) (d1 (so C b) f):=by
 obtain⟨t,p,r⟩:=w;refine⟨_,aan c p y,λs h=>r s<|Aft.mono (Aft.split h) λ{d j} J g v k=>?_⟩;unfold so at g;split at g
 ·rename_i I u H;by_cases z:I=C
  ·rw[af z]at g;subst z;cases q:(u.zip H).lookup b with
   |none=>rw[q]at g;exact g.elim
   |some d=>
    rw[q]at g;cases k with
    |exc o i K n m=>obtain⟨v,G,F⟩:=gR.look m q;exact⟨_,_,_,v,rfl,i,n,G,g j (.refl j) _ F⟩
    |zi o i=>simp at q
  ·rw[ao z]at g;exact g.elim
 ·exact g.elim
variable{P:iQ}{w:iK}{K:gF}{mg:iY}{base:gU}
def YH{cn:gp}{d:Stmt}{m:gr}{n:kP}{C:gr}{b:gp}{k:Nat}{body:gi Stmt}(c:om K C m b)(F:mD K "__init__" cn d m n)(S:pz ["self",b] ["self",b]<|iz d){y u r p:Pos}
    (I:kx d=[.Assign [.Attribute (.Name "self" y) b u] (.Name b r) p])(Z:(iz d).names.lookup ("self":gp)=some .local)(V:(iz d).names.lookup b=some .local)(G:(b==("__debug__":gp))=false)(j:(b==("__classdict__":gp))=false):
    j7 P w K mg base pY (k+1) m n ["self",b] (xY C b):=by
 refine F.ok S (λo H Q E h=>?_) (λcdv A g s H o Q E hr h=>?_);·obtain⟨e,t,v,rfl,_⟩:=h;rfl
 obtain⟨e,t,v,rfl,z,q⟩:=h;rw[I];refine⟨_,Ap<|M4 c (pN (i:=0) rfl (.inl Z) (by decide)<|by decide) (pN (i:=1) rfl (.inl V) G j) (by rfl)<|by rfl,?_⟩;exact⟨v,rfl,.ref e,rfl,e,t,rfl,z,λdx T J=>q dx T J⟩
end P2
namespace Fx
open PySem
variable{c:iQ}{w:iK}{A:jd}{E:iR}{h:gU}{g:lT GenState}{d:Drawn}{t:Nat}{f:OsState}
variable{nm q:gp}{C N:gr}{bs e z:jP}{b:gL}{j:iH}{sub:jP}{v:gL}{i:gH gL}{s:kD}{r p m k3 l:wx}{a:String}
def Q3{o}{R:Result->gQ->Prop}(hC:h.get? C=some (excClassObj nm q C N bs e b j sub v i s r p m k3 l a))(k:e.contains (.type "object")=true)
 (y:h.get? x=some o)(B:o.cls=.ref C)(D:R (.ok<|.ret<|.ref C) ⟨h,g,d,t,f⟩):
   codeAny (model c w) A (.call (.builtin "getset_descriptor.__get__") ⟨[.builtin "object.__class__",.ref x,.ref C],[]⟩) R ⟨h,g,d,t,f⟩:=by
  have u:(⟨h,g,d,t,f⟩:gQ).TypeIs (.builtin "object.__class__") "getset_descriptor":=du;have ow:".".intercalate ("object.__class__".cutAt '.').dropLast="object":=by decide+kernel
  have n:(Value.ref C::e).contains (.type<|".".intercalate ("object.__class__".cutAt '.').dropLast)=true:=by rw[ow,cq,k,dG]
  refine cz PySem.F.slot_gs_get.plain PySem.F.entry_gs_get (PySem.F.slot_gs_get.check _ _ _ _ _ _ _ _ u (PySem.F.args_gs_get _ _ _) ?_);repeat(any_goals(first|assumption|(with_reducible refine aG y ?_;rw[B])|(with_reducible refine bO hC ?_;rw[n])|wp_step))
  refine⟨dX _<|by decide+kernel,fP PySem.F.entry_object_class ?_⟩;repeat(any_goals(first|assumption|(with_reducible refine aG y ?_;rw[B])|wp_step))
def Q2{o}{Q:Fin->gQ->Prop}(hC:h.get? C=some (excClassObj nm q C N bs e b j sub v i s r p m k3 l a))(k:e.contains (.type "object")=true)
 (y:mh h C "__class__"<|some<|.builtin "object.__class__")(n:h.get? x=some o)(u:o.cls=.ref C)(D:Q (.done<|.ret<|.ref C) ⟨h,g,d,t,f⟩):
   wpAny (model c w) A (Builtin.«object.__getattribute__» ⟨[.ref x,.str "__class__" tk],[]⟩) Q E ⟨h,g,d,t,f⟩:=by
  have B:(⟨h,g,d,t,f⟩:gQ).TypeIs (.builtin "object.__class__") "getset_descriptor":=du;have H:=du;have G:=PySem.F.slot_gs_get.lookup;have F:=PySem.F.slot_gs_set.lookup;repeat(any_goals(first|assumption|(with_reducible refine aG n ?_;rw[u])|with_reducible refine y _ _ _ _ _ _ _ _ ?_|wp_step))
  refine Q3 hC k n u ?_;repeat(any_goals(first|assumption|wp_step))
def QX{o}{Q:qH}(hC:h.get? C=some (excClassObj nm q C N bs e b j sub v i s r p m k3 l a))
 (n:e.contains (.type "BaseException")=true)(y:h.get? x=some o)(F:o.cls=.ref C)(B:Q () ⟨h,g,d,t,f⟩):wpAny M A (checkBuiltinCall "BaseException.__getattribute__" ⟨[.ref x,nv],[]⟩) Q E ⟨h,g,d,t,f⟩:=by
  have D:builtinKind "BaseException.__getattribute__"=some .slot:=by decide+kernel
  have k:splitId "BaseException.__getattribute__"=some ("BaseException","__getattribute__"):=by decide+kernel
  have u:(Value.ref C::e).contains (.type "BaseException")=true:=by rw[cq,n,dG]
  have G:=fV (.ref x) nv;simp only[checkBuiltinCall,D,k];refine ah ?_;unfold isInstance;repeat(first|(with_reducible refine aG y ?_;rw[F])|(with_reducible refine bO hC ?_;rw[u])|wp_step)
  exact B
def Q0{o}{Q:iR}(hC:h.get? C=some (excClassObj nm q C N bs e b j sub v i s r p m k3 l a))(G:e.contains (.type "BaseException")=true)(n:e.contains (.type "object")=true)
 (F:mh h C "__getattribute__"<|some<|.builtin "BaseException.__getattribute__")(D:mh h C "__getattr__" none)(B:mh h C "__class__"<|some<|.builtin "object.__class__")(k:h.get? x=some o)(u:o.cls=.ref C)(H:Q (.ref C) ⟨h,g,d,t,f⟩):
   wpAny (model c w) A (getAttrBy (.ref x) (.str "__class__" tk) false) Q E ⟨h,g,d,t,f⟩:=by
  have y:=fC;have I:=y.ga.bind (.ref x);have z2:(Value.builtin "BaseException.__getattribute__"==Value.builtin "object.__getattribute__")=false:=by decide+kernel
  have z1:(onTheHeap (Value.ref C)&&Value.builtin "BaseException.__getattribute__"==Value.builtin "object.__getattribute__")=false:=by rw[z2];rfl
  repeat(any_goals(first|assumption|(with_reducible refine aG k ?_;rw[u])|with_reducible refine F _ _ _ _ _ _ _ _ ?_|with_reducible refine D _ _ _ _ _ _ _ _ ?_|wp_step))
  refine cz y.ga.plain fS (QX hC G k u<|Q2 hC n B k u ?_);repeat(any_goals(first|assumption|wp_step))
def QZ{o}{Q:gH gE->gQ->Prop}(hC:h.get? C=some (excClassObj nm q C N bs e b j sub v i s r p m k3 l a))(F:e.contains (.type "BaseException")=true)(k:e.contains (.type "object")=true)
 (y:mh h C "__getattribute__"<|some<|.builtin "BaseException.__getattribute__")(u:mh h C "__getattr__" none)(n:mh h C "__class__"<|some<|.builtin "object.__class__")(B:h.get? x=some o)(D:o.cls=.ref C)(G:Q (some<|.ref C) ⟨h,g,d,t+1,f⟩):
   wpAny (model c w) A (getAttr? (.ref x) "__class__") Q E ⟨h,g,d,t,f⟩:=by
  unfold getAttr? getAttrBy?;repeat(any_goals(first|assumption|with_reducible apply Q0 hC F k y u n B D|wp_step))
end Fx
namespace L2
open PySem PySem.Spec PyProof.Rows
structure qc(K:gF)(C:gr):Prop where
 ob:∀h:gU,K.In h->∃nm q N bs bm hdct sn sub ab col dd k0 k1 k2 k3 k5 newId,h.get? C=some (excClassObj nm q C N bs bm hdct sn sub ab col dd k0 k1 k2 k3 k5 newId)/\bm.contains (.type "BaseException")=true/\bm.contains (.type "object")=true
 ga:W.findIn K (.ref C) "__getattribute__"=some (some<|.builtin "BaseException.__getattribute__")
 gn:W.findIn K (.ref C) "__getattr__"=some none
 cl:W.findIn K (.ref C) "__class__"=some (some<|.builtin "object.__class__")
def om.y{K:gF}{C b:gr}{a:gp}(c:om K C b a)(cl:W.findIn K (.ref C) "__class__"=some (some<|.builtin "object.__class__")):qc K C:=by refine⟨λh k=>?_,c.ga,c.gn,cl⟩;obtain⟨n,N,nm,f,bs,e,sub,o,d,m,l,j,i,k3,g,all⟩:=wO c.cls;obtain⟨hC,T,_⟩:=all _ k;exact⟨_,_,_,_,_,_,_,_,_,_,_,_,_,_,_,_,_,hC,T.hasType<|by rfl,T.hasType<|by rfl⟩
structure t8(K:gF)(C:gr):Prop where
 cls:W.excIn K C [.type "ValueError",.type "Exception",.type "BaseException",.type "object"] "ValueError.__new__"=true
 kp:W.keepIn K (.ref C)=true
 ga:W.findIn K (.ref C) "__getattribute__"=some (some<|.builtin "BaseException.__getattribute__")
 gn:W.findIn K (.ref C) "__getattr__"=some none
 cl:W.findIn K (.ref C) "__class__"=some (some<|.builtin "object.__class__")
def t8.y{K:gF}{C:gr}(c:t8 K C):qc K C:=by refine⟨λh k=>?_,c.ga,c.gn,c.cl⟩;obtain⟨p,r,nm,g,bs,a,f,sub,q,e,o,n,m,l,k3,j,i,hC,hN,d,b⟩:=J3 k c.cls;exact⟨_,_,_,_,_,_,_,_,_,_,_,_,_,_,_,_,_,hC,b.hasType<|by rfl,b.hasType<|by rfl⟩
def WE{K:gF}{x C:gr}(c:qc K C):W.KitX K (.ref x) (.ref C) (λh=>∃o,h.get? x=some o/\o.cls=.ref C) where
 ty:=λM h k p=>by obtain⟨o,j,i⟩:=p;exact i▸(W.Looks.ld j).andThen .now
 it:=λM h k p=>by obtain⟨nm,q,N,bs,F,a,m,sub,G,b,S,D,B,y,k3,v,u,hC,_⟩:=c.ob h k;intro Z X Y U J I;unfold isType loadHead;exact ah (wpAny_loadPart (J _ _ hC)<|aE I)
 ne:=λh H S L n T k f=>by obtain⟨nm,q,N,bs,F,a,m,sub,G,b,l,D,B,y,k3,v,u,hC,_⟩:=c.ob h k;refine cT.mpr λz=>?_;have e:C=H:=Value.ref.inj (bK.mp z);subst e;have z:=aI Obj.cls (Option.some.inj<|hC.symm.trans f);have z2:Value.type "type"=Value.type "tuple":=z;exact absurd (Value.type.inj z2) (by decide)
 ca:=λ{r w A E Q s} k p O=>by obtain⟨o,j,i⟩:=p;obtain⟨nm,q,N,bs,F,a,m,sub,G,b,l,D,B,y,k3,v,u,hC,R,P⟩:=c.ob _ k;obtain⟨h,g,d,t,V⟩:=s;exact Fx.QZ hC R P (si k c.ga) (si k c.gn) (si k c.cl) j i O
variable{X:Cx}
def QL:lu X (.builtin "isinstance") (λg H Q=>∃a c d f u b,g=[.ref a,f]/\H a=some (qg a c d)/\qc X.K c/\(∀z,RelV f z->z=u)/\W.kitOne X.K (.ref c) u=some b/\Q (.bl b) H):=by intro i s v H g x Q I r h;obtain⟨a,c,d,f,u,b,rfl,o,j,un,e,q⟩:=h;obtain⟨y,k,rfl,m,l⟩:=vals2 r;cases un k l;cases m;obtain⟨⟨n,w,t,p,B,A⟩,_,_⟩:=I.hok a _ o;exact eP (WE j) I.iN ⟨n,t,p⟩ e (λz=>nomatch z) λtk=>⟨.bl b,H,I.tok tk,rfl,q⟩
def X0{K:PySem.W.Frag}{W:gr}(t:qc K W){c:gr}(a:PySem.W.kitOne K (.ref c) (.ref W)=some true)(h:gU)(g:lT GenState)(d:Drawn)(tk:Nat)(i:OsState)(e:gr)(j:kQ)(M:Model)(A:jd)(E:iR)(Q:t6)
    (k:K.In h)(n:h.get? e=some j)(m:j.cls=.ref c)(l:Q true ⟨h,g,d,tk,i⟩):wpAny M A (excMatches (.ref e)<|.ref W) Q E ⟨h,g,d,tk,i⟩:=by
 obtain⟨nm,q,N,bs,u,o,v,sub,F,s,r,C,B,y,k3,x,w,hC,p,D⟩:=t.ob _ k;unfold PySem.W.kitOne at a;split at a
 ·rename_i z;have:c=W:=Value.ref.inj (bK.mp z);subst this;exact wpAny_excMatches_sub_self hC n m p l
 ·obtain⟨_,_,L⟩:=PySem.W.kit_cls (M:=M) k a;have b:(Value.ref W::u).contains (.type "BaseException")=true:=by rw[cq,p,dG]
  have f:=tc_notTuple;unfold excMatches;repeat(first|(with_reducible refine aG n ?_;rw[m])|with_reducible refine aG hC ?_|(with_reducible refine bO hC ?_;rw[b])|wp_step)
  refine L.at ?_;repeat wp_step
  exact l
end L2
namespace P2
open PySem L2 PySem.Spec
open PyProof.Rows hiding St
section
variable{X:Cx}{E:XK}{x:gp}{pos:Pos}
def QS(h:lu X f r)(g:lu X f r'):lu X f (λb H Q=>r b H Q\/r' b H Q):=
 λa s c H b d Q I e q=>q.elim (h a s c H b d Q I e) (g a s c H b d Q I e)
def Jq:D->gH gE
 |.ref C=>some (.ref C)
 |.ty T=>some (.type T)
 |_=>none
abbrev _root_.yK:=gr->gE->gH gL
noncomputable def jQ(q:yK)(a:ja):R D:=match a with
 |[.exc c _ _,d]=>(match(Jq d).bind (q c)with
  |some b=>.ok (.bl b)
  |none=>.bad)
 |a=>isD a
def wa(K:gF)(q:yK):Prop:=∀c u b,q c u=some b->qc K c/\W.kitOne K (.ref c) u=some b
def QM(n:wa X.K q):og X E (.builtin "isinstance") (jQ q):=by
 obtain⟨t,o,d0⟩:=QN (X:=X) (E:=E);refine⟨_,QS QL o,λ{J H s I Q} fr r h=>?_⟩;unfold jQ at h;split at h
 ·rename_i c F G d;obtain⟨v,u,rfl,p,e⟩:=gR.two r;left;cases z:(Jq d).bind (q c)with
  |none=>rw[z]at h;exact h.elim
  |some b=>
   rw[z]at h;have m:=h H (.refl H) _ (.bl _);obtain⟨w,z1,z2⟩:=bp.mp z;obtain⟨j,l⟩:=n _ _ _ z2;have f:∃a g,v=.ref a/\H a=some (qg a c g):=by
    cases p with
    |exc k e D B A=>exact⟨_,_,rfl,e⟩
    |zi k e=>exact⟨_,_,rfl,e⟩
   obtain⟨a,g,rfl,f⟩:=f;refine⟨a,c,g,u,w,b,rfl,f,j,λy i=>?_,l,m⟩;cases e with
   |ref C=>cases z1;exact i
   |ty T=>cases z1;exact i
   |_=>cases z1
 ·exact .inr (d0 fr r h)
mutual
def vm:D->gH PyData
 |.non=>some .none
 |.bl b=>some (.bool b)
 |.int i=>some (.int i)
 |.str z=>some (.str z)
 |.tup ds=>(n4 ds).map .tuple
 |.lst ds=>(n4 ds).map .list
 |_=>none
def n4:gi D->gH (gi PyData)
 |[]=>some []
 |d::a=>(vm d).bind λp=>(n4 a).map (p:: ·)
end
def FO{s}(I:Inv X pins σ H s){v d u p}(r:Rep X.K al H v d):RelV v u->vm d=some p->∃f,Reads s.heap u p f:=by
 revert u p;refine Rep.rec (motive_1:=λv d _=>∀{u p},RelV v u->vm d=some p->∃f,Reads s.heap u p f) (motive_2:=λg j _=>∀{k h},Vals g k->n4 j=some h->∃f,ReadsAll s.heap k h f) ?_ ?_ ?_ ?_ ?_ ?_ ?_ ?_ ?_ ?_ ?_ ?_ r;·intro u p r e;cases r;cases e;exact⟨_,.none⟩
 ·intro b u p r e;cases r;cases e;exact⟨_,.bool _⟩
 ·intro b u p r e;obtain⟨t,rfl⟩:=r;cases e;exact⟨_,.int _ _⟩
 ·intro b u p r e;obtain⟨t,rfl⟩:=r;cases e;exact⟨_,.str _ _⟩
 ·intro b u p r e;cases e
 ·intro b u p r e;cases e
 ·intro a g j z _ A u p r e;cases r;have D:(n4 _).map PyData.tuple=some _:=e;obtain⟨h,i,rfl⟩:=aL.mp D;have l:mf X.K H _ g:=z.elim (λz=>.inl<|.inl z.2) .inr;obtain⟨q,m,⟨o,C,B,n,E⟩,_⟩:=I.tuple l;obtain⟨f,w⟩:=A m i;exact⟨f,reads_tuple_at C B E<|by simpa using w⟩
 ·intro a g j z _ A u p r e;cases r;have D:(n4 _).map PyData.list=some _:=e;obtain⟨h,i,rfl⟩:=aL.mp D;have l:kl X.K H _ g:=z.elim (λz=>.inl z.2) KL.sq;obtain⟨q,m,⟨o,n,C,B,E,L⟩,_⟩:=I.list l;obtain⟨f,w⟩:=A m i;exact⟨_,reads_list_at C B L<|by simpa using w⟩
 ·intro a c Q P g j _ _ _ _ _ _ u p r e;cases e
 ·intro a c _ _ u p r e;cases e
 ·intro k h r e;cases r;cases e;exact⟨_,.nil⟩
 ·intro v d g j _ _ y x k h r e;cases r with
  |cons K J=>obtain⟨O,i,N⟩:=bp.mp e;obtain⟨h,M,rfl⟩:=aL.mp N;obtain⟨f,G⟩:=y K i;obtain⟨bs,F⟩:=x J M;exact⟨_,.cons G F⟩
end
def l0(q:yK)(W c:gr):gL:=q c (.ref W)==some true
def Mj{K:gF}{q:yK}{W:gr}(n:wa K q)(f:qc K W)(h:gU)(g:lT GenState)(d:Drawn)(tk:Nat)(a:OsState)(e c:gr)(b:kQ)(M:Model)(A:jd)(E:iR)(Q:t6)
    (k:K.In h)(m:l0 q W c=true)(l:h.get? e=some b)(j:b.cls=.ref c)(i:Q true ⟨h,g,d,tk,a⟩):wpAny M A (excMatches (.ref e)<|.ref W) Q E ⟨h,g,d,tk,a⟩:=
 X0 f (n _ _ _<|bK.mp m).2 h g d tk a e b M A E Q k l j i
open PySem.Builtin PySem.Builtin.Str
open PyProof.Rows hiding St
variable{prog:iQ}{w:iK}{A:jd}{E:iR}{s:gQ}{x y:PySem.Str}{t u:Tok}{Q:iR}
def adx(f:(y.length==0)=false)(g:x.length+2<=sizeLine)
 (d:∀(l:gi<|PySem.Str×Tok) k,l.map (·.1)=Txt.split x y->Q (.ref s.heap.objs.size) {s with heap:=s.heap.push {cls:=.type "list",data:=.seq (strValues l).toArray},toks:=k}):
   wpAny (model prog w) A (call (.builtin "str.split") [.str x t,.str y u]) Q E s:=by
  have c:x.length<=sizeLine:=by walk_at "l"
  cases a:(decide (x.length<y.length)||decide (strKind x<strKind y))
  ·cases hf:(occurrences x y 0 x.length<|x.length+1).isEmpty
   ·have b:(partsBetween x (occurrences x y 0 x.length<|x.length+1) y.length).length<=sizeLine:=by
     have e:Txt.split x y=partsBetween x (occurrences x y 0 x.length<|x.length+1) y.length:=(ao<|cV a).trans (ao<|cV hf);rw[<-e];exact av (split_le x y) g
    refine fG d7 (et _ _ _) fm (eV _ _) (meets_str_split_sep x y t u a f hf c b) ?_;show wants Q E _ {s with toks:=_,heap:=s.heap.push {cls:=.type "list",data:=.seq (strsFrom s.toks<|partsBetween x (occurrences x y 0 x.length<|x.length+1) y.length).toArray}};rw[strsFrom_eq];exact d (numbered s.toks _) _ ((numbered_texts _ _).trans ((ao<|cV a).trans (ao<|cV hf)).symm)
   ·exact fG d7 (et _ _ _) fm (eV _ _) (meets_str_split_not_found x y t u a f hf)
     (d [(x,t)] _ ((ao<|cV a).trans (af hf)).symm)
  ·exact fG d7 (et _ _ _) fm (eV _ _) (meets_str_split_cannot_occur x y t u a)
    (d [(x,t)] _ (af a).symm)
theorem OX:∀(l:gi<|PySem.Str×Tok),Vals ((l.map (·.1)).map V.str) (strValues l)
 |[]=>.nil
 |(a,t)::l=>.cons ⟨t,rfl⟩ (OX l)
variable{X:Cx}{E:XK}
def XU:sI X "str.split" (λx a H Q=>∃z y,x=.str z/\a=[.str y]/\(y.length==0)=false/\z.length+2<=sizeLine/\∀p,H p=none->Q (.ref p) (upd H p<|.lst<|(Txt.split z y).map V.str)):=by intro b s i H x a v j Q I f rs h;obtain⟨z,y,rfl,rfl,g,c,q⟩:=h;obtain⟨t,rfl⟩:=f;obtain⟨u,rfl,t',rfl⟩:=vals1 rs;refine adx g c λl k e=>?_;have d:=OX l;rw[e]at d;exact⟨.ref _,_,I.LR (t':=k) d (by rw[ae];exact av (split_le z y) c),rfl,q _ I.fresh⟩
noncomputable def oH:D->gw
 |.str z,[.str y]=>if(y.length==0)=false/\z.length+2<=sizeLine then .ok (.lst<|(Txt.split z y).map D.str)else .bad
 |_,_=>.bad
theorem NO{K:gF}{a:ji}{H:Hp}:∀l:gi PySem.Str,gR K a H (l.map V.str) (l.map D.str)
 |[]=>.nil
 |_::l=>.cons (.str _) (NO l)
def XW:wj X E "str" "str.split" oH:=by
 refine⟨_,XU,λfr b rs h=>?_⟩;unfold oH at h;split at h
 ·cases b;obtain⟨v,rfl,q⟩:=gR.one rs;cases q;split at h
  ·rename_i z;exact⟨_,_,rfl,rfl,z.1,z.2,λp a=>h _ (lO a) _<|gR.xn (NO _) a<|fr p a⟩
  ·exact h.elim
 ·exact h.elim
def Aj(i j:Int):gL:=(decide (-18446744073709551616<i)&&decide (i<18446744073709551616))||(decide (-18446744073709551616<j)&&decide (j<18446744073709551616))
end P2
namespace P2
open PySem L2 PySem.Spec
open PyProof.Rows hiding St
def vj{g:pw}{P:iQ}{w:iK}{K:gF}{h:iY}{d:gU}{N:iH}{c:gp}{b:Scope}{f:gr}{i:gE}{A:jd}{a:kH}{s:gQ}{H:Hp}{E:XK}:
    PassesOwn (model (iL g P w K h d N c b f i A a s H E).prog (iL g P w K h d N c b f i A a s H E).w) (iL g P w K h d N c b f i A a s H E).A (iL g P w K h d N c b f i A a s H E).env (iL g P w K h d N c b f i A a s H E).xe:=
 PassesOwn.leaving (Q₁:=λe j=>g a H s E e j)
section
variable{X:Cx}{E:XK}{e a b c m:hD}{f C B A:hP}{pos:Pos}
def Sm{u}(K:DE X E e f)(J:DG X m l u)(I:autoParam (swapsWithSole [m] e pos.line X.env=pure false) aZ0)(H:autoParam (swappedStores [m] e X.env=pure none) aZ0)
 (i:autoParam ((assignEach [m] X.env).map (·.2)=[assign m X.env]) aZ0):DS X E (.Assign [m] e pos) (FX f u):=by
  obtain⟨t,p,r⟩:=K;obtain⟨g,G,F⟩:=J;refine⟨_,aaY p G I H i,λ{_ _ L _ _ n _} s h=>r s<|Aft.mono (jR.qp h s) λ{d M} o i v D=>?_⟩;cases q:u d n with
  |none=>rw[q]at i;exact i.elim
  |some k=>rw[q]at i;exact F (s.grow o) D ⟨k,q,λj _ z=>i L M j .refl z⟩
def acW(i j:Nat)(fs:kE):g0:=λd=>toS (fs d) λg=>match g with
 |[d1,d2]=>if i<d.length/\j<d.length then .nx ((d.set i<|.sh d1).set j (.sh d2))else .bad
 |_=>.bad
noncomputable def vy:D->D->gH gL
 |.non,.non=>some true
 |.bl a,.bl b=>some (a==b)
 |.bl _,.non=>some false
 |.int _,.non=>some false
 |.str _,.non=>some false
 |.tup _,.non=>some false
 |.lst _,.non=>some false
 |_,_=>none
def oW(x y:D):R D:=match vy x y with
 |some b=>.ok (.bl b)
 |none=>.bad
def oA(x y:D):R D:=match vy x y with
 |some b=>.ok (.bl<|!b)
 |none=>.bad
def N5{K:gF}{g:ji}{H:Hp}{x y:V}{o n:D}{b:gL}(k:Rep K g H x o)(h:Rep K g H y n)(q:vy o n=some b):(y=.non/\decide (x=.non)=b)\/∃i j,x=.bl i/\y=.bl j/\(i==j)=b:=by
 have l:∀{y},Rep K g H y .non->y=.non:=λr=>by cases r;rfl
 have p:∀{x i},Rep K g H x (.bl i)->x=.bl i:=λr=>by cases r;rfl
 have v:∀{d},d≠.non->Rep K g H x d->x≠.non:=λz r e=>by subst e;cases r;exact z rfl
 unfold vy at q;split at q<;>first|(cases q;done)|skip
 ·cases q;exact .inl ⟨l h,aB<|l k⟩
 ·cases q;exact .inr ⟨_,_,p k,p h,rfl⟩
 all_goals(cases q;exact .inl ⟨l h,az<|v (by nofun) k⟩)
def Y6:kO X E (compareOp .Is) oW:=by
 refine⟨_,ve Y7 Y8,λ{_ H _ _ r p _} fr n l h=>?_⟩;unfold oW at h;cases q:vy r p with
 |none=>rw[q]at h;exact h.elim
 |some b=>
  rw[q]at h;have k:=h H (.refl H) _ (.bl b);rcases N5 n l q with⟨g,d⟩|⟨i,j,g,d,o⟩;·exact .inl ⟨g,by rw[d];exact k⟩
  ·exact .inr ⟨i,j,g,d,by rw[o];exact k⟩
def Y9:kO X E (compareOp .IsNot) oA:=by
 refine⟨_,ve Zu Zc,λ{_ H _ _ r p _} fr n l h=>?_⟩;unfold oA at h;cases q:vy r p with
 |none=>rw[q]at h;exact h.elim
 |some b=>
  rw[q]at h;have k:=h H (.refl H) _ (.bl _);rcases N5 n l q with⟨g,d⟩|⟨i,j,g,d,o⟩;·exact .inl ⟨g,by rw[d];exact k⟩
  ·exact .inr ⟨i,j,g,d,by unfold bne;rw[o];exact k⟩
noncomputable def nH:D->gH Int->gH Int->R D
 |.tup ds,lo,g=>if¬(HT.iG ds.length 0 lo=0/\HT.iG ds.length ds.length g=ds.length)then .ok (.tup<|cutD ds lo g)else .bad
 |d,lo,g=>F4 d lo g
def adn:BJ X E nH:=by
 obtain⟨q,k,d0⟩:=adm (X:=X) (E:=E);refine⟨_,adq.or k,λ{_ _ _ _ l n _} fr g h=>?_⟩;unfold nH at h;split at h
 ·obtain⟨a,j,rfl,o,i⟩:=g.sk;split at h
  ·rename_i z;exact .inl ⟨a,j,rfl,o,by rw[i.length];exact z,λp d=>h _ (lO d) _ ((i.cut l n).Gq d (fr p d))⟩
  ·exact h.elim
 ·exact .inr (d0 fr g h)
end
section
variable{X:Cx}{E:XK}
noncomputable def mm(x:D)(b:ja):gH gL:=(vm x).bind λp=>(n4 b).bind λa=>if(PyData.canLayAll0 a&&PyData.canLay0 p&&decide (p.depth<=63))=true then some (a.any λy=>PyData.eqv y p)else none
def i7(x y:D):R D:=match y with
 |.lst a=>(match mm x a with
  |some b=>.ok (.bl b)
  |none=>.bad)
 |.tup a=>(match mm x a with
  |some b=>.ok (.bl b)
  |none=>.bad)
 |_=>nB x y
def tq(x y:D):R D:=match y with
 |.lst a=>(match mm x a with
  |some b=>.ok (.bl<|!b)
  |none=>.bad)
 |.tup a=>(match mm x a with
  |some b=>.ok (.bl<|!b)
  |none=>.bad)
 |_=>.bad
def KO{s}(I:Inv X pins σ H s)(q:X.A.units+64<cLine){d u}(m:Rep X.K al H x d)(f:Rep X.K al H y (.lst ys)\/Rep X.K al H y (.tup ys))(l:RelV x u)(j:RelV y v)(e:mm d ys=some b):
    ∃p a c bs,(Reads s.heap v (.list a) c\/Reads s.heap v (.tuple a) c)/\Reads s.heap u p bs/\PyData.canLayAll0 a=true/\PyData.canLay0 p=true/\X.A.units+1+min (PyData.depthAll a) p.depth<cLine/\(a.any λy=>PyData.eqv y p)=b:=by
 obtain⟨p,o,n⟩:=bp.mp e;obtain⟨a,k,g⟩:=bp.mp n;split at g
 ·rename_i z;simp only[aq,aA]at z;obtain⟨bs,i⟩:=FO I m l o;have:=Nat.min_le_right (PyData.depthAll a) p.depth;rcases f with f|f
  ·obtain⟨c,h⟩:=FO (p:=.list a) I f j (show(n4 ys).map PyData.list=some _ by rw[k];rfl);exact⟨p,a,c,bs,.inl h,i,z.1.1,z.1.2,by lia,Option.some.inj g⟩
  ·obtain⟨c,h⟩:=FO (p:=.tuple a) I f j (show(n4 ys).map PyData.tuple=some _ by rw[k];rfl);exact⟨p,a,c,bs,.inr h,i,z.1.1,z.1.2,by lia,Option.some.inj g⟩
 ·cases g
def YY(D:X.A.units+64<cLine):kO X E (compareOp .In) i7:=by
 obtain⟨B,C,d0⟩:=MG (X:=X) (E:=E);refine⟨λx y H Q=>(∃c d a b,Rep X.K c H x d/\(Rep X.K c H y (.lst a)\/Rep X.K c H y (.tup a))/\mm d a=some b/\Q (.bl b) H)\/B x y H Q,λi s z H x y v u Q I f e h=>?_,λ{c H x y j _ Q} fr f e h=>?_⟩
 ·rcases h with⟨c,d,a,b,J,G,F,r⟩|h
  ·obtain⟨p,K,L,bs,g,o,n,m,l,k⟩:=KO I D J G f e F;rcases g with g|g;·exact SeqAt.in_list_reads g o n m l (by rw[k];exact⟨.bl b,H,I,rfl,r⟩)
   ·exact SeqAt.in_tuple_reads g o n m l (by rw[k];exact⟨.bl b,H,I,rfl,r⟩)
  ·exact C i s z H x y v u Q I f e h
 ·unfold i7 at h;split at h
  ·rename_i a;cases q:mm j a with
   |none=>rw[q]at h;exact h.elim
   |some b=>rw[q]at h;exact .inl ⟨c,j,a,b,f,.inl e,q,h H (.refl H) _<|.bl b⟩
  ·rename_i a;cases q:mm j a with
   |none=>rw[q]at h;exact h.elim
   |some b=>rw[q]at h;exact .inl ⟨c,j,a,b,f,.inr e,q,h H (.refl H) _<|.bl b⟩
  ·exact .inr (d0 fr f e h)
def MH(z:X.A.units+64<cLine):kO X E (compareOp .NotIn) tq:=by
 refine⟨λx y H Q=>∃c d a b,Rep X.K c H x d/\(Rep X.K c H y (.lst a)\/Rep X.K c H y (.tup a))/\mm d a=some b/\Q (.bl<|!b) H,λo s F H x y v u Q I g f h=>?_,λ{c H _ _ i _ _} fr g f h=>?_⟩
 ·obtain⟨c,d,a,b,D,C,B,r⟩:=h;obtain⟨p,G,J,bs,e,n,m,l,k,j⟩:=KO I z D C g f B;rcases e with e|e;·exact SeqAt.notIn_list_reads e n m l k (by rw[j];exact⟨.bl (!b),H,I,rfl,r⟩)
  ·exact SeqAt.notIn_tuple_reads e n m l k (by rw[j];exact⟨.bl<|!b,H,I,rfl,r⟩)
 ·unfold tq at h;split at h
  ·rename_i a;cases q:mm i a with
   |none=>rw[q]at h;exact h.elim
   |some b=>rw[q]at h;exact⟨c,i,a,b,g,.inl f,q,h H (.refl H) _<|.bl<|!b⟩
  ·rename_i a;cases q:mm i a with
   |none=>rw[q]at h;exact h.elim
   |some b=>rw[q]at h;exact⟨c,i,a,b,g,.inr f,q,h H (.refl H) _<|.bl<|!b⟩
  ·exact h.elim
end
inductive sE:V->D->Prop
 |non:sE .non .non
 |bl (b:Bool):sE (.bl b) (.bl b)
 |int (i:Int):sE (.int i) (.int i)
 |str (x:Str):sE (.str x) (.str x)
inductive sF:List V->List D->Prop
 |nil:sF [] []
 |cons {v:V} {d:D} {vs:List V} {ds:List D}:sE v d->sF vs ds->sF (v::vs) (d::ds)
def sE.rep{K:gF}{a:ji}{H:Hp}{v:V}{d:D}(h:sE v d):Rep K a H v d:=by
 cases h with
 |non=>exact .non
 |bl b=>exact .bl b
 |int i=>exact .int i
 |str x=>exact .str x
def sF.NM{K:gF}{c:ji}{H:Hp}:∀{a:gi V} {b:ja},sF a b->gR K c H a b
 |_,_,.nil=>.nil
 |_,_,.cons p q=>.cons p.rep q.NM
structure vZ(K:gF)(mg:iY)(x:gp)(ds:ja):Prop where
 ex:∃(a:gr) (vs:gi V),mg x=some (.ref a)/\KT K a vs/\sF vs ds
def RC{pos}(c:Gl X x)(h:vZ X.K X.mg x ds)(b:autoParam (jl x) aZ1):DE X E (.Name x pos) (dC (.tup ds)):=by obtain⟨a,g,f,e,d⟩:=h.ex;exact CP (v:=.ref a) c f rfl (λ_ _=>.tup (.inr e) d.NM) b
theorem Ov:∀l:gi (gp×Tok),Vals (l.map λp=>V.str p.1) (l.map λp=>Value.str p.1 p.2)
 |[]=>.nil
 |(_,t)::l=>.cons ⟨t,rfl⟩ (Ov l)
theorem Ou:∀l:gi (gp×Tok),sF (l.map λp=>V.str p.1) (l.map λp=>D.str p.1)
 |[]=>.nil
 |(_,_)::l=>.cons (.str _) (Ou l)
def vZ.strs{K:gF}{b:iY}{l:gi<|gp×Tok}{n}(d:b x=some (.ref a))(e:K.lookup a=some ⟨.type "tuple",dd,.seq (l.map λp=>Value.str p.1 p.2).toArray n,sl⟩)(c:l.length<=sizeLine):
    vZ K b x (l.map λp=>.str p.1):=by
 refine⟨a,l.map λp=>.str p.1,d,⟨_,_,n,e,rfl,rfl,by simpa using c,?_⟩,?_⟩
 ·rw[List.toList_toArray];exact Ov l
 ·exact Ou l
variable{X:Cx}{E:XK}{e:hD}{L:kE}{pos:Pos}
def Sv(i)(hN:X.N.Nodup)(n:X.N[i]?=some x)(l:Loc X.env.scope x)(v:qD X E e L)(m:autoParam (swapsWith e (some<|.Name x pos') pos.line X.env=pure true) aZ0)(hf:autoParam (X.hf x) aZ2):
    DS X E (.Assign [.Name x pos'] e pos) (gS i<|je L):=by
 obtain⟨t,_,p,r⟩:=v;refine⟨_,M7 hN n l p m hf,λ{P F g H _ a D} s h=>?_⟩;have B:jR X.K P F E D g H (toS (L a) λC=>if i<a.length then .nx (a.set i<|iD C)else .bad):=by
  unfold gS je at h;cases q:L a with
  |bad=>rw[q]at h;exact h.elim
  |_=>rw[q]at h;exact h
 refine r s (Aft.mono (jR.qp B s) λf b q j c k=>?_);by_cases z:i<a.length
 ·simp only[z,b8]at b;have d:=lO (K:=X.K) (o:=HO.lst j) c;exact b g _ _ (.of d) (((s.grow f).grow d).set z (k.xn c<|(s.grow f).fresh q c))
 ·simp only[z,cL]at b;exact b.elim
def Sq(i)(hN:X.N.Nodup)(m:X.N[i]?=some x)(j:Loc X.env.scope x)(n:qD X E e L)(k:autoParam (swapsWith e (some<|.Name x pos') pos.line X.env=pure true) aZ0)(hf:autoParam (X.hf x) aZ2):
    DS X E (.Assign [.Name x pos'] e pos) (pP i L):=by
 obtain⟨t,_,p,r⟩:=n;refine⟨_,M7 hN m j p k hf,λ{_ _ _ _ _ b _} s h=>r s<|Aft.mono (jR.qp h s) λf a q o l g=>?_⟩;by_cases z:i<b.length
 ·simp only[z,b8]at a;obtain⟨d,c⟩:=(s.grow f).own z l g;exact a _ _ _ c d
 ·simp only[z,cL]at a;exact a.elim
variable{S J O:hD}{M:jT}{F:Scope}{T:kE}{l:hZ}{a:oj}{Y:kv}{U:hP}{tn:Nat}{Nt:iH}
def Sf{y}(i j){d}(nm)(G:x≠y)(hc:X.calm=true)(hi:DI X E S J T)(hg:∀v k B C,DG (X.comp F (Nt++[x,y]) [(y,d),(x,c)] v k B C) S l a)(hl:∀j∈l,j<tn)(hf:∀v k B C,sD (X.comp F (Nt++[x,y]) [(y,d),(x,c)] v k B C) M Y)
 (he:∀v k B C,DE (X.comp F (Nt++[x,y]) [(y,d),(x,c)] v k B C) (λ_ _ _=>False) O U)
 (f:F.kind=.function)(h:u5 F)(b:xk F)(K:Nt.length=tn)
 (hN:X.N[i]?=some x)(hk:X.env.kindOf x=some .cell)(I:X.env.cells.lookup x=some c)(N:X.N[j]?=some y)(H:X.env.kindOf y=some .cell)(r:X.env.cells.lookup y=some d)(g:closureFor F X.env=pure [(y,d),(x,c)])(n:(relabel F X.env).names=nm)
 (o:∀p∈nm,(p.2=.cell\/p.2=.free)->p.1=x\/p.1=y)(m:∀z∈[x,y],nm.lookup z=some .cell\/nm.lookup z=some .free)
 (Z:autoParam (∀x,foldedSetIterable J X.env x=pure x) aZ5):qD X E (.ListComp O [⟨S,J,M,0⟩] F pos) (kS T tn [i,j] a Y U):=by
  have b1:(x==y)=false:=by simpa using G
  have V:([(y,d),(x,c)]:gi<|gp×gr).lookup x=some c:=by simp[List.lookup,b1]
  have P:([(y,d),(x,c)]:gi<|gp×gr).lookup y=some d:=by simp[List.lookup]
  refine JK (cl:=[(y,d),(x,c)]) (Nc:=[x,y]) (ci:=[i,j]) hc hi hg hl hf he g f h b (.cons hN (.inl hk) (by rw[I,V])<|.cons N (.inl H) (by rw[r,P]) .nil) K (λz e q=>?_) (λz q=>?_) (λz W=>?_) Z;·grind
  ·rw[n]at q;have:z=x\/z=y:=q.elim (λq=>o _ (bN q)<|.inl rfl) λq=>o _ (bN q) (.inr rfl)
   grind
  ·rw[n];exact m z W
def q7:gi D->gH (gi PySem.Str)
 |[]=>some []
 |.str x::r=>(q7 r).map (x:: ·)
 |_=>none
noncomputable def k4:D->gw
 |.str sep,[.lst ds]=>(match q7 ds with
  |some b=>if JoinOk sep b=true then .ok (.str<|Txt.join sep b)else .bad
  |none=>.bad)
 |_,_=>.bad
theorem Ot{K:gF}{g:ji}{H:Hp}:∀{c:gi V} {d:ja} {b:gi PySem.Str},gR K g H c d->q7 d=some b->c=b.map V.str
 |_,_,_,.nil,e=>by cases e;rfl
 |_,_,_,.cons r q,e=>by
  cases r with
  |str x=>obtain⟨h,f,rfl⟩:=aL.mp (show(q7 _).map (x:: ·)=some _ from e);rw[Ot q f];rfl
  |_=>cases e
theorem OY:∀{b:gi PySem.Str} {c},Vals (b.map V.str) c->∃l:gi (PySem.Str×Tok),c=strValues l/\l.map (·.1)=b
 |[],_,.nil=>⟨[],rfl,rfl⟩
 |x::b,_,.cons r q=>by obtain⟨t,rfl⟩:=r;obtain⟨l,rfl,e⟩:=OY q;exact⟨(x,t)::l,rfl,by simp[e]⟩
def XS:sI X "str.join" (λx d H Q=>∃b c p,x=.str b/\d=[.ref p]/\kl X.K H p (c.map V.str)/\JoinOk b c=true/\Q (.str<|Txt.join b c) H):=by intro f s r H x d v z Q I g rs h;obtain⟨b,c,p,rfl,rfl,o,ok,q⟩:=h;obtain⟨t,rfl⟩:=g;obtain⟨u,rfl,j⟩:=vals1 rs;cases j;obtain⟨n,i,m,_⟩:=I.list o;obtain⟨l,rfl,e⟩:=OY i;exact SC.join m.isList e ok λB k=>⟨.str _,H,I.tok _,⟨_,rfl⟩,q⟩
def Ml:wj X E "str" "str.join" k4:=by
 refine⟨_,XS,λ{_ H _ _ _ _ _} fr c rs h=>?_⟩;unfold k4 at h;split at h
 ·cases c;obtain⟨v,rfl,q⟩:=gR.one rs;split at h
  ·rename_i b e;split at h
   ·rename_i ok;obtain⟨a,g,rfl,f,d⟩:=q.rQ;have ev:=Ot d e;subst ev;exact⟨_,b,a,rfl,rfl,f,ok,h H (.refl H) _<|.str _⟩
   ·exact h.elim
  ·exact h.elim
 ·exact h.elim
end P2
namespace TM
open PySem PySem.NumText PySem.StrLaws Builtin Builtin.Str
def gj(x:gp):gi Nat:=x.cps.toList
def ext(h:gj x=gj y):x=y:=by obtain⟨x⟩:=x;obtain⟨y⟩:=y;have:x=y:=Array.toList_inj.mp h;rw[this]
def mV(x y):gj (x++y)=gj x++gj y:=by show(x.cps++y.cps).toList=x.cps.toList++y.cps.toList;simp
def la(x:gp):x.length=(gj x).length:=by simp[Str.length,gj]
def num(m:Nat):gi Nat:=(Nat.toDigits 10 m).map Char.toNat
def CB(m):gj (Str.ofString<|toString ((m:Nat):Int))=num m:=W.KIN.signs_num m
def u9(m):digitsVal (num m)=m:=W.KIN.val_back m
def R4{c:Char}(h:c.isDigit=true):48<=c.toNat/\c.toNat<=57:=by unfold Char.isDigit at h;simp only[aq,aA,ge_iff_le]at h;obtain⟨e,d⟩:=h;have a:(48:UInt32).toNat<=c.val.toNat:=fJ.mp e;have b:c.val.toNat<=(57:UInt32).toNat:=fJ.mp d;exact⟨a,b⟩
def u7(m):AllDigits (num m):=by intro c a;obtain⟨b,h,rfl⟩:=bJ.mp a;exact R4 (Nat.isDigit_of_mem_toDigits (by decide) (by decide) h)
def tu(m):num m≠[]:=by intro h;have:=u9 m;rw[h]at this;have e:m=0:=this.symm;subst e;exact absurd h (by decide)
def Canon(a:hZ):Prop:=AllDigits a/\a≠[]/\(a=[48]\/∃c r,a=c::r/\c≠48)
def Yt(m):Canon (num m):=by
 refine⟨u7 m,tu m,?_⟩;have i:=u7 m;cases q:num m with
 |nil=>exact absurd q (tu m)
 |cons c r=>
  by_cases h:c=48
  ·left;subst h;cases r with
   |nil=>rfl
   |cons d r=>
    exfalso;have e:=toDigits_all (num m) i;rw[u9,q,List.dropWhile_cons,af<|by rfl]at e;have f:(num m).length=r.length+2:=by rw[q];rfl
    have g:(List.dropWhile (λx=>x==48)<|d::r).length<=r.length+1:=List.Sublist.length_le (List.dropWhile_sublist _);unfold num at f;rw[e,ae]at f;cases z:List.dropWhile (λx=>x==48) (d::r)with
    |nil=>rw[z]at f;simp at f
    |cons a b=>rw[z]at f g;simp only[ae,ag]at f g;lia
  ·right;exact⟨c,r,rfl,h⟩
def E4(h:m<10):num m=[48+m]:=by
 have:∀m:Nat,m<10->num m=[48+m]:=by decide
 exact this m h
def Yw(h:10<=m):num m=num (m/10)++[48+m%10]:=by have a:m%10<10:=Nat.mod_lt m (by decide);have t:Nat.toDigits 10 (m/10)++Nat.toDigits 10 (m%10)=Nat.toDigits 10 (10*(m/10)+m%10):=Nat.toDigits_append_toDigits (by decide) (by simp_all) a;rw[Nat.div_add_mod]at t;rw[<-E4 a];unfold num;rw[<-t,aH]
def nZ{k}:∀{m},m<10^(k+1)->(num m).length<=k+1:=by
 induction k with
 |zero=>intro m h;rw[E4<|by omega];simp
 |succ k a=>
  intro m h;by_cases b:m<10;·rw[E4 b];simp
  ·rw[Yw<|by simp_all,aa];have:m/10<10^(k+1):=by rw[Nat.pow_succ]at h;lia
   have:=a this;simp only[bH];walk_at "l"
def OU:∀a,AllDigits a->digitsVal a<10^a.length:=by
 intro a;induction h:a.length generalizing a with
 |zero=>intro _;rw[d6.mp h];decide
 |succ n i=>
  intro g;have b:a≠[]:=by intro e;rw[e]at h;simp at h
  have e:=cD b;generalize a.dropLast=V7 at e;generalize a.getLast b=c at e;subst e;rw[digitsVal_snoc];have k:=i V7 (by rw[aa]at h;simpa using h) (λd f=>g d<|cx _ f);have j:=g c (aU _<|by simp);rw[Nat.pow_succ];grind
def two(n:Nat):gi Nat:=[48+n/10,48+n%10]
def intText_of(h:AllDigits<|gj x)(a:gj x≠[])(b:x.length<=640):intText? x=some ((digitsVal<|gj x:Nat):Int):=intText_digits h a (by walk_at "l")
def sx(n d:Nat):gH Int->Nat
 |none=>d
 |some v=>if v<0 then(v+(n:Int)).toNat else min v.toNat n
def Lg(l u n):strSliceIndices l u 1 n=strSliceIndices (some ((sx n 0 l:Nat):Int)) (some ((sx n n u:Nat):Int)) 1 n:=by
 have cl:∀(o:sP) (d:Nat),d<=n->(match o with|none=>(d:Int)|some i=>max 0<|min (if i<0 then i+(n:Int)else i) n)=((sx n d o:Nat):Int):=by
  intro o d p;cases o with
  |none=>rfl
  |some i=>
   show max 0 (min (if i<0 then i+(n:Int)else i) n)=(((if i<0 then(i+(n:Int)).toNat else min i.toNat n):Nat):Int);by_cases h:i<0;·simp only[h,b8];grind
   ·simp only[h,cL];grind
 have b:=cl l 0 (cy _);have a:=cl u n (au _);have m:((sx n 0 l:Nat):Int)<=n:=by rw[<-b];cases l<;>simp<;>omega
 have k:((sx n n u:Nat):Int)<=n:=by rw[<-a];cases u<;>simp<;>omega
 unfold strSliceIndices;simp only[show(1:Int)>0 by decide,b8];have j:¬((sx n 0 l:Nat):Int)<0:=by simp
 have g:¬((sx n n u:Nat):Int)<0:=by simp
 simp only[j,g,cL];have e:max 0 (min ((sx n 0 l:Nat):Int) n)=((sx n 0 l:Nat):Int):=by lia
 have c:max 0 (min ((sx n n u:Nat):Int) n)=((sx n n u:Nat):Int):=by lia
 rw[e,c];have b1:(match l with|none=>(0:Int)|some i=>max 0<|min (if i<0 then i+(n:Int)else i) n)=((sx n 0 l:Nat):Int):=by have:=b;cases l<;>simpa using this
 have f:(match u with|none=>(n:Int)|some i=>max 0<|min (if i<0 then i+(n:Int)else i) n)=((sx n n u:Nat):Int):=by have:=a;cases u<;>simpa using this
 rw[<-b1,<-f];cases l<;>cases u<;>rfl
def Ge(n d)(h:d<=n)(o):sx n d o<=n:=by
 cases o with
 |none=>exact h
 |some i=>show(if i<0 then(i+(n:Int)).toNat else min i.toNat n)<=n;split<;>grind
def QU(x l u):gj (Txt.slice x l u)=((gj x).drop (sx (gj x).length 0 l)).take (sx (gj x).length (gj x).length u - sx (gj x).length 0 l):=by
 have b:x.length=(gj x).length:=la x;have e:Txt.slice x l u=sliceText x (some ((sx x.length 0 l:Nat):Int)) (some ((sx x.length x.length u:Nat):Int)):=by unfold Txt.slice sliceText;rw[<-Lg]
 rw[<-b];by_cases h:sx x.length 0 l<=sx x.length x.length u;·rw[e,sliceText_nat x h<|Ge _ _ (au _) _];rfl
 ·have d:sx x.length x.length u - sx x.length 0 l=0:=by grind
  rw[d,List.take_zero];unfold Txt.slice;have z:strSliceIndices l u 1 x.length=[]:=by
   rw[Lg];have m:=Ge x.length 0 (cy _) l;have k:=Ge x.length x.length (au _) u;unfold strSliceIndices;simp only[show(1:Int)>0 by decide,b8];have j:¬((sx x.length 0 l:Nat):Int)<0:=by simp
   have i:¬((sx x.length x.length u:Nat):Int)<0:=by simp
   simp only[j,i,cL];have g:max 0 (min ((sx x.length 0 l:Nat):Int) x.length)=((sx x.length 0 l:Nat):Int):=by grind
   have f:max 0 (min ((sx x.length x.length u:Nat):Int) x.length)=((sx x.length x.length u:Nat):Int):=by lia
   rw[g,f];unfold sliceRange;simp only[show(1:Int)>0 by decide,b8];split;·simp_all
   ·simp
  rw[z];by_cases a:x.length=0
  ·simp only[bj,a];have c:gj x=[]:=d6.mp (by rw[<-la];exact a);simpa [gj]using c
  ·have:¬((1:Int)==1&&([]:gi Nat).length==x.length)=true:=by simp;lia
   rw[ao this];rfl
def Ec(x c):Txt.contains x ⟨#[c]⟩=decide (c∈gj x):=found_one x c
def ER{l:hZ}{f:Nat->gL}(d:∀c<128,decide (c∈l)=f c)(b:∀x∈l,x<128)(a:∀c,128<=c->f c=false)(c:Nat):decide (c∈l)=f c:=by
 by_cases h:c<128;·exact d c h
 ·rw[a c<|by simp_all];exact az λz=>h (b c z)
def Ol(x):Txt.startswith x (Str.ofString "0")=decide ((gj x).head?=some 48):=by
 obtain⟨⟨l⟩⟩:=x;unfold Txt.startswith subAt;cases l with
 |nil=>rfl
 |cons c r=>
  have b:(Str.ofString "0").length=1:=by decide
  have a:(Str.ofString "0").cps=#[48]:=by decide
  rw[b,a];show(decide (0+1<=(c::r).length)&&((c::r).toArray.extract 0 (0+1)==#[48]))=_;have:((c::r).toArray.extract 0 (0+1))=#[c]:=by simp
  rw[this,bx];simp[gj]
end TM
namespace P2
open PySem L2
theorem rJ{a:oj}{c:kv}{e:hP}(b:D->Ev)(h:D->D):∀f,(∀d∈f,a d mR=some (b d)/\c (b d)=.ok true/\e (b d)=.ok (h d))->kR a c e mR f=some (f.map h)
 |[],_=>rfl
 |d::r,H=>by obtain⟨k,j,i⟩:=H d (bf ..);unfold kR;rw[k];simp only[dH,j,i,xC,b8];rw[rJ b h r λx g=>H x<|aQ _ g];rfl
theorem yY{a:Type}(f:a->gL):∀l:gi a,oS (l.map λx=>.bl<|f x)=some (l.map f)
 |[]=>rfl
 |x::l=>by show(oS<|l.map λx=>.bl<|f x).map (f x:: ·)=_;rw[yY f l];rfl
def size_of{n}(h:n<=1000000):n<=sizeLine:=av h (by decide)
def bits_le{i:Int}{k}(h:i.natAbs<2^k):bits i<=k:=intBits_le_iff.mpr h
def log2_lt{i:Int}{k}(a:0<k)(h:i.natAbs<2^k):i.natAbs.log2<k:=by
 by_cases z:i.natAbs=0;·simp_all
 ·exact(Nat.log2_lt z).mpr h
section
variable{C Q:Type}{a:C}{c:gr}{s:iH}{A:ja}{k:C->RT}{h:C->R Q}{e:Ev}{g u:g0}{f q v:hP}{p F:kv}{fs:kE}{i j:Int}{x y:gp}{b X:gL}{l B:ja}{d:D}{n m:Nat}{J S:D->D->R D}{L:D->R D}{I:gw}{H:D->gw}
variable{t:String}{K:BL}{N M:Ev->R (gH Int)}{P:hZ}{E:oj}{T U:sP}{O:gp->hP}
def gM:(R.ok a).bind h=h a:=rfl
def vn:(R.ex c s A:R C).bind h=.ex c s A:=rfl
def lN:toS (R.ok a) k=k a:=rfl
def ab3:toS (R.ex c s A:R C) k=.ex c s A:=rfl
def Ny:tJ (.nx e) g=g e:=rfl
def FH:tJ (.rt d) g=.rt d:=rfl
def abV:tJ (.ex c s A) g=.ex c s A:=rfl
def ab4:turnT (.nx e) g=g e:=rfl
def xM:gB (.rt d)=.ok d:=rfl
def abu:gB (.ex c s A)=.ex c s A:=rfl
def Nw:xA (some a)=.ok a:=rfl
def abU:gy g u e=tJ (g e) u:=rfl
def abR:iC e=.nx e:=rfl
def FG:g9 f e=toS (f e) .rt:=rfl
def Nx:gS n f e=toS (f e) λd=>if n<e.length then .nx (e.set n<|.sh d)else .bad:=rfl
def pO:iA p g u e=toS (p e) λk=>if k=true then g e else u e:=rfl
def lM:dC d e=.ok d:=rfl
def vo:d1 L f e=(f e).bind L:=rfl
def oF:d2 J q v e=(q e).bind λx=>(v e).bind λy=>J x y:=rfl
def tG:b1 P2.tB f e=(f e).bind P2.tB:=rfl
def Nk:b1 tT f e=(f e).bind tT:=rfl
def FA:mj p F e=(p e).bind λc=>if c=true then F e else .ok false:=rfl
def Av:lB p F e=(p e).bind λc=>if c=true then .ok true else F e:=rfl
def Nl:mF p e=(p e).bind λc=>.ok (!c):=rfl
def abp:qf q v e=((q e).bind P2.tB).bind λc=>if c=true then v e else .ok (.bl false):=rfl
def abq:CN q v e=((q e).bind P2.tB).bind λc=>if c=true then .ok (.bl true)else v e:=rfl
def Nn:uo q e=((q e).bind P2.tB).bind λc=>.ok (.bl<|!c):=rfl
def Nm:nR p q v e=(p e).bind λk=>if k=true then q e else v e:=rfl
def mK:dA I fs e=(fs e).bind I:=rfl
def kF:gk e=.ok []:=rfl
def jZ:gh f fs e=(f e).bind λx=>(fs e).bind λo=>.ok (x::o):=rfl
def Fz:je fs e=(fs e).bind λl=>.ok (.lst l):=rfl
def r4:jW t H f fs e=(f e).bind λx=>if oV t x=true then(fs e).bind λo=>H x o else .bad:=rfl
def abr:ot K f N M e=(f e).bind λx=>(N e).bind λi=>(M e).bind λj=>K x i j:=rfl
def Aw:kS fs n P E p f e=(fs e).bind λl=>if l.length<=sizeLine then xA (kR E p f (lD n P e) l)else .bad:=rfl
def FF:vx fs E g e=toS (fs e) λl=>qM E g l e:=rfl
def ab2:toO (some a) k=k a:=rfl
def abz:gV n d e=if n<e.length then some (e.set n<|.sh d)else none:=rfl
def q4:P2.tB (.bl b)=.ok b:=rfl
def NB:tT (.bl b)=.ok b:=rfl
def As:gv (.int i) (.int j)=.ok (.int<|i+j):=rfl
def abk:gv (.str x) (.str y)=if x.length+y.length<=sizeLine then .ok (.str<|x++y)else .bad:=rfl
def abj:gv (.lst l) (.lst B)=if l.length+B.length<=sizeLine then .ok (.lst<|l++B)else .bad:=rfl
def ab1:pQ (.int i) (.int j)=.ok (.int<|i - j):=rfl
def Np:iE (.int i) (.int j)=if xB i j=true then .ok (.int<|i.fdiv j)else .bad:=rfl
def abN:hR (.int i) (.int j)=if decide (j≠0)=true then .ok (.int<|i.fmod j)else .bad:=rfl
def Ay:P2.oZ (.int i) (.int j)=.ok (.bl<|decide<|i<j):=rfl
def xN:jX (.int i) (.int j)=.ok (.bl<|decide<|j<i):=rfl
def abA:uM (.int i) (.int j)=.ok (.bl<|decide<|j<=i):=rfl
def abP:u6 (.int i)=.ok (.int<|-i):=rfl
def FC:gW (.int i) (.int j)=.ok (.bl<|decide<|i=j):=rfl
def xK:gW (.str x) (.str y)=.ok (.bl<|decide<|x=y):=rfl
def Nv:ky (.int i) (.int j)=.ok (.bl<|!decide (i=j)):=rfl
def FE:ky (.str x) (.str y)=.ok (.bl<|!decide (x=y)):=rfl
def Nr:nB (.str x) (.str y)=.ok (.bl<|Txt.contains y x):=rfl
def xO:gK (.lst l) (.int i)=match L2.hI l i with|some d=>.ok d|none=>.bad:=rfl
def Nu:gK (.tup l) (.int i)=match L2.hI l i with|some d=>.ok d|none=>.bad:=rfl
def abH:gK (.str x) (.int i)=if x.length<=sizeLine then(match L2.hI x.cps.toList i with|some c=>.ok (.str ⟨#[c]⟩)|none=>.bad)else .bad:=rfl
def abQ:pI (.int i)=.ok (some i):=rfl
def abK:ih [.str x]=if x.length<=sizeLine then .ok (.int x.length)else .bad:=rfl
def vp:ih [.lst l]=.ok (.int l.length):=rfl
def abi:t9 [.int i]=.ok (.int<|if i<0 then -i else i):=rfl
def abL:tj [.int i,.int j]=.ok (.int<|if j>i then j else i):=rfl
def ab0:lQ [.int i]=if i.natAbs.log2<1920 then .ok (.str<|toString i)else .bad:=rfl
def abB:intD [.str x]=match PySem.intText? x with|some n=>if x.length<=640 then .ok (.int n)else .bad|none=>.bad:=rfl
def Nj:rH [.lst l]=match oS l with|some bs=>.ok (.bl<|bs.all id)|none=>.bad:=rfl
def NA:vE (.str x) [.str y]=.ok (.bl<|Txt.startswith x y):=rfl
def acb:afD (.str x) [.int i]=if PadOk i=true then .ok (.str<|Txt.zfill x i)else .bad:=rfl
def Nq:oV "str" (.str x)=true:=by rfl
def abM:gY l=if l.length<=sizeLine then .ok (.tup l)else .bad:=rfl
def abv:js l=if l.length<=sizeLine then .ok l else .bad:=rfl
def abn:mi (.lst l)=.ok l:=rfl
def abo:mi (.str x)=.ok (signs x):=rfl
def aby:iI (.str x)=if x.length<=sizeLine then .ok (.str x)else .bad:=rfl
def abx:iI (.int i)=if i.natAbs.log2<1920 then .ok (.str<|toString i)else .bad:=rfl
def abJ:kn x e=if x.length<=sizeLine then .ok (.str x)else .bad:=rfl
def abI:g8 f O x e=(f e).bind λz=>match z with|.str y=>if(x++y).length<=sizeLine then O (x++y) e else .bad|_=>.bad:=rfl
def oG:dV 0 (.sh d::r)=.ok d:=rfl
def o6:dV 1 (s0::.sh d::r)=.ok d:=rfl
def vq:dV 2 (s0::s1::.sh d::r)=.ok d:=rfl
def tH:dV 3 (s0::s1::s2::.sh d::r)=.ok d:=rfl
def ab5:dV 4 (s0::s1::s2::s3::.sh d::r)=.ok d:=rfl
def ab6:dV 5 (s0::s1::s2::s3::s4::.sh d::r)=.ok d:=rfl
def ab7:dV 6 (s0::s1::s2::s3::s4::s5::.sh d::r)=.ok d:=rfl
def ab8:dV 7 (s0::s1::s2::s3::s4::s5::s6::.sh d::r)=.ok d:=rfl
def ab9:dV 8 (s0::s1::s2::s3::s4::s5::s6::s7::.sh d::r)=.ok d:=rfl
def aca:dV 9 (s0::s1::s2::s3::s4::s5::s6::s7::s8::.sh d::r)=.ok d:=rfl
def r6(o:0<j):hR (.int i) (.int j)=.ok (.int<|i%j):=by rw[abN,af<|by simp;lia,Int.fmod_eq_emod_of_nonneg _<|by walk_at "l"]
def abt(o:0<j)(z:j<18446744073709551616):iE (.int i) (.int j)=.ok (.int<|i/j):=by have r:bits j<=64:=bits_le (by omega);rw[Np,af<|by unfold xB;simp only[aq,aA];lia,Int.fdiv_eq_ediv_of_nonneg _<|by walk_at "l"]
def abl{x y:gp}(r:x.length<=1000)(o:y.length<=1000):gv (.str x) (.str y)=.ok (.str<|x++y):=by rw[abk,af<|av (Nat.add_le_add r o)<|by decide]
def Au{x y:ja}(r:x.length<=1000)(o:y.length<=1000):gv (.lst x) (.lst y)=.ok (.lst<|x++y):=by rw[abj,af<|av (Nat.add_le_add r o)<|by decide]
def abw{x:ja}(o:x.length<=1000):js x=.ok x:=by rw[abv,af<|av o<|by decide]
def xP{x:ja}(o:x.length<=1000):gY x=.ok (.tup x):=by rw[abM,af<|av o<|by decide]
end
open PySem.Spec
open PyProof.Rows hiding St
section
variable{X:Cx}{E:XK}
def vb(i j:Int):gL:=Mz i j||Aj i j
noncomputable def iU:D->D->R D
 |.int i,.int j=>if vb i j=true then .ok (.int<|i*j)else .bad
 |.str x,.int n=>if rW x n=true then .ok (.str<|Txt.mul x n)else .bad
 |_,_=>.bad
def Zo:kO X E (binaryOp .Mult) iU:=by
 refine⟨_,ve (ve Zk Zm) Zp,λ{_ H _ _ _ _ _} fr b a h=>?_⟩;unfold iU at h;split at h
 ·cases b;cases a;split at h
  ·rename_i z;unfold vb at z;rw[ba]at z;rcases z with z|z
   ·unfold Mz at z;simp only[aq,aA]at z;exact .inl (.inr ⟨_,_,rfl,rfl,z,h H (.refl H) _<|.int _⟩)
   ·refine .inl (.inl ⟨_,_,rfl,rfl,?_,h H (.refl H) _<|.int _⟩);unfold Aj at z;simp only[ba,aq,aA]at z;exact z
  ·exact h.elim
 ·cases b;cases a;split at h;·rename_i z;exact .inr ⟨_,_,rfl,rfl,mulOk_of z,h H (.refl H) _<|.str _⟩
  ·exact h.elim
 ·exact h.elim
end
def E8:(10:Nat)^400<2^1500:=by decide+kernel
def Qq{i:Int}(h:i.natAbs<10^400):bits i<=1500:=bits_le (fK h E8)
def abO{i j:Int}(b: -18446744073709551616<j)(a:j<18446744073709551616):iU (.int i) (.int j)=.ok (.int<|i*j):=by show(if vb i j=true then R.ok (D.int<|i*j)else .bad)=_;rw[af<|by unfold vb Aj;simp only[ba,aq,aA];right;right;exact⟨b,a⟩]
def Az{i j:Int}(b: -18446744073709551616<i)(a:i<18446744073709551616):iU (.int i) (.int j)=.ok (.int<|i*j):=by show(if vb i j=true then R.ok (D.int<|i*j)else .bad)=_;rw[af<|by unfold vb Aj;simp only[ba,aq,aA];right;left;exact⟨b,a⟩]
def xQ{n:Int}(h:rW x n=true):iU (.str x) (.int n)=.ok (.str<|Txt.mul x n):=by show(if rW x n=true then R.ok (D.str<|Txt.mul x n)else .bad)=_;rw[af h]
def Ax{i j:Int}(b:j≠0)(a:j.natAbs<10^400):iE (.int i) (.int j)=.ok (.int<|i.fdiv j):=by have c:=Qq a;rw[Np,af<|by unfold xB;simp only[aq,aA];lia]
def FJ{i:Int}(h:i.natAbs<10^400):lQ [.int i]=.ok (.str<|toString i):=by have p:(2:Nat)^1500<=2^1920:=eD (by decide) (by decide);rw[ab0,af<|log2_lt (by decide)<|ak (fK h E8) p]
def FD{i:Int}(h:i.natAbs<10^400):iI (.int i)=.ok (.str<|toString i):=by have p:(2:Nat)^1500<=2^1920:=eD (by decide) (by decide);rw[abx,af<|log2_lt (by decide)<|ak (fK h E8) p]
def abD{i:Int}:jQ q [.int i,.ty "int"]=.ok (.bl true):=rfl
def abC{i:Int}:jQ q [.int i,.ty "bool"]=.ok (.bl false):=rfl
def abE:jQ q [.str x,.ty "str"]=.ok (.bl true):=rfl
def abW{a}:nH (.lst ds) a hi=.ok (.lst<|cutD ds a hi):=rfl
def abX{a}:nH (.str x) a hi=if x.length<=sizeLine then .ok (.str<|Txt.slice x a hi)else .bad:=rfl
def abF:oW .non .non=.ok (.bl true):=rfl
def abG:oW (.tup ds) .non=.ok (.bl false):=rfl
def NC{n}:pV c b (n+1) ρ=toS (c ρ) λk=>if k=true then turnT (b ρ) (pV c b n)else .nx ρ:=rfl
open PySem.Calls
def BM(b:iY)(h:gU):Prop:=∃a ob,b "__builtins__"=some (.ref a)/\a≠builtinsNs/\h.get? a=some ob/\ob.cls=.type "module"/\ob.dict=some builtinsNs/\ob.data=.plain
end P2
namespace WP
open PySem L2 P2
structure Ad where
 WeatherError:gr:=0
 NoFraction:gr:=0
 NoText:gr:=0
 af4:gr:=0
 af3:gr:=0
 rC:gr:=0
 Tokens:gr:=0
 Book:gr:=0
 Sight:gr:=0
 af2:gr:=0
 mW:gr:=0
 af6:gr:=0
 af7:gr:=0
 iV:gr->gE->gH gL:=λ_ _=>none
def Dj(a:Ad):g0:=(g9<|qf (d2 ky (dV 0)<|gs "")<|dA rH<|gh (je<|kS (λb=>((dV 0) b).bind mi) 1 [] (gV 0) (λ_=>.ok true)<|d2 nB (dV 0)<|gs "0123456789") gk)
def Dg(a:Ad)(b:gw):g0:=(gy (iA (lB (b1 tB (d2 jX (dA ih (gh (dV 0) gk)) (dV 1))) (mF (b1 tT (dA b (gh (dV 0) gk))))) (g9 (dC (.bl false))) iC)
    (g9 (CN (d2 gW (dV 0) (gs "0")) (uo (jW "str" vE (dV 0) (gh (gs "0") gk))))))
def D8(a:Ad)(b:gw):g0:=(gy (iA (mF (b1 tT (dA b (gh (dV 0) (gh (dA ih (gh (dA lQ (gh (dV 2) gk)) gk)) gk))))) (λc=>toS ((gh (gq 1) gk) c) λd=>.ex a.NoText ["row"] d) iC)
    (gy (gS 3 (dA intD (gh (dV 0) gk)))
    (gy (iA (lB (b1 tB (d2 oZ (dV 3) (dV 1))) (b1 tB (d2 jX (dV 3) (dV 2)))) (λc=>toS ((gh (gq 1) gk) c) λd=>.ex a.NoText ["row"] d) iC)
    (g9 (dV 3)))))
def B8(a:Ad):g0:=(gy (gS 2 (d2 hR (dV 0) (dV 1)))
    (gy (gS 0 (dV 1))
    (gS 1 (dV 2))))
def De(a:Ad):g0:=(gy (pV (b1 tB (d2 ky (dV 1) (gq 0))) (B8 a) wC)
    (g9 (dV 0)))
def Ks(a:Ad):g0:=(g9<|qf (dA (jQ a.iV)<|gh (dV 0)<|gh (dC<|.ty "int") gk)<|uo<|dA (jQ a.iV)<|gh (dV 0)<|gh (dC<|.ty "bool") gk)
def Df(a:Ad)(c b:gw):g0:=(gy (iA (lB (mF (b1 tT (dA c (gh (dV 0) gk)))) (lB (mF (b1 tT (dA c (gh (dV 1) gk)))) (b1 tB (d2 gW (dV 1) (gq 0))))) (λ_=>.ex a.NoFraction [] []) iC)
    (gy (gS 2 (dA b (gh (dA t9 (gh (dV 0) gk)) (gh (dA t9 (gh (dV 1) gk)) gk))))
    (gy (iA (b1 tB (d2 oZ (dV 1) (gq 0))) (gS 2 (d1 u6 (dV 2))) iC)
    (g9 (dA gY (gh (d2 iE (dV 0) (dV 2)) (gh (d2 iE (dV 1) (dV 2)) gk)))))))
def zo(a:Ad):g0:=(gy (gS 1 (i6 0 0))
    (gy (gS 2 (i6 0 1))
    (gy (iA (b1 tB (d2 gW (dV 2) (gq 1))) (g9 (dA lQ (gh (dV 1) gk))) iC)
    (g9 ((g8 (d1 iI (dV 1)) (g8 (gs "/") (g8 (d1 iI (dV 2)) kn))) Str.empty)))))
def D0(a:Ad)(c d b:gw):g0:=(gy (gS 1 (jW "str" vE (dV 0) (gh (gs "-") gk)))
    (gy (gS 2 (nR (b1 tT (dV 1)) (jW "str" oH (ot nH (dV 0) (λe=>((gq 1) e).bind pI) (λ_=>.ok none)) (gh (gs "/") gk)) (jW "str" oH (dV 0) (gh (gs "/") gk))))
    (gy (iA (lB (b1 tB (d2 jX (dA ih (gh (dV 2) gk)) (gq 2))) (mF (b1 tT (dA rH (gh (je (kS (λe=>((dV 2) e).bind mi) 1 [] (gV 0) (λ_=>.ok true) (dA c (gh (dV 0) (gh (gq 60) gk))))) gk))))) (λe=>toS ((gh (gq 1) gk) e) λf=>.ex a.NoText ["row"] f) iC)
    (gy (gS 3 (nR (b1 tT (dV 1)) (d1 u6 (dA intD (gh (i6 2 0) gk))) (dA intD (gh (i6 2 0) gk))))
    (gy (gS 4 (nR (b1 tB (d2 gW (dA ih (gh (dV 2) gk)) (gq 2))) (dA intD (gh (i6 2 1) gk)) (gq 1)))
    (gy (iA (b1 tB (d2 gW (dV 4) (gq 0))) (λe=>toS ((gh (gq 1) gk) e) λf=>.ex a.NoText ["row"] f) iC)
    (gy (gS 5 (dA d (gh (dV 3) (gh (dV 4) gk))))
    (gy (iA (b1 tB (d2 ky (dA b (gh (dV 5) gk)) (dV 0))) (λe=>toS ((gh (gq 1) gk) e) λf=>.ex a.NoText ["row"] f) iC)
    (g9 (dV 5))))))))))
def D5(a:Ad)(b:gw):g0:=(gy (gS 1 (dA b (gh (dV 0) gk)))
    (gy (iA (lB (b1 tB (d2 uM (dA t9 (gh (i6 1 0) gk)) (gq 1000000000))) (b1 tB (d2 uM (i6 1 1) (gq 1000000)))) (λc=>toS ((gh (gq 1) gk) c) λd=>.ex a.NoText ["row"] d) iC)
    (g9 (dV 1))))
def Dh(a:Ad):g0:=(gy (iA (lB (mF (b1 tT (dA (jQ a.iV) (gh (dV 0) (gh (dC (.ty "str")) gk))))) (lB (b1 tB (d2 gW (dV 0) (gs ""))) (b1 tB (d2 jX (dA ih (gh (dV 0) gk)) (gq 8))))) (g9 (dC (.bl false))) iC)
    (g9 (qf (dA rH (gh (je (kS (λb=>((dV 0) b).bind mi) 1 [] (gV 0) (λ_=>.ok true) (d2 nB (dV 0) (gs "abcdefghijklmnopqrstuvwxyz")))) gk)) (d2 tq (dV 0) (dC (.tup [(.str "mark"),(.str "fill"),(.str "here"),(.str "back"),(.str "on"),(.str "at"),(.str "ago"),(.str "until"),(.str "abs"),(.str "and"),(.str "or"),(.str "not")]))))))
def D9(a:Ad)(b:gw):g0:=(gy (iA (mF (b1 tT (dA b (gh (dV 0) gk)))) (λc=>toS ((gh (gq 1) gk) c) λd=>.ex a.NoText ["row"] d) iC)
    (g9 (dV 0)))
def zl(a:Ad):g0:=(g9<|(g8 (d1 iI<|dV 0)<|g8 (gs " ")<|g8 (d1 iI<|dV 1)<|g8 (gs " ")<|g8 (d1 iI<|dV 2) kn) Str.empty)
def zp(a:Ad)(b:gw):g0:=(gy (gS 2 (dA b (gh (dV 0) gk)))
    (g9 (nR (b1 tB (d2 i7 (i6 0 0) (dV 1))) ((g8 (gs "(") (g8 (d1 iI (dV 2)) (g8 (gs ")") kn))) Str.empty) (dV 2))))
def lX(a:Ad)(c d e b:gw):g0:=(gy (gS 1 (i6 0 0))
    (gy (iA (b1 tB (d2 i7 (dV 1) (dA gY (gh (gs "+") (gh (gs "-") gk))))) (g9 (dA e (gh (dA d (gh (i6 0 1) gk)) (gh (dV 1) (gh (dA c (gh (i6 0 2) (gh (dA gY (gh (gs "+") (gh (gs "-") gk))) gk))) gk))))) iC)
    (gy (iA (b1 tB (d2 gW (dV 1) (gs "times"))) (g9 (dA e (gh (dA b (gh (i6 0 1) gk)) (gh (gs "*") (gh (dA c (gh (i6 0 2) (gh (dA gY (gh (gs "+") (gh (gs "-") (gh (gs "times") gk)))) gk))) gk))))) iC)
    (gy (iA (b1 tB (d2 gW (dV 1) (gs "abs"))) (gy (gS 2 (dA d (gh (i6 0 1) gk)))
    (g9 ((g8 (gs "abs(") (g8 (d1 iI (dV 2)) (g8 (gs ")") kn))) Str.empty))) iC)
    (gy (iA (b1 tB (d2 gW (dV 1) (gs "num"))) (g9 (dA b (gh (i6 0 1) gk))) iC)
    (gy (iA (b1 tB (d2 gW (dV 1) (gs "here"))) (g9 (dV 1)) iC)
    (gy (gS 3 (i6 0 1))
    (g9 ((g8 (d1 iI (dV 1)) (g8 (gs " ") (g8 (d1 iI (dV 3)) kn))) Str.empty)))))))))
def zm(a:Ad)(b:gw):g0:=(gy (gS 2 (dA b (gh (dV 0) gk)))
    (g9 (nR (b1 tB (d2 i7 (i6 0 0) (dV 1))) ((g8 (gs "[") (g8 (d1 iI (dV 2)) (g8 (gs "]") kn))) Str.empty) (dV 2))))
def nX(a:Ad)(b d e c:gw):g0:=(gy (gS 1 (i6 0 0))
    (gy (iA (b1 tB (d2 gW (dV 1) (gs "or"))) (g9 (dA e (gh (dA d (gh (i6 0 1) gk)) (gh (dV 1) (gh (dA b (gh (i6 0 2) (gh (dA gY (gh (gs "or") gk)) gk))) gk))))) iC)
    (gy (iA (b1 tB (d2 gW (dV 1) (gs "and"))) (g9 (dA e (gh (dA b (gh (i6 0 1) (gh (dA gY (gh (gs "or") gk)) gk))) (gh (dV 1) (gh (dA b (gh (i6 0 2) (gh (dA gY (gh (gs "or") (gh (gs "and") gk))) gk))) gk))))) iC)
    (gy (iA (b1 tB (d2 gW (dV 1) (gs "not"))) (g9 (d2 gv (gs "not ") (dA b (gh (i6 0 1) (gh (dA gY (gh (gs "or") (gh (gs "and") gk))) gk))))) iC)
    (g9 (dA e (gh (dA c (gh (i6 0 1) gk)) (gh (dV 1) (gh (dA c (gh (i6 0 2) gk)) gk)))))))))
end WP
namespace P2
open PySem PySem.W PyProof.Rows
section
variable{n:Nat}{c:Nat->Nat->gL}{rk:Nat->Int}
variable(a:∀i j,i<n->j<n->c i j=decide (rk i<rk j))
include a
omit a in
omit a in
omit a in
end
end P2
namespace P2
open PySem L2
inductive Z where
 |d(x:D)|loc(n:Nat)|tk(ks:List Key)
abbrev jF(x:Int):gH Z:=some (.d<|.int x)
abbrev yn(x:ja):gH Z:=some (.d<|.lst x)
abbrev ig(x:D):gH Z:=some (.d x)
abbrev gz(n:Nat):gH Z:=some (.loc n)
inductive Cell where
 |li(zs:List Z)|ob(C:Addr)(fs:List<|Str×Z)|dk(kvs:List<|Key×Z)|dt(kvs:List<|List Key×Z)|ft(kvs:List<|List Key×Z)|no|mk
abbrev ic:=gi Cell
abbrev Lo:=Nat->gH gr
abbrev hU:=gi (gH Z)
def ka(K:gF)(b:ji)(c:Lo)(H:Hp)(v:V):Z->Prop
 |.d x=>Rep K b H v x
 |.loc n=>∃a,c n=some a/\v=.ref a
 |.tk d=>∃a,b a/\H a=some (.tup<|d.map kV)/\v=.ref a
inductive jw(K:W.Frag)(al:Addr->Prop)(lo:Lo)(H:Hp):List V->List Z->Prop
 |nil:jw K al lo H [] []
 |cons {v:V} {z:Z} {vs:List V} {zs:List Z}:ka K al lo H v z->jw K al lo H vs zs->jw K al lo H (v::vs) (z::zs)
inductive jh{κ:Type}(K:W.Frag)(al:Addr->Prop)(lo:Lo)(H:Hp):List (κ×V)->List (κ×Z)->Prop
 |nil:jh K al lo H [] []
 |cons {k:κ} {v:V} {z:Z} {vs:List<|κ×V} {zs:List<|κ×Z}:ka K al lo H v z->jh K al lo H vs zs->jh K al lo H ((k,v)::vs) ((k,z)::zs)
def lR(K:gF)(e:ji)(d:Lo)(H:Hp)(a:gr):Cell->Prop
 |.li zs=>∃f,H a=some (.lst f)/\jw K e d H f zs
 |.ob C fs=>∃g b,H a=some (.ins C g b)/\jh K e d H b fs
 |.dk c=>∃b,H a=some (.dK b)/\jh K e d H b c
 |.dt c=>∃b,H a=some (.dT b)/\jh K e d H b c
 |.ft c=>∃b o,H a=some (.nA o<|.dT b)/\jh K e d H b c
 |.no=>False
 |.mk=>False
def Ik(o:HO):Prop:=(∃a,o=.tup a)\/∃b,o=.kU b
structure rD(K:gF)(al:ji)(lo:Lo)(H:Hp)(S:ic):Prop where
 at':∀n a,lo n=some a->∃c,S[n]?=some c/\lR K al lo H a c
 has:∀n c,S[n]?=some c->c≠.no->c≠.mk->∃a,lo n=some a
 na:∀n a,lo n=some a->¬al a
 inj:∀m n a,lo m=some a->lo n=some a->m=n
 tl:S[0]?=some .mk->∀b o,H b=some o->Ik o->al b
structure Z0 where
 H:Hp
 al:gr->Prop
 lo:Lo
 n:Nat
structure EZ(K:gF)(B:Z0)(al:ji)(lo:Lo)(H:Hp)(S:ic):Prop where
 fr:∀b o,NT o->B.H b=some o->(∀n,B.lo n≠some b)->H b=some o
 hf:∀b,H b=none->B.H b=none
 tt:lA K H
 fresh:∀a,H a=none->al a
 st:rD K al lo H S
 lx:∀n a,B.lo n=some a->lo n=some a
 nw:∀n a,lo n=some a->B.lo n=some a\/(B.H a=none/\B.n<=n)
 bd:∀n a,B.lo n=some a->n<B.n
 sz:B.n<=S.length
 xt:Xt B.al B.H al H
 sb:∀a,al a->B.al a\/B.H a=none
structure RZ(K:gF)(B:Z0)(al:ji)(lo:Lo)(H:Hp)(σ:St)(ρ:hU)(S:ic):Prop extends EZ K B al lo H S where
 len:ρ.length=σ.length
 vr:∀(i:Nat) (z:Z),ρ[i]?=some (some z)->∃v,σ[i]?=some (some v)/\ka K al lo H v z
def Lx(c b:Lo):Prop:=∀n a,c n=some a->b n=some a
def Lx.refl{a}:Lx a a:=λ_ _ h=>h
def Lx.trans{b}(x:Lx b lo1)(y:Lx lo1 LS):Lx b LS:=λn a h=>y n a (x n a h)
section
variable{K:gF}{f A:ji}{l t:Lo}{H F:Hp}
def ka.mv(x:Xt f H A F)(y:Lx l t)(r:ka K f l H v z):ka K A t F v z:=by
 cases z with
 |d d=>exact Rep.mv x r
 |loc n=>obtain⟨a,c,b⟩:=r;exact⟨a,y n a c,b⟩
 |tk e=>obtain⟨a,c,b,g⟩:=r;obtain⟨j,i⟩:=x a (.tup<|e.map kV) (λ_ h=>nomatch h) c b;exact⟨a,j,i,g⟩
def jw.mv(x:Xt f H A F)(y:Lx l t)(r:jw K f l H vs zs):jw K A t F vs zs:=by
 induction r with
 |nil=>exact .nil
 |cons a _ b=>exact .cons (a.mv x y) b
def jh.mv(x:Xt f H A F)(y:Lx l t)(r:jh K f l H vs zs):jh K A t F vs zs:=by
 induction r with
 |nil=>exact .nil
 |cons a _ b=>exact .cons (a.mv x y) b
def jw.length(r:jw K f l H vs zs):vs.length=zs.length:=by
 induction r with
 |nil=>rfl
 |cons _ _ a=>simp_all
def jw.append(r:jw K f l H vs zs)(q:jw K f l H ws ys):jw K f l H (vs++ws) (zs++ys):=by
 induction r with
 |nil=>exact q
 |cons a _ b=>exact .cons a b
def jw.get(r:jw K f l H vs zs){i:Nat}(e:zs[i]?=some z):∃v,vs[i]?=some v/\ka K f l H v z:=by
 induction r generalizing i with
 |nil=>simp at e
 |cons a _ b=>grind
def jw.ofD(r:gR K f H vs ds):jw K f l H vs (ds.map .d):=by
 induction ds generalizing vs with
 |nil=>cases r;exact .nil
 |cons d ds c=>cases r with|cons a b=>exact .cons a (c b)
def jw.toD(r:jw K f l H vs<|ds.map .d):gR K f H vs ds:=by
 induction ds generalizing vs with
 |nil=>cases r;exact .nil
 |cons d ds c=>cases r with|cons a b=>exact .cons a (c b)
def lR.mv(x:Xt f H A F)(y:Lx l t)(e:∀o,NT o->H a=some o->F a=some o)(r:lR K f l H a c):lR K A t F a c:=by
 cases c with
 |li m=>obtain⟨i,d,b⟩:=r;exact⟨i,e _ o4 d,b.mv x y⟩
 |ob C fs=>obtain⟨k,g,d,b⟩:=r;exact⟨k,g,e _ (λ_ h=>nomatch h) d,b.mv x y⟩
 |ft j=>obtain⟨g,o,d,b⟩:=r;exact⟨g,o,e _ (λ_ h=>nomatch h) d,b.mv x y⟩
 |no=>exact r
 |mk=>exact r
 |_=>obtain⟨g,d,b⟩:=r;exact⟨g,e _ (λ_ h=>nomatch h) d,b.mv x y⟩
def lR.w8(r:lR K f l H a c):H a≠none/\(∀g,H a≠some (.kU g))/\(∀q,H a≠some (lJ a q)):=by
 cases c with
 |li i=>obtain⟨j,b,d⟩:=r;rw[b];exact⟨nofun,λ_=>nofun,λ_ w=>by unfold lJ at w;exact nomatch w⟩
 |ob C fs=>obtain⟨k,e,b,d⟩:=r;rw[b];exact⟨nofun,λ_=>nofun,λ_ w=>by unfold lJ at w;exact nomatch w⟩
 |ft h=>obtain⟨e,o,b,d⟩:=r;rw[b];exact⟨nofun,λ_=>nofun,λ_ w=>by unfold lJ at w;exact nomatch w⟩
 |no=>exact r.elim
 |mk=>exact r.elim
 |_=>obtain⟨e,b,d⟩:=r;rw[b];exact⟨nofun,λ_=>nofun,λ_ w=>by unfold lJ at w;exact nomatch w⟩
def lR.Mp(r:lR K f l H a c){o}(h:H a=some o):¬Ik o:=by
 rintro (⟨k,rfl⟩|⟨g,rfl⟩)
 ·cases c with
  |li j=>obtain⟨m,b,d⟩:=r;rw[h]at b;cases b
  |ob C fs=>obtain⟨n,e,b,d⟩:=r;rw[h]at b;cases b
  |ft i=>obtain⟨e,o,b,d⟩:=r;rw[h]at b;cases b
  |no=>exact r.elim
  |mk=>exact r.elim
  |_=>obtain⟨e,b,d⟩:=r;rw[h]at b;cases b
 ·exact r.w8.2.1 g h
variable{B:Z0}{I:St}{E:hU}{S:ic}
def EZ.start{zs:gi Z}(tt:lA K H)(fr:∀a,H a=none->f a)(st:rD K f l H S):EZ K ⟨H,f,l,S.length⟩ f l H S where
 fr:=λ_ _ _ h _=>h
 hf:=λ_ h=>h
 tt:=tt
 fresh:=fr
 st:=st
 lx:=λ_ _ h=>h
 nw:=λ_ _ h=>.inl h
 bd:=λn a h=>by obtain⟨c,e,_⟩:=st.at' n a h;exact(aD.mp e).1
 sz:=au _
 xt:=.refl
 sb:=λ_ h=>.inl h
def EZ.grow(r:EZ K B f l H S)(s:j8 K H F):EZ K B f l F S where
 fr:=λb o n h w=>s.at' b o n (r.fr b o n h w)
 hf:=λb h=>r.hf b (s.fr b h)
 tt:=s.tt r.tt
 fresh:=λa h=>r.fresh a (s.fr a h)
 st:={
  at':=λn a h=>by obtain⟨c,e,q⟩:=r.st.at' n a h;exact⟨c,e,q.mv (.of s) .refl λo no h=>s.at' _ o no h⟩
  has:=r.st.has
  na:=r.st.na
  inj:=r.st.inj
  tl:=λm b o k j=>by
   cases q:H b with
   |none=>exact r.fresh b q
   |some d=>
    by_cases g:NT d
    · have e:=s.at' b d g q;rw[k]at e;cases e;exact r.st.tl m b o q j
    · exact r.st.tl m b d q (.inr (Classical.byContradiction λw=>g λi e=>w ⟨i,e⟩))}
 lx:=r.lx
 nw:=r.nw
 bd:=r.bd
 sz:=r.sz
 xt:=r.xt.trans (.of s)
 sb:=r.sb
def RZ.grow(r:RZ K B f l H I E S)(s:j8 K H F):RZ K B f l F I E S:=
 ⟨r.toEZ.grow s,r.len,λi z e=>let⟨v,b,a⟩:=r.vr i z e;⟨v,b,a.mv (.of s) .refl⟩⟩
def abd:gH Z->Sl
 |some (.d x)=>.sh x
 |_=>.no
def iO(E:hU):Ev:=E.map abd
def RZ.rs(r:RZ K B f l H I E S):RS K f H f H I (iO E) where
 same:=.refl H
 tt:=r.tt
 fresh:=r.fresh
 sub:=λ_ h=>h
 pf:=r.fresh
 len:=by unfold iO;rw[ae];exact r.len
 sh:=λi d h=>by
  unfold iO at h;rw[aN]at h;obtain⟨z,c,b⟩:=aL.mp h;cases z with
  |none=>cases b
  |some z=>
   cases z with
   |d x=>cases b;exact r.vr i _ c
   |_=>cases b
 ow:=λi g h=>by
  unfold iO at h;rw[aN]at h;obtain⟨z,c,b⟩:=aL.mp h;cases z with
  |none=>cases b
  |some z=>cases z<;>cases b
 apart:=λi j g e a h _ _ _=>by
  unfold iO at h;rw[aN]at h;obtain⟨z,c,b⟩:=aL.mp h;cases z with
  |none=>cases b
  |some z=>cases z<;>cases b
def RZ.set(r:RZ K B f l H I E S)(c:i<E.length)(q:ka K f l H v z):RZ K B f l H (I.set i<|some v) (E.set i<|some z) S where
 toEZ:=r.toEZ
 len:=by rw[aY,aY];exact r.len
 vr:=λj e h=>by
  by_cases w:i=j
  ·subst w;rw[aw c]at h;cases h;exact⟨v,aw<|by rw[<-r.len];exact c,q⟩
  ·rw[ai w]at h;obtain⟨u,a,b⟩:=r.vr j e h;exact⟨u,by rw[ai w];exact a,b⟩
def lY(l:Lo)(n:Nat)(p:gr):Lo:=λm=>if m=n then some p else l m
def rD.none(b:rD K f l H S):l S.length=Option.none:=by
 cases h:l S.length with
 |none=>rfl
 |some a=>obtain⟨c,e,_⟩:=b.at' _ a h;simp_all
def rP(b:rD K f l H S)(p):Lx l (lY l S.length p):=λn a h=>by
 unfold lY;rw[ao];·exact h
 ·intro w;rw[w,b.none]at h;cases h
def vW{o}(a:H p=none):Xt f H (λb=>f b/\b≠p) (upd H p o):=λb u _ c e=>⟨⟨c,nD e a⟩,by rw[hA<|nD e a];exact e⟩
def EZ.new(r:EZ K B f l H S){o}(D:H p=none)(no:NT o)(J:lR K (λb=>f b/\b≠p) (lY l S.length p) (upd H p o) p c)(R:c≠.no):
    EZ K B (λb=>f b/\b≠p) (lY l S.length p) (upd H p o) (S++[c]):=by
 have s:j8 K H (upd H p o):=lO D;have x:Xt f H (λb=>f b/\b≠p) (upd H p o):=vW D;have g:=r.grow s;refine⟨g.fr,g.hf,g.tt,λa h=>⟨g.fresh a h,λw=>by rw[w,i8]at h;cases h⟩,⟨λn a h=>?_,λn G h w M=>?_,λn a h w=>?_,λm n a i j=>?_,λm b u v L=>?_⟩,λn a h=>rP r.st p n a<|r.lx n a h,λn a h=>?_,r.bd,by rw[aa];have:=r.sz;walk_at "l",r.xt.trans x,λb v=>r.sb b v.1⟩
 ·unfold lY at h;by_cases w:n=S.length
  ·rw[af w]at h;cases h;exact⟨c,by rw[w];simp,J⟩
  ·rw[ao w]at h;obtain⟨G,e,q⟩:=r.st.at' n a h;have N:a≠p:=λz=>q.w8.1 (by rw[z];exact D);exact⟨G,by rw[aX (aD.mp e).1];exact e,q.mv x (rP r.st p) λu _ h=>by rw[hA N];exact h⟩
 ·by_cases z:n<S.length
  ·rw[aX z]at h;obtain⟨a,i⟩:=r.st.has n G h w M;exact⟨a,rP r.st p n a i⟩
  ·have:n=S.length:=by
    have:=(aD.mp h).1;rw[aa,bH]at this
    lia
   exact⟨p,by unfold lY;rw[af this]⟩
 ·unfold lY at h;by_cases z:n=S.length;·rw[af z]at h;cases h;exact w.2 rfl
  ·rw[ao z]at h;exact r.st.na n a h w.1
 ·have C:∀k b,l k=some b->b≠p:=λk b P z=>by
   obtain⟨G,_,q⟩:=r.st.at' k b P;exact q.w8.1 (by rw[z];exact D)
  unfold lY at i j;by_cases z:m=S.length
  ·rw[af z]at i;cases i;by_cases y:n=S.length;·simp_all
   ·rw[ao y]at j;exact absurd rfl (C n _ j)
  ·rw[ao z]at i;by_cases y:n=S.length;·rw[af y]at j;cases j;exact absurd rfl (C m _ i)
   ·rw[ao y]at j;exact r.st.inj m n a i j
 ·have O:S[0]?=some .mk:=by
   cases S with
   |nil=>have e:some c=some Cell.mk:=m;cases e;exact J.elim
   |cons d r=>exact m
  by_cases z:b=p
  ·rw[z]at v;exact absurd L (J.Mp v)
  ·rw[hA z]at v;exact⟨r.st.tl O b u v L,z⟩
 ·unfold lY at h;by_cases z:n=S.length;·rw[af z]at h;cases h;exact .inr ⟨r.hf _ D,by rw[z];exact r.sz⟩
  ·rw[ao z]at h;exact r.nw n a h
def RZ.new(r:RZ K B f l H I E S){o}(a:H p=none)(no:NT o)(d:lR K (λb=>f b/\b≠p) (lY l S.length p) (upd H p o) p c)(j:c≠.no):
    RZ K B (λb=>f b/\b≠p) (lY l S.length p) (upd H p o) I E (S++[c]):=
 ⟨r.toEZ.new a no d j,r.len,λi z e=>let⟨v,h,g⟩:=r.vr i z e;⟨v,h,g.mv (vW a)<|rP r.st p⟩⟩
def EZ.write(r:EZ K B f l H S){n o}(g:l n=some a)(no:NT o)(N:∀q,o≠lJ a q)(p:lR K f l (upd H a o) a c)(O:c≠.no):EZ K B f l (upd H a o) (S.set n c)/\Xt f H f (upd H a o):=by
 obtain⟨P,M,j⟩:=r.st.at' n a g;have J:n<S.length:=(aD.mp M).1;have D:=r.st.na n a g;have x:Xt f H f (upd H a o):=λb u _ d e=>⟨d,by rw[hA λw=>D (by rw[<-w];exact d)];exact e⟩;refine⟨⟨λb u C h w=>?_,λb h=>?_,r.tt.upd j.w8.2.1 j.w8.2.2,λb h=>?_,⟨λm b h=>?_,λm i h w v=>?_,r.st.na,r.st.inj,λm b u d k=>?_⟩,r.lx,r.nw,r.bd,by rw[aY];exact r.sz,r.xt.trans x,r.sb⟩,x⟩
 ·have:=r.fr b u C h w;by_cases z:b=a
  ·subst z;rcases r.nw n b g with q|q;·exact absurd q (w n)
   ·rw[q.1]at h;cases h
  ·rw[hA z];exact this
 ·by_cases z:b=a;·rw[z,i8]at h;cases h
  ·rw[hA z]at h;exact r.hf b h
 ·by_cases z:b=a;·rw[z,i8]at h;cases h
  ·rw[hA z]at h;exact r.fresh b h
 ·by_cases z:n=m;·simp_all
  ·obtain⟨i,e,q⟩:=r.st.at' m b h;refine⟨i,by rw[ai z];exact e,q.mv x .refl λu _ L=>?_⟩;rw[hA λw=>z (r.st.inj n m a g (by rw[<-w];exact h))];exact L
 ·by_cases z:n=m;·subst z;exact⟨a,g⟩
  ·rw[ai z]at h;exact r.st.has m i h w v
 ·have G:S[0]?=some .mk:=by
   by_cases z:n=0
   ·subst z;rw[aw J]at m;cases m;exact p.elim
   ·rw[ai z]at m;exact m
  by_cases z:b=a
  ·rw[z]at d;exact absurd k (p.Mp d)
  ·rw[hA z]at d;exact r.st.tl G b u d k
def RZ.write(r:RZ K B f l H I E S){n}{o}(d:l n=some a)(no:NT o)(b:∀q,o≠lJ a q)(g:lR K f l (upd H a o) a c)(k:c≠.no):RZ K B f l (upd H a o) I E (S.set n c)/\Xt f H f (upd H a o):=
 let⟨e,x⟩:=r.toEZ.write d no b g k
 ⟨⟨e,r.len,λi z e=>let⟨v,j,h⟩:=r.vr i z e;⟨v,j,h.mv x .refl⟩⟩,x⟩
end
inductive RX(α:Type) where
 |ok(a:α)(S:ic)|ex(c:Addr)(ns:List Str)(ds:List D)(S:ic)|bad
abbrev iM:=hU->ic->RX Z
abbrev hL:=gi Z->ic->RX Z
noncomputable def RX.bind{d b:Type}:RX d->(d->ic->RX b)->RX b
 |.ok a S,f=>f a S
 |.ex c ns ds S,_=>.ex c ns ds S
 |.bad,_=>.bad
def kW{b:Type}(r:R b)(S:ic):RX b:=match r with
 |.ok a=>.ok a S
 |.ex c ns ds=>.ex c ns ds S
 |.bad=>.bad
def gP{f:Type}(K:gF)(B:Z0)(E:XK)(l:ji)(j:Lo)(H:Hp)(h:St)(i:hU)(r:RX f)(k:f->(gr->Prop)->Lo->Hp->ic->Prop):Prop:=match r with
 |.ok x e=>∀a b d,RZ K B a b d h i e->Xt l H a d->Lx j b->k x a b d e
 |.ex c ns ds e=>∀a b d g,EZ K B a b d e->XR K a d g ns ds->E (.ref c) g d
 |.bad=>False
section
variable{t A:Type}{K:gF}{B:Z0}{E:XK}{f e:ji}{i b:Lo}{H j:Hp}{l:St}{p:hU}{S s:ic}{k v:t->(gr->Prop)->Lo->Hp->ic->Prop}
def gP.up(h:gP K B E f i H l p r k)(x:Xt f H e j)(y:Lx i b):gP K B E e b j l p r k:=by
 cases r with
 |ok a S=>exact λd c n z m g=>h d c n z (x.trans m) (y.trans g)
 |_=>exact h
def gP.mono(h:gP K B E f i H l p r k)(m:∀{x e b j s},RZ K B e b j l p s->Xt f H e j->Lx i b->k x e b j s->v x e b j s):gP K B E f i H l p r v:=by
 cases r with
 |ok a S=>exact λd c o z n g=>m z n g (h d c o z n g)
 |_=>exact h
def gP.split{g:t->ic->RX A}{k}(h:gP K B E f i H l p (r.bind g) k):gP K B E f i H l p r (λx e b j s=>gP K B E e b j l p (g x s) k):=by
 cases r with
 |ok a S=>exact λn m o z d c=>gP.up h d c
 |_=>exact h
def gP.toAft(z:RZ K B f i H l p S)(h:gP K B E f i H l p (kW r S) k):Aft K f E H r (λx j=>k x f i j S):=by
 cases r with
 |ok a=>exact λg d=>h f i g (z.grow d) (.of d) .refl
 |ex c n o=>exact λm g d q=>h f i g m (z.toEZ.grow d) q
 |bad=>exact h
end
structure ZE(X:Cx)(E:XK)(e:hD)(f:iM):Prop where
 w_::
 o_:∃t:TE,PE X e t/\
 ∀{B al lo H σ ρ S} {Q:VK},RZ X.K B al lo H σ ρ S->gP X.K B E al lo H σ ρ (f ρ S) (λz iZ kf H' _=>∀v,ka X.K iZ kf H' v z->Q v H')->t σ H Q
abbrev _root_.nt:=hU->ic->RX gL
structure ZT(X:Cx)(E:XK)(e:hD)(f:nt):Prop where
 w_::
 o_:∃t:TT,PT X e t/\
 ∀{B al lo H σ ρ S} {Q:rE},RZ X.K B al lo H σ ρ S->gP X.K B E al lo H σ ρ (f ρ S) (λb _ _ H' _=>Q b H')->t σ H Q
abbrev _root_.mE:=hU->ic->RX (gi Z)
structure ZA(X:Cx)(E:XK)(es:jT)(f:mE):Prop where
 w_::
 o_:∃t:TA,PA X es t/\
 (∀{B al lo H σ ρ S} {Q:gi V->Hp->Prop},RZ X.K B al lo H σ ρ S->gP X.K B E al lo H σ ρ (f ρ S) (λzs iZ kf H' _=>∀vs,jw X.K iZ kf H' vs zs->Q vs H')->t σ H Q)/\∀ρ S zs S',f ρ S=.ok zs S'->zs.length=es.length
noncomputable def zD(f:hP):iM:=λa S=>(kW (f<|iO a) S).bind λd S=>.ok (.d d) S
def zB(f:kv):hU->ic->RX gL:=λa S=>kW (f<|iO a) S
noncomputable def zV(i:Nat):iM:=λa S=>match a[i]? with
 |some (some z)=>.ok z S
 |_=>.bad
def kI:gi Z->gH (gi D)
 |[]=>some []
 |.d x::r=>(kI r).map (x:: ·)
 |_::_=>none
theorem ub:∀{b} {a},kI b=some a->b=a.map .d
 |[],_,h=>by cases h;rfl
 |.d x::r,a,h=>by obtain⟨t,d,c⟩:=aL.mp (show(kI r).map (x:: ·)=some a from h);subst c;rw[aF,<-ub d]
 |.loc _::_,_,h=>by cases h
theorem uc:∀a:gi D,kI (a.map .d)=some a
 |[]=>rfl
 |d::r=>by show(kI<|r.map .d).map (d:: ·)=_;rw[uc r];rfl
def z1(g:D->R D)(a:iM):iM:=λb S=>(a b S).bind λx c=>match x with
 |.d x=>(kW (g x) c).bind λd S=>.ok (.d d) S
 |_=>.bad
def z2(g:D->D->R D)(a b:iM):iM:=λc S=>(a c S).bind λx f=>(b c f).bind λy e=>match x,y with
 |.d x,.d y=>(kW (g x y) e).bind λd S=>.ok (.d d) S
 |_,_=>.bad
def j6(t:D->R gL)(a:iM):hU->ic->RX gL:=λb S=>(a b S).bind λx c=>match x with
 |.d x=>kW (t x) c
 |_=>.bad
def A2(c:nt)(a b:iM):iM:=λd S=>(c d S).bind λk e=>if k=true then a d e else b d e
def rp(a b:nt):hU->ic->RX gL:=λc S=>(a c S).bind λk d=>if k=true then b c d else .ok false d
noncomputable def gA:hU->ic->RX (gi Z):=λ_ S=>.ok [] S
def gx(a:iM)(r:mE):hU->ic->RX (gi Z):=λb S=>(a b S).bind λx e=>(r b e).bind λc d=>.ok (x::c) d
def zF(g:gw)(a:mE):iM:=λb S=>(a b S).bind λc f=>match kI c with
 |some e=>(kW (g e) f).bind λd S=>.ok (.d d) S
 |none=>.bad
def zZ(F:hL)(a:mE):iM:=λb S=>(a b S).bind F
section
variable{X:Cx}{E:XK}{e a b c:hD}{j rest:jT}{pos:Pos}{f l C:iM}{A J:nt}{fs:mE}
def pX{f}(h:DE X E e f):ZE X E e (zD f):=by obtain⟨t,p,r⟩:=h;refine⟨t,p,λ{_ m i _ _ _ _ _} z h=>r z.rs ?_⟩;have:=gP.toAft z (gP.split h);exact Aft.mono this λ{_ n} d k v g=>k m i n (z.grow d) .refl .refl v g
def afY{f}(h:DT X E e f):ZT X E e (zB f):=by obtain⟨t,p,r⟩:=h;exact⟨t,p,λz h=>r z.rs<|gP.toAft z h⟩
def mQ(i)(hN:autoParam (X.N[i]?=some x) aZ0)(m:autoParam (pF X.env.scope x) aZ4)(n:autoParam (jl x) aZ1)
 (d:autoParam ((x==("__classdict__":gp))=false) aZ1):ZE X E (.Name x pos) (zV i):=by
  refine⟨_,pN hN m n d,λ{_ r k H _ _ _ _} z h=>?_⟩;unfold zV at h;split at h
  ·rename_i g q;obtain⟨v,p,o⟩:=z.vr i g q;exact⟨v,p,h r k H z .refl .refl v o⟩
  ·exact h.elim
def afz{o:Operator}{g}(N:kO X E (binaryOp o) g)(P:ZE X E a l)(O:ZE X E b C):ZE X E (.BinOp a o b pos) (z2 g l C):=by
 obtain⟨r,H,G⟩:=N;obtain⟨Y,M,K⟩:=P;obtain⟨W,L,I⟩:=O;refine⟨_,MS H M L,λs h=>K s<|gP.mono (gP.split h) λB V U S v D=>I B<|gP.mono (gP.split S) λ{_ n k _ _} d q p m u F=>?_⟩;split at m;·exact G d.fresh (ka.mv q p D) F (Aft.mono (gP.toAft d<|gP.split m) λ{_ T} z R w i=>R n k T (d.grow z) .refl .refl w i)
 ·exact m.elim
def afX{k:CmpOp}{g}(O:kO X E (compareOp k) g)(S:ZE X E a l)(R:ZE X E b C)(P:autoParam (behindInMarks k b=false) aZ7):ZT X E (.Compare a [k] [b] pos) (j6 tB<|z2 g l C):=by
 obtain⟨r,I,H⟩:=O;obtain⟨ta,N,L⟩:=S;obtain⟨tb,M,K⟩:=R;refine⟨_,Nd I N M P,λs h=>L s<|gP.mono (gP.split<|gP.split h) λD x1 Y V v F=>K D<|gP.mono (gP.split V) λ{_ o m _ _} d B z n u G=>?_⟩;split at n
 ·refine H d.fresh (ka.mv B z F) G (Aft.mono (gP.toAft d<|gP.split n) λ{_ W} p U w i=>?_);have T:=U o m W (d.grow p) .refl .refl;exact xS i (Aft.mono (gP.toAft (d.grow p) T) λ_ q=>q)
 ·exact n.elim
structure ZW(X:Cx)(E:XK)(e:hD)(f:nt):Prop where
 w_::
 o_:∃t:TT,PW X e t/\
 ∀{B al lo H σ ρ S} {Q:rE},RZ X.K B al lo H σ ρ S->gP X.K B E al lo H σ ρ (f ρ S) (λb _ _ H' _=>Q b H')->t σ H Q
def ZW.zt(h:ZW X E e A):ZT X E e A:=let⟨t,p,r⟩:=h;⟨t,p.pt,r⟩
def af0(h:ZT X E a A):ZW X E (.BoolOp .And [a] pos) A:=let⟨t,p,r⟩:=h;⟨t,Ng p,r⟩
def Pl(p:ZT X E a A)(o:ZW X E (.BoolOp .And (b::rest) pos) J):ZW X E (.BoolOp .And (a::b::rest) pos) (rp A J):=by
 obtain⟨z,n,k⟩:=p;obtain⟨v,m,B⟩:=o;refine⟨_,Nf n m,λs h=>k s<|gP.mono (gP.split h) λ{c g d r _} i _ _ q=>?_⟩;cases c with
 |true=>grind
 |false=>exact qQ (q g d r i .refl .refl)
def aft(m:ZT X E c A)(o:ZE X E a l)(n:ZE X E b C):ZE X E (.IfExp c a b pos) (A2 A l C):=by
 obtain⟨p,g,d⟩:=m;obtain⟨r,k,B⟩:=o;obtain⟨q,i,z⟩:=n;refine⟨_,MQ g k i,λs h=>d s<|gP.mono (gP.split h) λ{c _ _ _ _} v _ _ D=>?_⟩;cases c with
 |true=>grind
 |false=>grind
def afu{g}(N:Bg X E g)(P:ZE X E a l)(O:ZE X E b C)(M:autoParam (BG b) aZ8):ZE X E (.Subscript a b pos) (z2 g l C):=by
 obtain⟨r,G,F⟩:=N;obtain⟨Y,L,I⟩:=P;obtain⟨W,K,H⟩:=O;refine⟨_,MR G L K M,λs h=>I s<|gP.mono (gP.split h) λz V U S v B=>H z<|gP.mono (gP.split S) λ{_ n k _ _} d p o m u D=>?_⟩;split at m;·exact F d.fresh (ka.mv p o B) D (Aft.mono (gP.toAft d<|gP.split m) λ{_ T} q R w i=>R n k T (d.grow q) .refl .refl w i)
 ·exact m.elim
def Pe:ZA X E [] gA:=⟨_,tE,λ{_ g d H _ _ _ _} s h=>h g d H s .refl .refl _ .nil,λ_ _ _ _ h=>by cases h;rfl⟩
def Pd(P:ZE X E e l)(O:ZA X E j fs)(N:autoParam (X.se e j) aZ0):ZA X E (e::j) (gx l fs):=by
 obtain⟨ta,M,K⟩:=P;obtain⟨tb,L,I,lb⟩:=O;refine⟨_,tD M L N,λ{_ _ _ _ _ d S _} s h=>K s<|gP.mono (gP.split h) λ{x _ _ _ n} F Y W T v G=>I F<|gP.mono (gP.split T) λ{_ k i V m} D B z R u H=>?_,λd S r U h=>?_⟩;·exact R k i V D .refl .refl _ (.cons (G.mv B z) H)
 ·unfold gx at h;cases q:l d S with
  |ok x n=>
   rw[q]at h;have g:(fs d n).bind (λo m=>.ok (x::o) m)=RX.ok r U:=h;cases p:fs d n with
   |ok o m=>
    rw[p]at g;cases g
    grind
   |_=>rw[p]at g;cases g
  |_=>rw[q]at h;cases h
def afC{q}(G:ZA X E j fs):ZE X E (.Tuple j q pos) (zF gY fs):=by
 obtain⟨M,F,D,_⟩:=G;refine⟨_,MU F,λs h=>D s<|gP.mono (gP.split h) λ{_ o k _ _} i q L n v B=>?_⟩;split at n
 ·rename_i I e;have:=ub e;subst this;have d:=B.toD;have g:=Aft.mono (gP.toAft i<|gP.split n) λ{_ K} r H=>H o k K (i.grow r) .refl .refl;unfold gY at g;by_cases z:I.length<=sizeLine
  ·rw[af z]at g;exact⟨by rw[d.length];exact z,λp m=>g _ (lO m) _<|d.Gq m<|i.fresh p m⟩
  ·rw[ao z]at g;exact g.elim
 ·exact n.elim
variable{x:gp}{p:Pos}
def Pf{q:String}{g:gw}(O:og X E (.builtin q) g)(M:Gl X x)(L:X.mg x=none)(I:bootBuiltins x=some (.builtin q))(P:ZA X E (e::j) fs)(K:autoParam (x≠"__name__") aZ1)(m:autoParam (jl x) aZ1)
    (N:autoParam (X.se e j) aZ0)(k:autoParam (X.bk pos j) aZ0):ZE X E (.Call (.Name x p) (e::j) [] pos) (zF g fs):=by
 obtain⟨r,F,D⟩:=O;obtain⟨V,H,G,_⟩:=P;refine⟨_,Fd F M L I H K m N k,λs h=>G s<|gP.mono (gP.split h) λ{_ o i _ _} d U T n v B=>?_⟩;split at n
 ·rename_i W e;have:=ub e;subst this;exact D d.fresh B.toD (Aft.mono (gP.toAft d<|gP.split n) λ{_ S} z R=>R o i S (d.grow z) .refl .refl)
 ·exact n.elim
variable{k n:Nat}{I:iH}{F:gw}
def afp(G:oQ X.prog X.w X.K X.mg X.base (iu X.prog X.w) k x I<|iJ n X.K F)(hr:iX k X.A)(hg:Gl X x)(hx:Passes (iu X.prog X.w) X E)(hn:(e::j).length=n)(ha:ZA X E (e::j) fs)(L:autoParam (jl x) aZ1)
    (he:autoParam (X.se e j) aZ0)(K:autoParam (X.bk pos j) aZ0):ZE X E (.Call (.Name x p) (e::j) [] pos) (zF F fs):=by
 obtain⟨ta,pa,ra,lb⟩:=ha;refine⟨_,Ff G hr hg hx pa L he K,λ{B al lo H U O S Q} s h=>ra s ?_⟩;unfold zF at h;cases q:fs O S with
 |bad=>rw[q]at h;exact h.elim
 |ex c ns o R=>rw[q]at h;exact h
 |ok V R=>
  rw[q]at h;intro i r H1 m Y W vs rv;have P:=lb _ _ _ _ q;have M:gP X.K B E al lo H U O (match kI V with|some o=>(kW (F o) R).bind λd S=>.ok (.d d) S|none=>.bad) (λz N D T _=>∀v,ka X.K N D T v z->Q v T):=h;split at M
  ·rename_i o e;have:=ub e;subst this;have g:=rv.toD;rw[aP];exact⟨by rw[g.length];rw[ae]at P;rw[P];exact hn,m.tt,i,o,m.fresh,g,Aft.mono (gP.toAft m (gP.split (gP.up M Y W))) λ{_ H3} s3 h3=>h3 i r H3 (m.grow s3) .refl .refl⟩
  ·exact M.elim
def Pp(K:gF)(B:Z0)(E:XK)(r:RX Z)(Q:VK):Prop:=match r with
 |.ok z i=>∀d g h v,EZ K B d g h i->ka K d g h v z->Q v h
 |.ex c ns ds i=>∀d g h m,EZ K B d g h i->XR K d h m ns ds->E (.ref c) m h
 |.bad=>False
def jv(n:Nat)(K:gF)(F:hL):Sp:=λi H Q E=>i.length=n/\lA K H/\∃d g h S,(∀a,H a=none->d a)/\rD K d g H S/\jw K d g H i h/\Pp K ⟨H,d,g,S.length⟩ E (F h S) Q
def EZ.trans{d}(r:EZ K B al d H S)(q:EZ K ⟨H,al,d,S.length⟩ iZ kf H' S'):EZ K B iZ kf H' S' where
 fr:=λb o n h w=>q.fr b o n (r.fr b o n h w) λm g=>by
  rcases r.nw m b g with z|z;·exact w m z
  ·rw[z.1]at h;cases h
 hf:=λb h=>r.hf b (q.hf b h)
 tt:=q.tt
 fresh:=q.fresh
 st:=q.st
 lx:=λn a h=>q.lx n a (r.lx n a h)
 nw:=λn a h=>by
  rcases q.nw n a h with z|z;·exact r.nw n a z
  ·exact .inr ⟨r.hf a z.1,av r.sz z.2⟩
 bd:=r.bd
 sz:=av r.sz q.sz
 xt:=r.xt.trans q.xt
 sb:=λa h=>by
  rcases q.sb a h with z|z;·exact r.sb a z
  ·exact .inr (r.hf a z)
def RZ.after{d}(r:RZ K B al d H σ ρ S)(q:EZ K ⟨H,al,d,S.length⟩ iZ kf H' S'):RZ K B iZ kf H' σ ρ S':=
 ⟨r.toEZ.trans q,r.len,λi z e=>let⟨v,h,g⟩:=r.vr i z e;⟨v,h,g.mv q.xt q.lx⟩⟩
variable{F:hL}
def afq(G:oQ X.prog X.w X.K X.mg X.base (iu X.prog X.w) k x I<|jv n X.K F)(hr:iX k X.A)(hg:Gl X x)(hx:Passes (iu X.prog X.w) X E)(hn:(e::j).length=n)(ha:ZA X E (e::j) fs)(P:autoParam (jl x) aZ1)
 (he:autoParam (X.se e j) aZ0)(O:autoParam (X.bk pos j) aZ0):ZE X E (.Call (.Name x p) (e::j) [] pos) (zZ F fs):=by
  obtain⟨ta,pa,ra,lb⟩:=ha;refine⟨_,Ff G hr hg hx pa P he O,λ{B al lo H σ V S Q} s h=>ra s ?_⟩;unfold zZ at h;cases q:fs V S with
  |bad=>rw[q]at h;exact h.elim
  |ex c ns ds r=>rw[q]at h;exact h
  |ok D r=>
   rw[q]at h;intro R M H1 m x1 y1 vs W;have ll:=lb _ _ _ _ q;have i:gP X.K B E al lo H σ V (F D r) (λz T N Y _=>∀v,ka X.K T N Y v z->Q v Y):=h;rw[aP];refine⟨by rw[W.length,ll];exact hn,m.tt,R,M,D,r,m.fresh,m.st,W,?_⟩;cases L:F D r with
   |bad=>rw[L]at i;exact i.elim
   |ex c ns ds S2=>rw[L]at i;exact λg d U dx o xr=>i g d U dx (m.toEZ.trans o) xr
   |ok z S2=>rw[L]at i;exact λg d U v o K=>i g d U (m.after o) (x1.trans o.xt) (y1.trans o.lx) v K
end
inductive jK where
 |nx(ρ:hU)(S:ic)|rt(z:Z)(S:ic)|bk(ρ:hU)(S:ic)|ct(ρ:hU)(S:ic)|ex(c:Addr)(ns:List Str)(ds:List D)(S:ic)|bad
abbrev gZ:=hU->ic->jK
noncomputable def toZ{b:Type}(r:RX b)(k:b->ic->jK):jK:=match r with
 |.ok a S=>k a S
 |.ex c ns ds S=>.ex c ns ds S
 |.bad=>.bad
def lP(r:jK)(k:gZ):jK:=match r with
 |.nx a S=>k a S
 |r=>r
def jm(K:gF)(B:Z0)(E:XK)(D:Ends)(g:ji)(H:Hp):jK->Prop
 |.nx f S=>∀a b d e,Xt g H a d->RZ K B a b d e f S->D.nx e d
 |.bk f S=>∀a b d e,Xt g H a d->RZ K B a b d e f S->D.bk e d
 |.ct f S=>∀a b d e,Xt g H a d->RZ K B a b d e f S->D.ct e d
 |.rt z S=>∀a b d v,EZ K B a b d S->ka K a b d v z->D.rt v d
 |.ex c ns ds S=>∀a b d h,EZ K B a b d S->XR K a d h ns ds->E (.ref c) h d
 |.bad=>False
section
variable{K:gF}{B:Z0}{E:XK}{D:Ends}{e b:ji}{m:Lo}{H f:Hp}{s:jK}{i:St}{j:hU}
def jm.ext(h:jm K B E D e H s)(x:Xt e H b f):jm K B E D b f s:=by
 cases s with
 |rt d S=>exact h
 |ex c n o S=>exact h
 |bad=>exact h
 |_=>exact λa l k g y r=>h a l k g (x.trans y) r
def jm.nE{k}(h:jm K B E D e H<|toZ r k):gP K B E e m H i j r (λx b d f l=>jm K B E D b f<|k x l):=by
 cases r with
 |ok x S=>exact λg c p o a n=>jm.ext h a
 |_=>exact h
end
structure ZS(X:Cx)(E:XK)(b:Nat)(st:Stmt)(g:gZ):Prop where
 w_::
 o_:∃t:TS,PS X st t/\
 ∀{B:Z0} {al lo H σ ρ S} {D:Ends},B.n=b->RZ X.K B al lo H σ ρ S->jm X.K B E D al H (g ρ S)->t D σ H
structure nN(X:Cx)(E:XK)(b:Nat)(st:gi Stmt)(g:gZ):Prop where
 w_::
 o_:∃t:TS,md X st t/\
 ∀{B:Z0} {al lo H σ ρ S} {D:Ends},B.n=b->RZ X.K B al lo H σ ρ S->jm X.K B E D al H (g ρ S)->t D σ H
def j5:gZ:=.nx
def gG(a b:gZ):gZ:=λc S=>lP (a c S) b
def jD(f:iM):gZ:=λa S=>toZ (f a S) λ_ b=>.nx a b
def jE(f:iM):gZ:=λa S=>toZ (f a S) .rt
def iy(i:Nat)(f:iM):gZ:=λa S=>toZ (f a S) λz b=>if i<a.length then .nx (a.set i<|some z) b else .bad
def jg(c:nt)(a b:gZ):gZ:=λd S=>toZ (c d S) λk e=>if k=true then a d e else b d e
section
variable{X:Cx}{E:XK}{b:Nat}{l:Stmt}{rest C A:gi Stmt}{g u F a:gZ}{e c:hD}{f:iM}{j:nt}{pos:Pos}
def afV:nN X E b [] j5:=⟨_,Na,λ{_ k i H d _ _ _} m s h=>h k i H d .refl s⟩
def afW(h:ZS X E b l g):nN X E b [l] g:=let⟨t,p,r⟩:=h;⟨t,Ap p,r⟩
def afU(I:ZS X E b l g)(G:nN X E b rest u):nN X E b (l::rest) (gG g u):=by
 obtain⟨M,v,p⟩:=I;obtain⟨L,r,o⟩:=G;refine⟨_,M9 v r,λ{B O N H K m S D} d s h=>p d s ?_⟩;unfold gG at h;cases q:g m S with
 |nx k P=>rw[q]at h;exact λJ z R i x n=>o d n (jm.ext h x)
 |_=>rw[q]at h;exact h
def afI:ZS X E b (.Break pos) .bk:=⟨_,aaZ,λ{_ k i H d _ _ _} m s h=>h k i H d .refl s⟩
def afJ:ZS X E b (.Continue pos) .ct:=⟨_,aa0,λ{_ k i H d _ _ _} m s h=>h k i H d .refl s⟩
def afK(o:ZE X E e f)(n:autoParam (swapsWith e none pos.line X.env=pure false) aZ0):ZS X E b (.Expr e pos) (jD f):=by obtain⟨t,p,r⟩:=o;exact⟨_,Fm p n,λ{_ _ _ _ k _ _ _} H s h=>r s<|gP.mono (jm.nE h) λ{_ i d z _} m D B q v G=>q i d z k .refl m⟩
def afQ(n:ZE X E e f):ZS X E b (.Return (some e) pos) (jE f):=by obtain⟨t,p,r⟩:=n;exact⟨_,M6 p,λD s h=>r s<|gP.mono (jm.nE h) λ{_ i d q _} k B z o v m=>o i d q v k.toEZ m⟩
def afR(i)(hN:X.N.Nodup)(D:X.N[i]?=some x)(z:Loc X.env.scope x)(G:ZE X E e f)(B:autoParam (swapsWith e (some<|.Name x pos') pos.line X.env=pure false) aZ0)(hf:autoParam (X.hf x) aZ2):
    ZS X E b (.Assign [.Name x pos'] e pos) (iy i f):=by
 obtain⟨t,p,r⟩:=G;refine⟨_,Fv hN D z p B hf,λ{_ _ _ _ _ n _ _} K s h=>r s<|gP.mono (jm.nE h) λ{_ m k H _} o J I d v q=>?_⟩;by_cases w:i<n.length
 ·simp only[w,b8]at d;exact d m k H _ .refl (o.set w q)
 ·simp only[w,cL]at d;exact d.elim
def afO(p:ZT X E c j)(q:nN X E b C F)(d:nN X E b A a):ZS X E b (.If c C A pos) (jg j F a):=by
 obtain⟨z,m,i⟩:=p;obtain⟨D,o,I⟩:=q;obtain⟨B,n,H⟩:=d;refine⟨_,M5 m o n,λd s h=>i s<|gP.mono (jm.nE h) λ{k _ _ _ _} G v r J=>?_⟩;cases k with
 |true=>grind
 |false=>grind
def m4(r:jK)(k:gZ):jK:=match r with
 |.nx d S=>k d S
 |.ct d S=>k d S
 |.bk d S=>.nx d S
 |r=>r
def mx(c:nt)(b:gZ):Nat->gZ
 |0,_,_=>.bad
 |n+1,d,S=>toZ (c d S) λk h=>if k=true then m4 (b d h) (mx c b n)else .nx d h
def Gr{K B E q H D k}(h:jm K B E D q H<|m4 r k)
 (hN:∀d m n i o v,Xt q H d n->RZ K B d m n i o v->jm K B E D d n (k o v)->N i n):jm K B E {D with nx:=N,ct:=N,bk:=D.nx} q H r:=by
  cases r with
  |nx p S=>exact λd m n i x s=>hN d m n i p S x s (jm.ext h x)
  |ct p S=>exact λd m n i x s=>hN d m n i p S x s (jm.ext h x)
  |_=>exact h
def afT(n)(hp:PassesOwn (model X.prog X.w) X.A X.env X.xe)(hc:ZT X E c j)(J:nN X E b A a):ZS X E b (.While c A [] pos) (mx j a n):=by
 obtain⟨tc,Y,V⟩:=hc;obtain⟨tb,Z,W⟩:=J;refine⟨_,M8 hp Y Z,λ{B al lo _ _ R S D} J s h=>⟨λm p M=>∃i o d r,RZ X.K B i o M p d r/\jm X.K B E D i M (mx j a m d r),⟨n,al,lo,R,S,s,h⟩,?_⟩⟩
 rintro m p M ⟨i,o,d,r,T,P⟩
 cases m with
 |zero=>exact P.elim
 |succ m=>
  refine V T (gP.mono (jm.nE P) λ{k K H H2 _} N x2 y2 O=>?_);cases k with
  |true=>refine rN ⟨λq v=>∃i o d r,RZ X.K B i o v q d r/\jm X.K B E D i v (mx j a m d r),λq v z=>⟨m,bL m,z⟩,W J N<|Gr (k:=mx j a m) O λL I v q G S' _ U h'=>⟨L,I,G,S',U,h'⟩⟩
  |false=>exact qQ (O K H H2 p .refl N)
end
abbrev _root_.sN:=D->hU->gH hU
structure ZG(X:Cx)(tg:hD)(a:sN):Prop where
 w_::
 o_:∃g:TG,PG X tg g/\
 ∀{B al lo H σ ρ S v d} {Q:St->Hp->Prop},RZ X.K B al lo H σ ρ S->Rep X.K al H v d->(∃jr,a d ρ=some jr/\∀lr,RZ X.K B al lo H lr jr S->Q lr H)->g v σ H Q
abbrev _root_.BN:=gi D->hU->gH hU
structure yM(X:Cx)(tg:jT)(a:BN):Prop where
 w_::
 o_:∃g:sL,t5 X tg g/\
 ∀{B al lo H σ ρ S v d} {Q:St->Hp->Prop},RZ X.K B al lo H σ ρ S->gR X.K al H v d->(∃jr,a d ρ=some jr/\∀lr,RZ X.K B al lo H lr jr S->Q lr H)->g v σ H Q
def hV(i:Nat):D->hU->gH hU:=λd a=>if i<a.length then some (a.set i<|ig d)else none
def hN:gi D->hU->gH hU:=λb a=>match b with
 |[]=>some a
 |_=>none
def hC(a:sN)(b:BN):gi D->hU->gH hU:=λe c=>match e with
 |d::r=>(a d c).bind (b r)
 |[]=>none
def hT(n:Nat)(a:BN):D->hU->gH hU:=λd b=>match d with
 |.tup ds=>if ds.length=n then a ds b else none
 |_=>none
def aeE{b:Type}(r:gH b)(k:b->jK):jK:=match r with
 |some a=>k a
 |none=>.bad
def lF(a:sN)(b:gZ):gi D->gZ
 |[],e,S=>.nx e S
 |d::r,e,S=>aeE (a d e) λc=>m4 (b c S) (lF a b r)
section
variable{X:Cx}{E:XK}{b:Nat}{r c:hD}{l:gi Stmt}{p:kE}{a:sN}{j:gZ}{pos:Pos}{e:hD}{f:iM}
def AZ(p:kE)(a:sN)(j:gZ):gZ:=λd S=>toZ (kW (p<|iO d) S) λg h=>lF a j g d h
def Hx(i)(hN:X.N.Nodup)(n:X.N[i]?=some x)(m:Loc X.env.scope x)(hf:autoParam (X.hf x) aZ2):ZG X (.Name x pos) (hV i):=by
 refine⟨_,MV hN n m hf,λ{_ _ _ _ _ g _ _ _ _} s k h=>?_⟩;obtain⟨d,e,q⟩:=h;unfold hV at e;by_cases z:i<g.length
 ·rw[af z]at e;cases e;exact q _ (s.set z k)
 ·simp_all
def afF:yM X [] hN:=by
 refine⟨_,MY,λs g h=>?_⟩;obtain⟨d,e,q⟩:=h;cases g with
 |nil=>cases e;exact⟨rfl,q _ s⟩
 |cons _ _=>cases e
def Ph{u}(H:ZG X e a)(G:yM X es u)(F:autoParam ((assignEach (e::es) X.env).map (·.2)=assign e X.env::(assignEach es X.env).map (·.2)) aZ0):yM X (e::es) (hC a u):=by
 obtain⟨L,C,z⟩:=H;obtain⟨K,B,v⟩:=G;refine⟨_,MX C B F,λs m h=>?_⟩;obtain⟨g,e,q⟩:=h;cases m with
 |nil=>cases e
 |cons o n=>obtain⟨d,J,I⟩:=bp.mp e;exact⟨_,_,rfl,z s o ⟨d,J,λi k=>v k n ⟨g,I,q⟩⟩⟩
def afE{k n u}(G:X.calm=true)(h:yM X es u)(F:autoParam ((assignEach es X.env).length=n) aZ0)(i:autoParam ((assignEach es X.env).findIdx? (·.1)=none) aZ0):ZG X (.Tuple es k pos) (hT n u):=by
 obtain⟨K,C,B⟩:=h;refine⟨_,MW G C F i,λ{_ _ _ _ _ _ _ _ d _} s v h=>?_⟩;obtain⟨g,e,q⟩:=h;unfold hT at e;cases d with
 |tup J=>
  by_cases z:J.length=n
  ·simp only[z,b8]at e;obtain⟨a,o,I,H,m⟩:=v.sk;exact⟨a,o,I,H,by rw[m.length];exact z,B s m ⟨g,e,q⟩⟩
  ·simp_all
 |_=>cases e
def afL(hp:PassesOwn (model X.prog X.w) X.A X.env X.xe)(hc:X.calm=true)(O:DI X E r c p)(hg:ZG X r a)(V:nN X E b l j)(hs:autoParam (∀x,foldedSetIterable c X.env x=pure x) aZ5):
    ZS X E b (.For r c l [] pos) (AZ p a j):=by
 obtain⟨wi,pi,ri⟩:=O;obtain⟨g,pg,rg⟩:=hg;obtain⟨tb,pb,rb⟩:=V;refine⟨_,Fu hp hc pi pg pb hs,λ{B al lo _ _ ρ S D} V s h=>ri s.rs<|Aft.mono (gP.toAft (k:=λo H N I Z=>jm X.K B E D H I<|lF a j o ρ Z) s<|jm.nE h) λ{o _} s1 h1 J wk=>?_⟩;refine⟨λi m C L=>∃d v n K,RZ X.K B d v L C n K/\Wk X.K d L J o/\jm X.K B E D d L (lF a j (o.drop i) n K)/\m=o.length - i,⟨_,al,lo,ρ,S,s.grow s1,wk,h1,rfl⟩,?_⟩
 rintro i m C L ⟨d,v,n,K,T,M,z,rfl⟩
 obtain⟨w1,w2⟩:=M d L .refl T.fresh;by_cases O:i<o.length
 ·right;have ed:o[i]?=some o[i]:=bw O;obtain⟨go,yl⟩:=w1 i _ ed;rw[b9 O]at z;refine⟨go,λF I=>∃d v n K,RZ X.K B d v I F n K/\Wk X.K d I J o/\jm X.K B E D d I (lF a j (o.drop<|i+1) n K),λF I ⟨Y,U,G,S3,z1,z2,z3⟩=>⟨o.length - (i+1),by grind,Y,U,G,S3,z1,z2,z3,rfl⟩,λx H3 y=>?_⟩;obtain⟨rfl,rx⟩:=yl x H3 y;unfold lF at z;cases q:a o[i] n with
  |some G=>rw[q]at z;refine rg T rx ⟨G,q,λσ3 s3=>rb V s3<|Gr (k:=lF a j<|o.drop<|i+1) z λH N I F P Z x' s' h'=>⟨H,N,P,Z,s',λW H4 x4=>M W H4<|x'.trans x4,h'⟩⟩
  |none=>rw[q]at z;exact z.elim
 ·left;have e:o.drop i=[]:=bX (by simp_all);rw[e]at z;exact⟨w2 i<|by simp_all,z d v L C .refl T⟩
end
def ij(n:Nat)(a:gi Z):hU:=a.map some++List.replicate (n - a.length) none
noncomputable def g7:jK->RX Z
 |.rt z S=>.ok z S
 |.nx _ S=>.ok (.d .non) S
 |.ex c ns ds S=>.ex c ns ds S
 |_=>.bad
def N2{b:ji}{c}(e:lA K H)(fr:∀a,H a=none->b a)(f:rD K b c H S)(r:jw K b c H vs zs):RZ K ⟨H,b,c,S.length⟩ b c H (L2.start N vs) (ij N.length zs) S where
 toEZ:=EZ.start (zs:=zs) e fr f
 len:=by unfold L2.start ij;simp[r.length]
 vr:=λi z h=>by
  unfold ij at h;by_cases d:i<zs.length
  ·rw[aX<|by simpa using d,aN]at h;cases q:zs[i]? with
   |none=>rw[q]at h;cases h
   |some y=>rw[q]at h;cases h;obtain⟨v,j,g⟩:=r.get q;refine⟨v,?_,g⟩;unfold L2.start;rw[aX<|by simpa [r.length]using d,aN,j];rfl
  ·rw[bh<|by simpa using d,bM]at h;split at h<;>cases h
section
variable{P:iQ}{w:iK}{K:gF}{l:iY}{i:gU}
def TN{x:gp}{e:Stmt}{f:gr}{D:kP}{N o:iH}{k:Nat}{g:Nat->gZ}(F:mD K x x e f D)(S:pz N o<|iz e)
    (j:∀(b:Nat) (d:gE) (A:jd) (a:kH) (s:gQ) (H:Hp) (E:XK),iX k (iL (iu P w) P w K l i N x (iz e) f d A a s H E).A->nN (iL (iu P w) P w K l i N x (iz e) f d A a s H E) E b (kx e) (g b)):
    kX P w K l i (k+1) f D o (jv o.length K λn S=>g7<|g S.length (ij N.length n) S):=by
 refine F.MC S (λJ H Q E h=>h.1) (λd A a s H J Q E T h=>?_);obtain⟨hl,L,U,R,n,m,fr,e,O,h⟩:=h;obtain⟨t,p,r⟩:=j m.length d A a s H E T;dsimp only at h;refine⟨t,p,r (B:=⟨H,U,R,m.length⟩) rfl (N2 L fr e O) ?_⟩;cases q:g m.length (ij N.length n) m with
 |nx Y G=>rw[q]at h;exact λC v V I _ M=>h C v V .non M.toEZ .non
 |rt z G=>rw[q]at h;exact h
 |ex c Z es G=>rw[q]at h;exact h
 |_=>rw[q]at h;exact h.elim
def clo:RX Z->R D
 |.ok (.d x) _=>.ok x
 |.ex c ns ds _=>.ex c ns ds
 |_=>.bad
def adB:rD K al (λ_=>none) H []:=
 {at':=λ_ _ h=>(by cases h),has:=λn c h _ _=>(by simp at h),na:=λ_ _ h=>(by cases h),inj:=λ_ _ _ h=>(by cases h),tl:=λh=>(by simp at h)}
def adw{n}{F:hL}(h:iJ n K (λm=>clo<|F (m.map .d) []) vs H Q E):jv n K F vs H Q E:=by
 obtain⟨G,D,p,m,fr,r,h⟩:=h;refine⟨G,D,p,λ_=>none,m.map .d,[],fr,adB,.ofD r,?_⟩;have j:∀{f g k B},EZ K ⟨H,p,λ_=>none,([]:ic).length⟩ f g k B->j8 K H k:=λe=>⟨λb o no I=>e.fr b o no I λ_=>nofun,e.hf,λ_=>e.tt⟩;have sub:∀{f g k B},EZ K ⟨H,p,λ_=>none,([]:ic).length⟩ f g k B->∀a,f a->p a:=λe a J=>(e.sb a J).elim id (fr a);dsimp only at h;cases q:F (m.map .d) []with
 |bad=>rw[q]at h;exact h.elim
 |ex c N O M=>rw[q]at h;exact λf g k L e C=>h L k (j e) (C.mv<|.sub<|sub e)
 |ok z M=>
  rw[q]at h;cases z with
  |d x=>exact λf g k v e r=>h k (j e) v (Rep.mv (.sub<|sub e) r)
  |_=>exact h.elim
def j7.close{k n}(h:kX P w K l i k f fd ps<|jv n K F):kX P w K l i k f fd ps (iJ n K<|λa=>clo<|F (a.map .d) []):=
 h.imp λb H Q E q=>adw q
def leave(r:RT)(S:ic):jK:=match r with
 |.rt d=>.rt (.d d) S
 |.ex c ns ds=>.ex c ns ds S
 |_=>.bad
variable{X:Cx}{E:XK}{b:Nat}{j:Stmt}{e:hD}{pos:Pos}
def afP{g}(h:DS X E j g):ZS X E b j (λa S=>leave (g<|iO a) S):=by
 obtain⟨t,p,r⟩:=h;refine⟨t,p,λ{_ n m _ _ a _ _} D s h=>r s.rs ?_⟩;cases q:g (iO a)with
 |rt d=>rw[q]at h;exact λv k f z=>h n m k v (s.toEZ.grow f) z
 |ex c C F=>rw[q]at h;exact λB k f o=>h n m k B (s.toEZ.grow f) o
 |_=>rw[q]at h;exact h.elim
def tW(d:kE):iM:=λc S=>(kW (d<|iO c) S).bind λf a=>.ok (.loc a.length) (a++[.li<|f.map .d])
def afy(m:DN X E e fn):ZE X E e (tW fn):=by obtain⟨t,p,r⟩:=m;refine⟨t,p,λ{_ v k _ _ _ S _} s h=>r s.rs<|Aft.mono (gP.toAft s<|gP.split h) λ{q z} f o p d c g=>?_⟩;have a:=s.grow f;have n:lR X.K (λb=>v b/\b≠p) (lY k S.length p) (upd z p<|.lst d) p (.li<|q.map .d):=⟨d,i8,jw.mv (vW c) (rP a.st p)<|.ofD g⟩;exact o _ _ _ (a.new c o4 n nofun) (vW c) (rP a.st p) _ ⟨p,by unfold lY;rw[af rfl],rfl⟩
end
section
variable{X:Cx}{E:XK}{b:Nat}{e:hD}{pos:Pos}{f:iM}
def ma(i:Nat)(f:iM):gZ:=λa S=>match a[i]? with
 |some (some (.loc n))=>(match S[n]? with
  |some (.li _)=>toZ (f a S) λz d=>(match d[n]? with
   |some (.li c)=>if c.length<sizeLine then .nx a (d.set n<|.li<|c++[z])else .bad
   |_=>.bad)
  |_=>.bad)
 |_=>.bad
def RZ.cell{d}(s:RZ K B al d H σ ρ S){n}(g:d n=some a)(h:S[n]?=some c):lR K al d H a c:=by obtain⟨k,j,i⟩:=s.st.at' n a g;simp_all
def afH(i){d:Pos}(pa:PlainAttrs "list")(B:Slot "list" "append" "list.append")(H:typeOf (.builtin "list.append")=pure (.type "method_descriptor"))(he:ZE X E e f)
 (hN:autoParam (X.N[i]?=some x) aZ0)(hv:autoParam (pF X.env.scope x) aZ4)(hd:autoParam (jl x) aZ1)
 (J:autoParam ((x==("__classdict__":gp))=false) aZ1)
 (l:autoParam (attributeBase (.Name x oE) "append" X.env (eval (.Name x oE) X.env)=eval (.Name x oE) X.env) aZ0)
 (C:autoParam (((backTo lU (starEach [e] X.env)).all (λx=>!x.1)&&(backToKw lU (keywordEach [] X.env)).all (λx=>x.1.isSome)
 &&decide ([e].length+([]:gi Keyword).length+(if([]:gi Keyword).isEmpty then 0 else 1)<30))=true) aZ0)
 (k:autoParam ((d.endLine==lU.line)=true) aZ0)(M:autoParam (X.se e []) aZ0)(g:autoParam ((backTo lU<|starEach [] X.env).any (·.1)=false) aZ0)
 (I:autoParam (swapsWith (.Call (.Attribute (.Name x oE) "append" d) [e] [] lU) none pos.line X.env=pure false) aZ0):
   ZS X E b (.Expr (.Call (.Attribute (.Name x oE) "append" d) [e] [] lU) pos) (ma i f):=by
  obtain⟨t,p,r⟩:=he;refine⟨_,Fm (E9 pa B H z9 (pN hN hv hd J) (tD p tE M) l C k M g) I,λK s h=>?_⟩;unfold ma at h;split at h
  ·rename_i n q;split at h
   ·rename_i R q0;obtain⟨v,e1,a,N,rfl⟩:=s.vr i _ q;obtain⟨V,e2,e3⟩:=s.cell N q0;refine⟨_,e1,.inl ⟨rfl,V,.inl<|.inl e2⟩,r s<|gP.mono (jm.nE h) λ{z D _ P _} G x1 S m u Y=>?_⟩;split at m
    ·rename_i L Z;have j:=S n a N;obtain⟨F,g2,O⟩:=G.cell j Z;by_cases w:L.length<sizeLine
     ·rw[af w]at m;have U:Xt D P D (upd P a (.lst (F++[u]))):=λb o _ K eb=>⟨K,by rw[hA λz=>G.st.na n a j (by rw[<-z];exact K)];exact eb⟩;obtain⟨W,T⟩:=G.write j (o:=.lst (F++[u])) (c:=.li (L++[z])) o4 (λq w=>by unfold lJ at w;cases w) ⟨_,i8,jw.mv U .refl (O.append (.cons Y .nil))⟩ nofun;exact⟨a,F,u,rfl,rfl,g2,by rw[O.length];exact w,m _ _ _ _ T W⟩
     ·rw[ao w]at m;exact m.elim
    ·exact m.elim
   ·exact h.elim
  ·exact h.elim
noncomputable def my(i:Nat):iM:=λc S=>match c[i]? with
 |some (some (.loc n))=>(match S[n]? with
  |some (.li a)=>(match a[a.length - 1]? with
   |some z=>.ok z (S.set n<|.li a.dropLast)
   |none=>.bad)
  |_=>.bad)
 |_=>.bad
def jw.dropLast(r:jw K al lo H vs zs):jw K al lo H vs.dropLast zs.dropLast:=by
 induction r with
 |nil=>exact .nil
 |cons a b g=>
  cases b with
  |nil=>exact .nil
  |cons c d=>exact .cons a g
def afA(i){g d:Pos}(O:PlainAttrs "list")(l:Slot "list" "pop" "list.pop")(p:typeOf (.builtin "list.pop")=pure (.type "method_descriptor"))
 (hN:autoParam (X.N[i]?=some x) aZ0)(P:autoParam (pF X.env.scope x) aZ4)(R:autoParam (jl x) aZ1)
 (B:autoParam ((x==("__classdict__":gp))=false) aZ1)
 (k:autoParam (attributeBase (.Name x oE) "pop" X.env (eval (.Name x oE) X.env)=eval (.Name x oE) X.env) aZ0)(j:autoParam ((g.endLine==d.line)=true) aZ0):
   ZE X E (.Call (.Attribute (.Name x oE) "pop" g) [] [] d) (my i):=by
  refine⟨_,aaf O l p XT (pN hN P R B) k j,λ{_ I _ H _ _ _ _} s h=>?_⟩;unfold my at h;split at h
  ·rename_i n q;split at h
   ·rename_i J N;split at h
    ·rename_i z M;obtain⟨v,V,a,r,rfl⟩:=s.vr i _ q;obtain⟨m,G,C⟩:=s.cell r N;obtain⟨u,U,T⟩:=C.get M;have K:Xt I H I (upd H a (.lst m.dropLast)):=λb o _ F S=>⟨F,by rw[hA λz=>s.st.na n a r (by rw[<-z];exact F)];exact S⟩;obtain⟨L,D⟩:=s.write r (o:=.lst m.dropLast) (c:=.li J.dropLast) o4 (λq w=>by unfold lJ at w;cases w) ⟨_,i8,jw.mv K .refl C.dropLast⟩ nofun;refine⟨_,V,.inl ⟨rfl,m,.inl (.inl G)⟩,a,m,u,rfl,rfl,G,by rw[C.length];exact U,h _ _ _ L D .refl u (T.mv D .refl)⟩
    ·exact h.elim
   ·exact h.elim
  ·exact h.elim
end
mutual
def kT:D->gL
 |.lst _=>false
 |.tup ds=>o3 ds
 |.exc _ _ _=>false
 |_=>true
def o3:gi D->gL
 |[]=>true
 |d::r=>kT d&&o3 r
end
noncomputable def oM(S:ic):gH Z->Sl
 |some (.d x)=>.sh x
 |some (.loc n)=>(match S[n]? with
  |some (.li a)=>(match kI a with
   |some b=>iD b
   |none=>.no)
  |_=>.no)
 |_=>.no
def vw(S:ic)(a:hU):Ev:=a.map (oM S)
variable{K:gF}{B:Z0}{al:ji}{lo:Lo}{H H':Hp}{σ:St}{ρ:hU}{S:ic}
def BY(al:ji)(lo:Lo):gr->Prop:=λa=>al a\/∃n,lo n=some a
def RZ.NY(r:RZ K B al lo H σ ρ S):RS K (BY al lo) H (BY al lo) H σ (vw S ρ) where
 same:=.refl H
 tt:=r.tt
 fresh:=λa h=>.inl (r.fresh a h)
 sub:=λ_ h=>h
 pf:=λa h=>.inl (r.fresh a h)
 len:=by unfold vw;rw[ae];exact r.len
 sh:=λi d h=>by
  unfold vw at h;rw[aN]at h;obtain⟨z,c,b⟩:=aL.mp h;cases z with
  |none=>cases b
  |some z=>
   obtain⟨v,o,f⟩:=r.vr i z c;refine⟨v,o,?_⟩;cases z with
   |d x=>cases b;exact Rep.mv (.sub λ_ h=>.inl h) f
   |tk F=>cases b
   |loc n=>
    unfold oM at b;dsimp only at b;split at b
    ·rename_i C q;split at b
     ·rename_i g k;cases b;have:=ub k;subst this;obtain⟨a,e,rfl⟩:=f;obtain⟨D,m,l⟩:=r.cell e q;exact .lst (.inl ⟨.inr ⟨n,e⟩,.inl m⟩) (gR.mv (.sub λ_ h=>.inl h) l.toD)
     ·cases b
    ·cases b
 ow:=λi g h=>by
  unfold vw at h;rw[aN]at h;obtain⟨z,c,b⟩:=aL.mp h;unfold oM at b;split at b;·cases b
  ·split at b;·split at b<;>cases b
   ·cases b
  ·cases b
 apart:=λi j g p a h _ _ _=>by
  unfold vw at h;rw[aN]at h;obtain⟨z,c,b⟩:=aL.mp h;unfold oM at b;split at b;·cases b
  ·split at b;·split at b<;>cases b
   ·cases b
  ·cases b
def Rep.kT(f:∀n a,lo n=some a->¬∃e,Rd H a<|.tup e){d}(r:Rep K (BY al lo) H v d):P2.kT d=true->Rep K al H v d:=
 Rep.rec (motive_1:=λv d _=>P2.kT d=true->Rep K al H v d) (motive_2:=λv d _=>o3 d=true->gR K al H v d) (λ_=>.non) (λb _=>.bl b) (λb _=>.int b) (λb _=>.str b) (λb _=>.ty b) (λb _=>.ref b)
  (λp _ q h=>.tup (p.elim (λz=>.inl ⟨z.1.elim id λ⟨n,g⟩=>absurd ⟨_,.inl z.2⟩<|f n _ g,z.2⟩) .inr)<|q h) (λ_ _ _ h=>by cases h) (λ_ _ _ _ _ _ h=>by cases h) (λ_ _ h=>by cases h) (λ_=>.nil) (λ{_ d _ i} _ _ p q h=>by have c:(P2.kT d&&o3 i)=true:=h;rw[aq]at c;exact .cons (p c.1) (q c.2)) r
def RZ.Yh(r:RZ K B al lo H σ ρ S):∀n a,lo n=some a->¬∃d,Rd H a (.tup d):=λn a f ⟨d,h⟩=>by
 obtain⟨c,_,q⟩:=r.st.at' n a f;cases c with
 |ob C fs=>obtain⟨j,b,g,_⟩:=q;rcases h with h|⟨o,h⟩<;>(rw[g]at h;cases h)
 |ft e=>obtain⟨b,i,g,_⟩:=q;rcases h with h|⟨o,h⟩<;>(rw[g]at h;cases h)
 |no=>exact q
 |mk=>exact q
 |_=>obtain⟨b,g,_⟩:=q;rcases h with h|⟨o,h⟩<;>(rw[g]at h;cases h)
def zR(f:hP):iM:=λρ S=>match f (vw S ρ)with
 |.ok d=>if kT d=true then .ok (.d d) S else .bad
 |_=>.bad
def jS(f:kv):hU->ic->RX gL:=λρ S=>match f (vw S ρ)with
 |.ok d=>.ok d S
 |_=>.bad
variable{X:Cx}{E:XK}{b:Nat}{e:hD}{pos:Pos}
def afB(h:DE X E e f):ZE X E e (zR f):=by
 obtain⟨t,p,r⟩:=h;refine⟨t,p,λ{_ al lo _ _ ρ S _} z h=>r z.NY ?_⟩;unfold zR at h;cases q:f (vw S ρ)with
 |ok d=>
  rw[q]at h;dsimp only at h;by_cases w:kT d=true
  ·rw[af w]at h;exact λg a v c=>h al lo g (z.grow a) (.of a) .refl v (Rep.kT (z.grow a).Yh c w)
  ·rw[ao w]at h;exact h.elim
 |_=>rw[q]at h;exact h.elim
def afZ(h:DT X E e f):ZT X E e (jS f):=by
 obtain⟨t,p,r⟩:=h;refine⟨t,p,λ{_ al lo _ _ ρ S _} z h=>r z.NY ?_⟩;unfold jS at h;cases q:f (vw S ρ)with
 |ok d=>rw[q]at h;exact λc a=>h al lo c (z.grow a) (.of a) .refl
 |_=>rw[q]at h;exact h.elim
def ya(n:Nat)(d:D):gH Z->gH Z
 |some (.loc m)=>if m=n then ig d else gz m
 |o=>o
def qk(n:Nat):Z->gL
 |.loc m=>decide (m=n)
 |_=>false
def nQ(n:Nat):Cell->gL
 |.li zs=>zs.any (qk n)
 |.ob _ fs=>fs.any λp=>qk n p.2
 |.dk a=>a.any λp=>qk n p.2
 |.dt a=>a.any λp=>qk n p.2
 |.ft a=>a.any λp=>qk n p.2
 |.no=>false
 |.mk=>false
noncomputable def zk(b i:Nat)(ρ:hU)(S:ic):gH (hU×ic):=match ρ[i]? with
 |some (some (.loc n))=>(match S[n]? with
  |some (.li a)=>(match kI a with
   |some c=>if b<=n/\(S.any<|nQ n)=false then some (ρ.map<|ya n<|.lst c,S.set n .no)else none
   |none=>none)
  |_=>none)
 |some _=>some (ρ,S)
 |none=>none
variable{jr:hU}{S':ic}
def ka.out{n}(x:Xt al H iZ H)(y:∀m a,m≠n->lo m=some a->kf m=some a)(r:ka K al lo H v z)(h:qk n z=false):ka K iZ kf H v z:=by
 cases z with
 |d d=>exact Rep.mv x r
 |loc m=>obtain⟨a,f,c⟩:=r;exact⟨a,y m a (by simpa [qk]using h) f,c⟩
 |tk g=>obtain⟨a,f,c,i⟩:=r;obtain⟨k,j⟩:=x a (.tup<|g.map kV) (λ_ h=>nomatch h) f c;exact⟨a,k,j,i⟩
def jw.out{n}(x:Xt al H iZ H)(y:∀m a,m≠n->lo m=some a->kf m=some a)(r:jw K al lo H vs zs)(h:zs.any (qk n)=false):jw K iZ kf H vs zs:=by
 induction r with
 |nil=>exact .nil
 |cons a _ c=>rw[bF,eE]at h;exact .cons (a.out x y h.1) (c h.2)
def jh.out{n}(x:Xt al H iZ H)(y:∀m a,m≠n->lo m=some a->kf m=some a)(r:jh K al lo H vs zs)(h:(zs.any λp=>qk n p.2)=false):jh K iZ kf H vs zs:=by
 induction r with
 |nil=>exact .nil
 |cons a _ c=>rw[bF,eE]at h;exact .cons (a.out x y h.1) (c h.2)
def lR.out{i:Lo}{n}(x:Xt al H iZ H)(y:∀m a,m≠n->lo m=some a->i m=some a)(r:lR K al lo H a c)(h:nQ n c=false):lR K iZ i H a c:=by
 cases c with
 |li p=>obtain⟨j,f,d⟩:=r;exact⟨j,f,d.out x y h⟩
 |ob C fs=>obtain⟨l,g,f,d⟩:=r;exact⟨l,g,f,d.out x y h⟩
 |ft k=>obtain⟨g,o,f,d⟩:=r;exact⟨g,o,f,d.out x y h⟩
 |no=>exact r
 |mk=>exact r
 |_=>obtain⟨g,f,d⟩:=r;exact⟨g,f,d.out x y h⟩
def RZ.freeze(r:RZ K B al lo H σ ρ S)(h:zk B.n i ρ S=some (jr,S')):∃D C,RZ K B D C H σ jr S'/\Xt al H D H/\∀n,ρ[i]?=some (gz n)->∀m a,m≠n->lo m=some a->C m=some a:=by
 unfold zk at h;split at h
 ·rename_i n q;split at h
  ·rename_i zs O;split at h
   ·rename_i ds V;split at h
    ·rename_i w;cases h;obtain⟨v,e1,a,J,rfl⟩:=r.vr i _ q;have:=ub V;subst this;obtain⟨vs,g1,g2⟩:=r.cell J O;have T:n<S.length:=(aD.mp O).1;have x:Xt al H (λb=>al b\/b=a) H:=λb o _ l e=>⟨.inl l,e⟩;have hB:B.H a=none:=by
      rcases r.nw n a J with z|z;·exact absurd (r.bd n a z) (by simp_all)
      ·exact z.1
     refine⟨λb=>al b\/b=a,λm=>if m=n then none else lo m,?_,x,λn' e m b f l=>?_⟩;rotate_left;·rw[q]at e;cases e;dsimp only;rw[ao f];exact l
     have y:∀m b,m≠n->lo m=some b->(λm=>if m=n then none else lo m) m=some b:=λm b f h=>by dsimp only;rw[ao f];exact h
     have g:∀m b,(if m=n then none else lo m)=some b->m≠n/\lo m=some b:=λm b h=>by
      by_cases z:m=n;·rw[af z]at h;cases h
      ·rw[ao z]at h;exact⟨z,h⟩
     have cl:∀c∈S,nQ n c=false:=λc L=>by have:=List.any_eq_false.mp w.2 c L;simpa using this
     refine {fr:=r.fr,hf:=r.hf,tt:=r.tt,fresh:=λb l=>.inl<|r.fresh b l,st:=⟨λm b f=>?_,λm c f L M=>?_,λm b f l=>?_,λm P b h1 h2=>?_,λm b u l hu=>.inl<|r.st.tl ?_ b u l hu⟩,lx:=λm b f=>?_,nw:=λm b f=>r.nw m b (g m b f).2,bd:=r.bd,sz:=by rw[aY];exact r.sz,xt:=r.xt.trans x,sb:=λb l=>?_,len:=by rw[ae];exact r.len,vr:=λj z R=>?_}
     ·obtain⟨z1,z2⟩:=g m b f;obtain⟨c,I,p⟩:=r.st.at' m b z2;exact⟨c,by rw[ai (bQ z1)];exact I,p.out x y (cl c (eB I))⟩
     ·by_cases z:n=m
      ·subst z;rw[aw T]at f;cases f;exact absurd rfl L
      ·rw[ai z]at f;obtain⟨b,k⟩:=r.st.has m c f L M;exact⟨b,by show(if m=n then none else lo m)=some b;rw[ao<|bQ z];exact k⟩
     ·obtain⟨z1,z2⟩:=g m b f;rcases l with l|rfl;·exact r.st.na m b z2 l
      ·exact z1 (r.st.inj m n _ z2 J)
     ·exact r.st.inj m P b (g m b h1).2 (g P b h2).2
     ·by_cases z:n=0
      ·subst z;rw[aw T]at m;cases m
      ·rw[ai z]at m;exact m
     ·have:=r.bd m b f;show(if m=n then none else lo m)=some b;rw[ao<|by lia];exact r.lx m b f
     ·rcases l with l|rfl;·exact r.sb b l
      ·exact .inr hB
     ·rw[aN]at R;obtain⟨o,I,p⟩:=aL.mp R;cases o with
      |none=>cases p
      |some N=>
       obtain⟨u,Y,G⟩:=r.vr j N I;refine⟨u,Y,?_⟩;cases N with
       |d x0=>cases p;exact Rep.mv x G
       |tk ks=>cases p;obtain⟨U,j1,j2,j3⟩:=G;obtain⟨i1,i2⟩:=x U (.tup<|ks.map kV) (λ_ h=>nomatch h) j1 j2;exact⟨U,i1,i2,j3⟩
       |loc m=>
        have p:(if m=n then some (Z.d<|.lst ds)else some (Z.loc m))=some z:=p;by_cases F:m=n
        ·rw[af F]at p;cases p;obtain⟨b,k3,rfl⟩:=G;rw[F,J]at k3;cases k3;exact .lst (.inl ⟨.inr rfl,.inl g1⟩) (gR.mv x g2.toD)
        ·rw[ao F]at p;cases p;obtain⟨b,k3,rfl⟩:=G;exact⟨b,by dsimp only;rw[ao F];exact k3,rfl⟩
    ·cases h
   ·cases h
  ·cases h
 ·cases h;exact⟨al,lo,r,.refl,λ_ _ _ _ _ h=>h⟩
 ·cases h
variable{sts:gi Stmt}{st:Stmt}{g:gZ}
def yk(b i:Nat)(g:gZ):gZ:=λρ S=>match zk b i ρ S with
 |some (jr,S')=>g jr S'
 |none=>.bad
def afN(i)(h:ZS X E b st g):ZS X E b st (yk b i g):=by
 obtain⟨t,p,r⟩:=h;refine⟨t,p,λ{B _ _ _ _ _ _ _} a s h=>?_⟩;unfold yk at h;split at h
 ·rename_i jr S' q;rw[<-a]at q;obtain⟨f,d,c,x,_⟩:=s.freeze q;exact r a c (jm.ext h x)
 ·exact h.elim
end P2
namespace L2
open PySem PySem.Spec PyProof.Rows
section
variable{a:Type}[DecidableEq a]
def oK(c:gi<|a×V)(k:a):gH V:=(c.find? λd=>decide<|d.1=k).map (·.2)
def putK(c:gi<|a×V)(k:a)(v:V):gi (a×V):=
 if(c.any λd=>decide<|d.1=k)=true then c.map (λd=>if d.1=k then(d.1,v)else d)else c++[(k,v)]
def Gw{p:a×V}{k}(e:p.1=k):oK (p::r) k=some p.2:=by simp[oK,cQ,e]
def Gv{p:a×V}{k}(e:¬p.1=k):oK (p::r) k=oK r k:=by simp[oK,cQ,e]
theorem OT(k):∀c:gi (a×V),(c.any λd=>decide<|d.1=k)=(oK c k).isSome
 |[]=>rfl
 |p::r=>by
  rw[bF];by_cases e:p.1=k;·simp only[Gw e,aB e,Bool.true_or,Option.isSome_some]
  ·rw[Gv e,az e,Bool.false_or];exact OT k r
def EG(kvs)(k:a)(v):(putK kvs k v).length<=kvs.length+1:=by
 unfold putK;split;·rw[ae];simp
 ·rw[aa,ag,bj];exact au _
def lS.Wf{o u}(r:lS o u):o.isSome=u.isSome:=by
 cases o with
 |none=>cases u with
  |none=>rfl
  |some _=>exact(show False from r).elim
 |some _=>cases u with
  |none=>exact(show False from r).elim
  |some _=>rfl
def KV.val{c}{i:gi<|a×gE}(r:KV c i)(k):lS (oK c k) (valueAt i k):=by
 unfold KV at r;induction r with
 |nil=>exact True.intro
 |@cons p q n d h t l=>
  obtain⟨j,m⟩:=h;by_cases e:p.1=k
  ·have f:q.1=k:=j.symm.trans e;have b:valueAt (q::d) k=some q.2:=by simp[valueAt,cQ,f]
   rw[Gw e,b];exact m
  ·have f:¬q.1=k:=λz=>e (j.trans z);have b:valueAt (q::d) k=valueAt d k:=by simp[valueAt,cQ,f]
   rw[Gv e,b];exact l
def KV.any{c}{f:gi<|a×gE}(r:KV c f)(k):(c.any λd=>decide<|d.1=k)=f.any λd=>decide (d.1=k):=by
 unfold KV at r;induction r with
 |nil=>rfl
 |cons h t i=>rw[bF,bF,i,h.1]
def KV.FP(r:KV kvs vs)(k:a){y u}(f:RelV y u):
    KV (kvs.map λc=>if c.1=k then(c.1,y)else c) (vs.map λc=>if c.1=k then(c.1,u)else c):=by
 unfold KV at r⊢;induction r with
 |nil=>exact .nil
 |@cons p q m l h t i=>
  rw[aF,aF];refine .cons ?_ i;obtain⟨d,j⟩:=h;by_cases e:p.1=k;·rw[af e,af<|d.symm.trans e];exact⟨d,f⟩
  ·rw[ao e,ao<|λz=>e<|d.trans z];exact⟨d,j⟩
def KV.put{c}{d:gi<|a×gE}(r:KV c d)(k){y}{u}(f:RelV y u):KV (putK c k y) (stored d k u):=by
 unfold putK stored;rw[r.any k];by_cases e:(d.any λh=>decide<|h.1=k)=true;·rw[af e,af e];exact r.FP k f
 ·rw[ao e,ao e];exact Paired.snoc r ⟨rfl,f⟩
def KV.length(r:KV kvs vs):kvs.length=vs.length:=Paired.length r
end
def zT{w k u}(r:RelV (kV k) u):(mY P w).is k u=true:=by
 cases k with
 |inl i=>obtain⟨t,e⟩:=(show∃t,u=Value.int i t from r);subst e;exact XO P w i t
 |inr x=>obtain⟨t,e⟩:=(show∃t,u=Value.str x t from r);subst e;exact XQ P w x t
theorem Lm{w}:∀{a:gi Key} {c},Vals (a.map kV) c->ItemsAre (mY P w) a c
 |[],_,r=>by rw[c8]at r;cases r;exact .nil
 |k::a,_,r=>by
  rw[aF]at r;cases r with
  |cons h t=>exact .cons (zT h) (Lm t)
abbrev KT(H:Hp):gi (gi Key×V)->gi (gi Key×gr×gE)->Prop:=Paired λp q=>p.1=q.1/\H q.2.1=some (.tup<|p.1.map kV)/\RelV p.2 q.2.2
def KT.val(r:KT H kvs xs)(k):lS (oK kvs k) ((atKey xs k).map (·.2)):=by
 induction r with
 |nil=>exact True.intro
 |@cons p q j a h t f=>
  obtain⟨d,_,i⟩:=h;by_cases e:p.1=k
  ·have c:q.1=k:=d.symm.trans e;have b:atKey (q::a) k=some q.2:=by simp[atKey,cQ,c]
   rw[Gw e,b];exact i
  ·have c:¬q.1=k:=λz=>e (d.trans z);have b:atKey (q::a) k=atKey a k:=by simp[atKey,cQ,c]
   rw[Gv e,b];exact f
def KT.FP(r:KT H kvs xs)(k){y u}(f:RelV y u):
    KT H (kvs.map λc=>if c.1=k then(c.1,y)else c) (xs.map<|putAt k u):=by
 induction r with
 |nil=>exact .nil
 |@cons p q m l h t i=>
  rw[aF,aF];refine .cons ?_ i;obtain⟨a,d,j⟩:=h;unfold putAt;by_cases e:p.1=k;·rw[af e,af<|a.symm.trans e];exact⟨a,d,f⟩
  ·rw[ao e,ao<|λz=>e<|a.trans z];exact⟨a,d,j⟩
def KT.put(r:KT H kvs xs)(k){y u}(d:H b=some (.tup<|k.map kV))(a:RelV y u):
    KT H (putK kvs k y) (storedH xs k b u):=by
 have e:(kvs.any λc=>decide<|c.1=k)=(atKey xs k).isSome:=by rw[OT,(r.val k).Wf,Option.isSome_map]
 unfold putK storedH;rw[e];by_cases q:(atKey xs k).isSome=true;·rw[af q,af q];exact r.FP k a
 ·rw[ao q,ao q];exact Paired.snoc r ⟨rfl,d,a⟩
def KT.keeps(r:KT H kvs xs)(c:∀b a,H b=some (.tup a)->H' b=some (.tup a)):KT H' kvs xs:=
 Paired.lZ r λ_ _ z=>⟨z.1,c _ _ z.2.1,z.2.2⟩
section
variable{P:iQ}{w:iK}{H:Hp}{h:gU}{a:gr}
def NI{u}(ok:jJ P w H h)(e:Rd H a u):kj P w H h a u:=e.ok ok
def CS(ok:jJ P w H h)(e:Rd H a<|.dK kvs):kvs.length<=sizeLine/\(a==sysModules)=false/\∃c,KV kvs c/\h.DictOf (mY P w) a c:=
 show kj P w H h a (.dK kvs)from NI ok e
def JI(ok:jJ P w H h)(e:H a=some (.dK kvs)):kvs.length<=sizeLine/\(a==sysModules)=false/\∃c,KV kvs c/\h.DictOf (mY P w) a c:=CS ok (.inl e)
def Ex(ok:jJ P w H h)(e:H a=some (.tup (ks.map kV))):(tupleKind (mY P w)).is h ks a:=by obtain⟨_,c,r,o,i,f,n,d⟩:=(show kj P w H h a (.tup<|ks.map kV)from ok a _ e);exact⟨o,c.toArray,n,i,f,d,by simpa using Lm r⟩
def CW(ok:jJ P w H h)(e:Rd H a<|.dT kvs):kvs.length<=sizeLine/\(a==sysModules)=false/\
    ∃d,KT H kvs d/\h.DictOfH (tupleKind<|mY P w) a d:=by
 obtain⟨z,y,d,r,o,D,F,C,v,n,k,j⟩:=(show kj P w H h a (.dT kvs)from NI ok e);refine⟨z,y,d,r,o,D,F,C,v,n,k,λx c=>?_,j⟩;have all:∀{l:gi<|gi Key×V} {m:gi<|gi Key×gr×gE},KT H l m->∀x∈m,(tupleKind<|mY P w).is h x.1 x.2.1:=by
  intro l m q;induction q with
  |nil=>intro x c;exact nomatch c
  |@cons p q I G f t i=>
   intro x c;rcases aT.mp c with e|c
   ·subst e;exact Ex ok (by rw[<-f.1];exact f.2.1)
   ·exact i x c
 exact all r x c
def SI(ok:jJ P w H h)(e:H a=some (.dT kvs)):kvs.length<=sizeLine/\(a==sysModules)=false/\
    ∃c,KT H kvs c/\h.DictOfH (tupleKind<|mY P w) a c:=CW ok (.inl e)
end
def vY(H:Hp)(a:gr)(y:V)(r:gH V):Prop:=
 (∃c k,Rd H a (.dK c)/\y=kV k/\r=oK c k)\/∃c k b,Rd H a (.dT c)/\y=.ref b/\H b=some (.tup<|k.map kV)/\r=oK c k
def yq(H:Hp)(a:gr)(y v:V)(H':Hp):Prop:=
 (∃c k,H a=some (.dK c)/\y=kV k/\c.length<sizeLine/\H'=upd H a (.dK<|putK c k v))\/
 ∃c k b,H a=some (.dT c)/\y=.ref b/\H b=some (.tup<|k.map kV)/\c.length<sizeLine/\H'=upd H a (.dT<|putK c k v)
def vY.k{H:Hp}{k}(e:H a=some (.dK kvs)):vY H a (kV k) (oK kvs k):=.inl ⟨kvs,k,.inl e,rfl,rfl⟩
def yq.k{H:Hp}{k}(e:H a=some (.dK kvs))(c:kvs.length<sizeLine):yq H a (kV k) v (upd H a<|.dK<|putK kvs k v):=.inl ⟨kvs,k,e,rfl,c,rfl⟩
section
variable{X:Cx}{f:jG}{i:St}{H:Hp}{s:gQ}{a:gr}{y v:V}{u r:gE}{o:gH V}{A:jd}{E:iR}
def Inv.big(I:Inv X f i H s):sysModules<s.heap.objs.size:=by have h:mainGlobals<s.heap.objs.size:=(I.mod.glob.keeps I.bk).lt;exact fK (by decide) h
def Ri(M:A.units+1<cLine)(I:Inv X f i H s)(g:vY H a y<|some v)(G:RelV y u)(h:∀j F,Inv X f i H F->RelV v j->Q j F):
    wpAny (model X.prog X.w) A (getItem (.ref a) u) Q E s:=by
 rcases g with⟨m,k,e,C,l⟩|⟨m,k,b,e,C,P,l⟩
 ·subst C;obtain⟨z,O,L,d,D⟩:=CS I.hok e;obtain⟨j,n,c⟩:=lS.some_of (v:=v) (o:=valueAt L k) (by rw[l];exact d.val k);exact wpAny_getItem_of (zT G) D.mapOf n (h j _ (I.tok _) c)
 ·subst C;cases(show u=Value.ref b from G);obtain⟨z,O,J,d,D⟩:=CW I.hok e;obtain⟨j,n,c⟩:=lS.some_of (v:=v) (o:=(atKey J k).map (·.2)) (by rw[l];exact d.val k);obtain⟨p,N,q⟩:=aL.mp n;refine wpAny_getItem_heap (tupleKind_room_in1 M) (Ex I.hok P) D N ?_;rw[q];exact h j _ (I.tok _) c
def CO{c:Nat}(I:Inv X f i H s)(d:wm<|H a)(h:Heap.SameBut a s.heap h')(j:∃q,h'.get? a=some q)(new:kj X.prog X.w (upd H a ob) h' a ob):
    Inv X f i (upd H a ob) {s with heap:=h',toks:=c}:=
 I.write (x:=a) (e:=a) d (.inl rfl) (λb q k z=>(h.2 b k).trans z) j new
def JH{w}{c}(z:c.length<=sizeLine)(h:(a==sysModules)=false)(d:KV c vs)(j:h'.DictOf (mY P w) a vs):
    kj P w H' h' a (.dK c):=⟨z,h,vs,d,j⟩
def Rj{H':Hp}(Z:A.units+1<cLine)(I:Inv X f i H s)(g:yq H a y v H')(N:RelV y u)(O:RelV v r)(h:∀M,Inv X f i H' M->Q () M):
    wpAny (model X.prog X.w) A (setItem (.ref a) u r) Q E s:=by
 rcases g with⟨j,k,e,G,l,J⟩|⟨j,k,b,e,G,T,l,J⟩
 ·subst G J;obtain⟨z,F,Y,d,L⟩:=JI I.hok e;have p:Y.length<=sizeLine:=by rw[<-d.length];exact z
  have D:(putK j k v).length<=sizeLine:=by have:=EG j k v;walk_at "l"
  refine wpAny_setItem_pairs (hsz:=p) (zT N) L λP m C=>h _ ?_;have he:∃q,P.get? a=some q:=let⟨q,_,_,n,_⟩:=m;⟨q,n⟩;exact CO I (by rw[e];exact True.intro) C he (JH D F (d.put k O) m)
 ·subst G J;cases(show u=Value.ref b from N);obtain⟨z,F,U,d,L⟩:=SI I.hok e;have p:U.length<=sizeLine:=by rw[<-Paired.length d];exact z
  have D:(putK j k v).length<=sizeLine:=by have:=EG j k v;walk_at "l"
  refine wpAny_setItem_heap (hsz:=p) (tupleKind_room_in1 Z) (Ex I.hok T) L λP m C=>h _ ?_;obtain⟨q,es,ep,n,h2,h3,h4,_,h5⟩:=m;refine CO I (by rw[e];exact True.intro) C ⟨q,n⟩ ⟨D,F,_,(d.put k T O).keeps λc ys R=>?_,q,es,ep,n,h2,h3,h4,h5⟩;rw[hA<|Ye R e<|λz=>nomatch z];exact R
end
def BE(i:hD):Prop:=∀a c,subscripted i false a c=operate [a,c] (getItem a c)
def adI{w}{A}{E}{s}{a}{pos}{m}
 (p:typeLookup (.type T) "__getitem__"=pure (some<|.builtin m))(n:BE slice)
 (h:wpAny (model prog w) A (eval a env) (λo j=>wpAny (model prog w) A (eval slice env) (λi c=>c.TypeIs o T/\wpAny (model prog w) A (getItem o i) Q E c) E j) E s):
   wpAny (model prog w) A (eval (.Subscript a slice pos) env) Q E s:=by
  refine Subscript_ (aK h (λo j l=>aK l (λi c d=>?_) λ_ _ x=>x) λ_ _ x=>x);obtain⟨hT,d⟩:=d;unfold subscriptTail;refine ah ?_;rw[getitemInPython_of_ne hT.not_modules];refine ah (wpAny_specialOf hT p ?_);have fin:wpAny (model prog w) A (subscripted slice false o i) (λr f=>wpAny (model prog w) A (letTemporaryGo a o r>>=λ_=>pure r) Q E f) E c:=by rw[n o i];exact wpAny_operating (aK d (λr f k=>ah<|wpAny_letTemporaryGo<|aE k) λ_ _ x=>x)
  first
   |exact aE (ah fin)
   |exact ah (aE<|ah fin)
   |exact ah fin
def R3{y o}(I:Inv X pins σ H s)(g:vY H a y o):s.TypeIs (.ref a) "dict":=by
 rcases g with⟨c,k,e,_,_⟩|⟨c,k,b,e,_,_,_⟩
 ·obtain⟨_,_,h,_,d⟩:=CS I.hok e;exact d.typeIs
 ·obtain⟨_,_,f,_,d⟩:=CW I.hok e;exact d.typeIs
def adS(d ty:TE):TE:=λσ H Q=>d σ H λx f=>ty σ f λy c=>∃a v,x=.ref a/\vY c a y (some v)/\Q v c
def acR(f ty d:TE):TS:=λD σ H=>d σ H λv j=>f σ j λx i=>ty σ i λy h=>∃a c,x=.ref a/\yq h a y v c/\D.nx σ c
section
variable{X:Cx}{o i e b:hD}{pos c l:Pos}{f ty j:TE}
def aak(D:X.A.units+1<cLine)(G:PE X o f)(J:PE X i ty)(F:BE i):PE X (.Subscript o i pos) (adS f ty):=by intro d s σ H Q I h;refine adI PySem.F.slot_dict_getitem.lookup F (g6 (G d s σ H _ I h) λu p k=>?_);obtain⟨x,O,M,r,C⟩:=k;refine g6 (J d p σ O _ M C) λU T k=>?_;obtain⟨y,N,n,q,a,v,ex,g,z⟩:=k;subst ex;obtain rfl:u=Value.ref a:=r;exact⟨R3 n g,Ri D n g q λP R L m=>⟨v,N,L,m,z⟩⟩
def aa1(L:X.A.units+1<cLine)(N:PE X o f)(O:PE X i ty)(J:PE X b j)(M:swapsWith b (some<|.Subscript o i c) pos.line X.env=pure false):
    PS X (.Assign [.Subscript o i c] b pos) (acR f ty j):=by
 intro d s σ H D I h;refine wpAny_Assign_Subscript (g6 (J d s σ H _ I h) λr n k=>?_) M;obtain⟨v,Z,U,z,G⟩:=k;refine g6 (N d n σ Z _ U G) λu m k=>?_;obtain⟨x,Y,T,q,F⟩:=k;refine g6 (O d m σ Y _ T F) λiv s3 k=>?_;obtain⟨y,H3,R,p,a,V,ex,g,C⟩:=k;subst ex;obtain rfl:u=Value.ref a:=q;exact Rj L R g p z λs4 P=>⟨σ,V,P,C⟩
end
def R8{w}(h:gU)(a:sysModules<h.objs.size):kj P w H (h.push {cls:=.type "dict",data:=.dict #[]}) h.objs.size (.dK []):=
 ⟨cy _,cU.mpr<|bQ<|aW a,[],.nil,Heap.DictOf.new h⟩
def AO:gi (TE×TE)->St->Hp->(gi (V×V)->Hp->Prop)->Prop
 |[],_,H,Q=>Q [] H
 |(tk,a)::r,σ,H,Q=>tk σ H λx h=>a σ h λy f=>AO r σ f λc d=>Q ((x,y)::c) d
abbrev VV:gi (V×V)->gi (gE×gE)->Prop:=Paired λp q=>RelV p.1 q.1/\RelV p.2 q.2
abbrev _root_.BP:=gi (gH hD)
def wq(X:Cx)(pos:Pos)(d:BP)(a:jT)(f:gi<|TE×TE):Prop:=
 ∀c s σ H Q,Inv X c σ H s->AO f σ H Q->
  wpAny (model X.prog X.w) X.A (evalPairs<|pairTrees d a X.env pos) (λi j=>∃h H',Inv X c σ H' j/\VV h i/\Q h H') X.xe s
def aaV{pos}:wq X pos [] [] []:=λa s σ H Q I h=>pairTrees_nil_walk ⟨[],H,I,.nil,h⟩
def aaU{pos k tk}(r:PE X k tk)(p:PE X v tv)(q:wq X pos ks vs vH):
    wq X pos (some k::ks) (v::vs) ((tk,tv)::vH):=λa s σ H Q I h=>
 pairTrees_cons_walk (g6 (r a s σ H _ I h) λu f ⟨x,J,D,j,n⟩=>g6 (p a f σ J _ D n) λM d ⟨y,G,C,i,m⟩=>g6 (q a d σ G _ C m) λL N ⟨o,F,z,c,l⟩=>⟨(x,y)::o,F,z,.cons ⟨j,i⟩ c,l⟩)
def rR(c a:gi<|Key×V):gi (Key×V):=a.foldl (λd f=>putK d f.1 f.2) c
def KV.merge:∀{a:gi<|Key×V} {rs:gi<|Key×gE} {c:gi<|Key×V} {d:gi<|Key×gE},KV a rs->KV c d->KV (rR c a) (merged d rs):=by
 intro a rs c d r;unfold KV at r;induction r generalizing c d with
 |nil=>intro q;exact q
 |@cons p q k j h t i=>
  intro f;have e:KV (putK c p.1 p.2) (stored d q.1 q.2):=by have:=f.put p.1 h.2;rw[<-h.1];exact this
  exact i e
theorem LK:∀(c a:gi<|Key×V),(rR a c).length<=a.length+c.length
 |[],a=>by show a.length<=a.length+0;simp
 |p::r,a=>by have f:=LK r (putK a p.1 p.2);have d:=EG a p.1 p.2;show(rR (putK a p.1 p.2) r).length<=_;rw[ag];lia
theorem Jg{w}:∀{d:gi<|Key×V} {f},VV (d.map λi=>(kV i.1,i.2)) f->∃rs,Carries (mY P w) f rs/\KV d rs
 |[],_,r=>by rw[c8]at r;cases r;exact⟨[],True.intro,.nil⟩
 |p::d,_,r=>by
  rw[aF]at r;cases r with
  |@cons a b as bs h t=>obtain⟨rs,c,q⟩:=Jg (P:=P) (w:=w) t;obtain⟨b1,j⟩:=b;exact⟨(p.1,j)::rs,⟨zT h.1,rfl,c⟩,.cons ⟨rfl,h.2⟩ q⟩
def adT(c:gi<|TE×TE):TE:=λσ H Q=>∀p,H p=none->AO c σ (upd H p<|.dK []) λh f=>f p=some (.dK [])/\∃a:gi (Key×V),h=a.map (λd=>(kV d.1,d.2))/\a.length<=15/\Q (.ref p) (upd f p<|.dK<|rR [] a)
def aal{pos}(h:wq X pos keys values vH)(i:keys.all (·.isSome)=true)(J:keys.length=values.length)(O:keys≠[])
 (m:keys.length<=15):PE X (.Dict keys values pos) (adT vH):=by
  intro d s σ H Q I q;have G:=I.hok.fresh (au s.heap.objs.size);have U:=I.laid (a:=s.heap.objs.size) (o:=.dK []) (h':=s.heap.push {cls:=.type "dict",data:=.dict #[]}) (t':=s.toks) (λ_ _ q=>aj _ q) (au _) (R8 s.heap I.big);refine wpAny_Dict_walk (knd:=mY X.prog X.w) i J O m (g6 (h d _ σ _ _ U<|q _ G) λV Y l=>?_);obtain⟨Z,H2,n,k,e,f,R,lk,v⟩:=l;subst R;obtain⟨rs,c,rk⟩:=Jg (P:=X.prog) (w:=X.w) k;obtain⟨z,M,p,r,T⟩:=JI n.hok e;cases r;refine⟨rs,c,T,λh' j D=>⟨.ref s.heap.objs.size,_,?_,rfl,v⟩⟩;have C:(rR [] f).length<=sizeLine:=by have N:=LK f [];rw[bj]at N;rw[dZ];lia
  have L:∃q,h'.get? s.heap.objs.size=some q:=let⟨q,_,_,F,_⟩:=j;⟨q,F⟩;exact CO n (by rw[e];exact True.intro) D L (JH C M (rk.merge .nil) j)
end L2
namespace P2
open PySem L2
section
variable{b:Type}[DecidableEq b]{K:gF}{f:ji}{c:Lo}{H:Hp}
def valZ(a:gi<|b×Z)(k:b):gH Z:=(a.find? λd=>decide<|d.1=k).map (·.2)
noncomputable def xJ(a:gi<|b×Z)(k:b)(v:Z):gi (b×Z):=
 if(a.any λd=>decide<|d.1=k)=true then a.map λd=>if d.1=k then(d.1,v)else d else a++[(k,v)]
def jh.val(r:jh K f c H us zs){k:b}(h:valZ zs k=some z):∃v,oK us k=some v/\ka K f c H v z:=by
 induction r with
 |nil=>cases h
 |@cons d v j l zs a _ i=>
  unfold valZ at h;unfold oK;rw[cQ]at h⊢;by_cases e:d=k;·simp_all
  ·simp only[e,bz]at h⊢;exact i h
def jh.length(r:jh K f c H us zs):us.length=zs.length:=by
 induction r with
 |nil=>rfl
 |cons _ _ a=>simp_all
def jh.any(r:jh K f c H us zs)(k:b):(us.any λa=>decide<|a.1=k)=zs.any λa=>decide (a.1=k):=by
 induction r with
 |nil=>rfl
 |cons _ _ d=>simp_all
def jh.put(r:jh K f c H us zs)(k:b){v:V}(q:ka K f c H v z):jh K f c H (putK us k v) (xJ zs k z):=by
 unfold putK xJ;rw[r.any k];split
 ·rename_i h;clear h;induction r with
  |nil=>exact .nil
  |@cons i m j l zs a _ d=>
   rw[aF,aF];by_cases e:i=k
   ·simp only[e,b8];exact .cons q d
   ·simp only[e,cL];exact .cons a d
 ·rename_i h;clear h;induction r with
  |nil=>exact .cons q .nil
  |cons a _ d=>exact .cons a d
end
def Ew:D->gH Key
 |.int i=>some (.inl i)
 |.str x=>some (.inr x)
 |_=>none
def Ly{d k}(r:Rep K al H v d)(h:Ew d=some k):v=kV k:=by
 cases r with
 |int i=>cases h;rfl
 |str i=>cases h;rfl
 |_=>cases h
def kc(fo:iM)(f:hP):iM:=λρ S=>(fo ρ S).bind λz h=>(kW (f<|iO ρ) h).bind λd c=>match z,Ew d with
 |.loc n,some k=>(match c[n]? with
  |some (.dk a)=>(match valZ a k with
   |some z=>.ok z c
   |none=>.bad)
  |_=>.bad)
 |_,_=>.bad
def rm(fo:iM)(h:hP)(f:iM):gZ:=λρ S=>toZ (f ρ S) λv j=>toZ (fo ρ j) λz i=>toZ (kW (h<|iO ρ) i) λd c=>match z,Ew d with
 |.loc n,some k=>(match c[n]? with
  |some (.dk a)=>if a.length<sizeLine then .nx ρ (c.set n<|.dk<|xJ a k v)else .bad
  |_=>.bad)
 |_,_=>.bad
def sv(f:iM):iM:=λρ S=>(f ρ S).bind λz a=>match z with
 |.loc n=>(match a[n]? with
  |some (.li c)=>.ok (.d<|.int c.length) a
  |_=>.bad)
 |_=>.bad
section
variable{X:Cx}{E:XK}{b:Nat}{o k e:hD}{fo f:iM}{i:hP}{pos:Pos}
def EW:NT (.dK l):=λ_ h=>nomatch h
def afr(hu:X.A.units+64<cLine)(M:ZE X E o fo)(O:DE X E k i)(L:autoParam (BE k) aZ8):ZE X E (.Subscript o k pos) (kc fo i):=by
 obtain⟨to,G,D⟩:=M;obtain⟨tk,I,rk⟩:=O;refine⟨_,aak (by lia) G I L,λs h=>D s<|gP.mono (gP.split h) λ{_ m j _ _} d x1 y1 P v z=>rk d.rs<|Aft.mono (gP.toAft d<|gP.split P) λ{_ Z} r c u C=>?_⟩;have p:=d.grow r;split at c
 ·rename_i n k0 l;split at c
  ·rename_i J q;split at c
   ·rename_i z0 F;obtain⟨a,N,rfl⟩:=z;have U:=Ly C l;subst U;obtain⟨us,T,R⟩:=p.cell N q;obtain⟨w,Y,V⟩:=R.val F;refine⟨a,w,rfl,?_,c m j Z p .refl .refl w V⟩;rw[<-Y];exact .k T
   ·exact c.elim
  ·exact c.elim
 ·exact c.elim
def Pk{d:Pos}(hu:X.A.units+64<cLine)(ho:ZE X E o fo)(hk:DE X E k i)(hv:ZE X E e f)(hs:autoParam (swapsWith e (some<|.Subscript o k d) pos.line X.env=pure false) aZ0):
    ZS X E b (.Assign [.Subscript o k d] e pos) (rm fo i f):=by
 obtain⟨to,po,ro⟩:=ho;obtain⟨tk,pk,rk⟩:=hk;obtain⟨tv,pv,Z⟩:=hv;refine⟨_,aa1 (by lia) po pk pv hs,λJ s h=>Z s<|gP.mono (jm.nE h) λ{y _ _ _ _} Y x0 y0 h0 p r0=>ro Y<|gP.mono (jm.nE h0) λ{z l D _ _} v U P h1 v1 r1=>rk v.rs<|Aft.mono (gP.toAft v<|jm.nE h1) λ{_ L} N j u ru=>?_⟩;have r:=v.grow N;split at j
 ·rename_i n m I;split at j
  ·rename_i F q;split at j
   ·rename_i hl;obtain⟨a,G,rfl⟩:=r1;have ek:=Ly ru I;subst ek;obtain⟨M,g1,O⟩:=r.cell G q;have C:ka X.K l D L p y:=(r0.mv U P).mv (.of N) .refl;have T:Xt l L l (upd L a (.dK (putK M m p))):=λb o _ J eb=>⟨J,by rw[hA λz=>r.st.na n a G (by rw[<-z];exact J)];exact eb⟩;obtain⟨V,R⟩:=r.write G (o:=.dK (putK M m p)) (c:=.dk (xJ F m y)) EW (λq w=>by unfold lJ at w;cases w) ⟨_,i8,jh.mv T .refl (O.put m C)⟩ nofun;exact⟨a,_,rfl,.k g1 (by rw[O.length];exact hl),j _ _ _ _ R V⟩
   ·exact j.elim
  ·exact j.elim
 ·exact j.elim
def afv{x:gp}{p:Pos}(Z:x="len")(M:Gl X x)(L:X.mg x=none)(J:bootBuiltins x=some (.builtin "len"))(N:ZE X E e f)(l:autoParam (x≠"__name__") aZ1)(m:autoParam (jl x) aZ1)
    (C:autoParam (X.se e []) aZ0)(j:autoParam (X.bk pos []) aZ0):ZE X E (.Call (.Name x p) [e] [] pos) (sv f):=by
 obtain⟨Y,I,G⟩:=N;refine⟨_,Fd Jd M L J (tD I tE C) l m C j,λs h=>G s<|gP.mono (gP.split h) λ{_ r d R _} z V U c v F=>?_⟩;split at c
 ·rename_i n;split at c
  ·rename_i T q;obtain⟨a,l,rfl⟩:=F;obtain⟨D,P,O⟩:=z.cell l q;rw[<-O.length]at c;exact⟨a,D,rfl,.inl<|.inl<|.inl P,c r d R z .refl .refl _<|.int _⟩
  ·exact c.elim
 ·exact c.elim
end
def ES(c a:gi<|Key×Z):gi (Key×Z):=a.foldl (λd f=>xJ d f.1 f.2) c
def jh.merge{K:gF}{al:ji}{lo:Lo}{H:Hp}{h:gi<|Key×V}{f:gi<|Key×Z}(q:jh K al lo H h f):∀{d:gi<|Key×V} {c:gi<|Key×Z},jh K al lo H d c->jh K al lo H (rR d h) (ES c f):=by
 induction q with
 |nil=>exact λr=>r
 |cons a _ i=>exact λr=>i (r.put _ a)
def jh.zip{c:gi Key}(r:jw K al lo H vs zs):jh K al lo H (c.zip vs) (c.zip zs):=by
 induction r generalizing c with
 |nil=>rw[List.zip_nil_right,List.zip_nil_right];exact .nil
 |cons a _ d=>
  cases c with
  |nil=>exact .nil
  |cons k c=>exact .cons a d
structure yN(X:Cx)(E:XK)(pos:Pos)(ks:gi Key)(keys:BP)(es:jT)(f:mE):Prop where
 w_::
 o_:∃vH:gi (TE×TE),wq X pos keys es vH/\ks.length=es.length/\
 (∀{B al lo H σ ρ S} {Q:gi (V×V)->Hp->Prop},RZ X.K B al lo H σ ρ S->gP X.K B E al lo H σ ρ (f ρ S) (λzs iZ kf H' _=>∀vs,vs.length=ks.length->jw X.K iZ kf H' vs zs->Q ((ks.map kV).zip vs) H')->AO vH σ H Q)
def Hb(d:gi Key)(f:mE):iM:=λρ S=>(f ρ<|S++[.dk []]).bind λc a=>match a[S.length]? with
 |some (.dk [])=>.ok (.loc S.length) (a.set S.length<|.dk<|ES []<|d.zip c)
 |_=>.bad
section
variable{X:Cx}{E:XK}{b:Nat}{e:hD}{f:iM}{fs:mE}{pos:Pos}{B:gi Key}{a:BP}{J:jT}
def afG:yN X E pos [] [] [] gA:=⟨_,aaV,rfl,λ{_ al lo H _ _ _ _} s h=>h al lo H s .refl .refl [] rfl .nil⟩
def A4{j F}(M:ZE X E e f)(I:yN X E pos B a J fs):yN X E pos (.inr x::B) (some (.Constant (.str x) j F)::a) (e::J) (gx f fs):=by obtain⟨t,p,r⟩:=M;obtain⟨n,D,L,C⟩:=I;refine⟨_,aaU MT p D,by rw[ag,ag,L],λs h=>?_⟩;refine r s (gP.mono (gP.split h) λq T R O v z=>C q<|gP.mono (gP.split O) λ{_ i d P _} o l k N m G c=>?_);exact N i d P o .refl .refl (v::m) (by rw[ag,ag,G]) (.cons (z.mv l k) c)
theorem Pj:∀(B:gi Key) (c:gi V),(B.map kV).zip c=(B.zip c).map λd=>(kV d.1,d.2)
 |[],_=>by simp
 |_::_,[]=>by simp
 |k::B,v::c=>by rw[aF,eU,eU,aF,Pj B c]
def afs(h:yN X E pos B a J fs)(i:autoParam (a.all (·.isSome)=true) aZ0)(U:autoParam (a.length=J.length) aZ0)(Y:a≠[]:=by simp)(r:autoParam (a.length<=15) aZ1):ZE X E (.Dict a J pos) (Hb B fs):=by
 obtain⟨M,R,hk,P⟩:=h;refine⟨_,aal R i U Y r,λ{_ al lo H _ _ S _} s h=>λp v=>?_⟩;have V:lR X.K (λb=>al b/\b≠p) (lY lo S.length p) (upd H p<|.dK []) p (.dk []):=⟨[],i8,.nil⟩;have O:=s.new v EW V nofun;have T:lY lo S.length p S.length=some p:=by unfold lY;rw[af rfl]
 refine P O (gP.mono (gP.up (gP.split h) (vW v)<|rP s.st p) λ{F j _ D _} l x2 G n k hv m=>?_);split at n
 ·rename_i q;have d:=G _ _ T;obtain⟨us,g1,g2⟩:=l.cell d q;cases g2;have L:Xt j D j (upd D p (.dK (rR [] (B.zip k)))):=λb o _ C eb=>⟨C,by rw[hA λz=>l.st.na _ p d (by rw[<-z];exact C)];exact eb⟩;obtain⟨N,I⟩:=l.write d (o:=.dK (rR [] (B.zip k))) (c:=.dk (ES [] (B.zip F))) EW (λq w=>by unfold lJ at w;cases w) ⟨_,i8,jh.mv L .refl ((jh.zip m).merge .nil)⟩ nofun;refine⟨g1,B.zip k,Pj B k,?_,n _ _ _ N I .refl _ ⟨p,d,rfl⟩⟩;simp_all
 ·exact n.elim
variable{P:iQ}{w:iK}{K:gF}{C:iY}{i:gU}{f:gr}{F:kP}{x:gp}{l:iH}
def TH{k}:kX P w K C i k f F l (iJ l.length K λ_=>.bad):=
 ⟨λj H Q E h=>h.1,λA c s H d m j Q E _ _ _ _ h=>by obtain⟨_,_,_,_,_,_,h⟩:=h;exact h.elim⟩
def sT{k}:kX P w K C i k f F l (jv l.length K λ_ _=>.bad):=
 ⟨λj H Q E h=>h.1,λA c s H d m j Q E _ _ _ _ h=>by obtain⟨_,_,_,_,_,_,_,_,_,h⟩:=h;exact h.elim⟩
noncomputable def qi(c:(gw)->gw):Nat->gw
 |0=>λ_=>.bad
 |m+1=>c (qi c m)
theorem AB{n}{F0:(gw)->gw}(hn:n=l.length)
 (c:∀{k d},kX P w K C i k f F l d->ik P w K C i k x l d)
 (step:∀h k,k0<=k->ik P w K C i k x l (iJ n K h)->kX P w K C i (k+st) f F l (iJ n K<|F0 h)):∀m:Nat,kX P w K C i (k0+m*st) f F l (iJ n K<|qi F0 m)
  |0=>by subst hn;exact TH
  |m+1=>by have:=step (qi F0 m) (k0+m*st) (Nat.le_add_right _ _) (c<|AB hn c step m);rw[Nat.succ_mul,<-Nat.add_assoc];exact this
def QG:lu X (.type "int") (λc H Q=>∃b:gL,c=[.bl b]/\Q (.int<|if b then 1 else 0) H):=by intro d s σ H c k Q I r h;obtain⟨b,rfl,q⟩:=h;obtain⟨u,rfl,j⟩:=vals1 r;cases j;exact call_int_bool ⟨.int _,H,I.tok _,⟨_,rfl⟩,q⟩
def th:gw
 |[.bl b]=>.ok (.int<|if b then 1 else 0)
 |ds=>intD ds
def Ja:og X E (.type "int") th:=by
 obtain⟨d,c,d0⟩:=Jb (X:=X) (E:=E);refine⟨_,QG.or c,λ{_ H _ _ _} fr r h=>?_⟩;unfold th at h;split at h
 ·obtain⟨v,rfl,q⟩:=gR.one r;cases q;exact .inl ⟨_,rfl,h H (.refl H) _<|.int _⟩
 ·exact .inr (d0 fr r h)
end
def nF(f:gp)(v:Z):gi (gp×Z)->gi (gp×Z)
 |[]=>[(f,v)]
 |(g,x)::r=>if g=f then(g,v)::r else(g,x)::nF f v r
section
variable{K:gF}{b:ji}{a:Lo}{H:Hp}
def jh.look(r:jh K b a H us zs){f:gp}(h:zs.lookup f=some z):∃v,us.lookup f=some v/\ka K b a H v z:=by
 induction r with
 |nil=>cases h
 |@cons k v d i c q _ j=>
  rw[cJ]at h⊢;cases e:f==k with
  |true=>simp_all
  |false=>simp_all
def jh.Mv(r:jh K b a H us zs){f:gp}(h:zs.lookup f=Option.none):us.lookup f=Option.none:=by
 induction r with
 |nil=>rfl
 |@cons k v d i c q _ j=>
  rw[cJ]at h⊢;cases e:f==k with
  |true=>simp_all
  |false=>lia
def jh.kA(r:jh K b a H us zs)(f)(q:ka K b a H v z):jh K b a H (L2.kA f v us) (nF f z zs):=by
 induction r with
 |nil=>exact .cons q .nil
 |@cons k m j l c h d i=>
  unfold L2.kA nF;by_cases e:k=f;·rw[af e,af e];exact .cons q d
  ·rw[ao e,ao e];exact .cons h i
def EY:NT (.ins C dx us):=λ_ h=>nomatch h
end
def oP(C:gr)(fo:iM)(f:gp):iM:=λρ S=>(fo ρ S).bind λz a=>match z with
 |.loc n=>(match a[n]? with
  |some (.ob c fs)=>if c=C then(match fs.lookup f with
   |some z=>.ok z a
   |none=>.bad)else .bad
  |_=>.bad)
 |_=>.bad
def rn(C:gr)(fo:iM)(f:gp)(d:iM):gZ:=λρ S=>toZ (d ρ S) λv h=>toZ (fo ρ h) λz a=>match z with
 |.loc n=>(match a[n]? with
  |some (.ob c fs)=>if c=C/\fs.length<1000 then .nx ρ (a.set n<|.ob c<|nF f v fs)else .bad
  |_=>.bad)
 |_=>.bad
def pj(C:gr)(fo:iM)(f:gp)(g:sQ)(k:iM):gZ:=λρ S=>toZ (fo ρ S) λz d=>match z with
 |.loc n=>(match d[n]? with
  |some (.ob l fs)=>if l=C then(match fs.lookup f with
   |some (.d (.int i))=>toZ (k ρ d) λv c=>(match v,c[n]? with
    |.d (.int j),some (.ob h a)=>if h=C/\a.length<1000 then .nx ρ (c.set n<|.ob h<|nF f (.d<|.int<|g i j) a)else .bad
    |_,_=>.bad)
   |_=>.bad)else .bad
  |_=>.bad)
 |_=>.bad
def FN(g:sQ):V->V->Hp->VK->Prop:=λx y H Q=>∃i j,x=.int i/\y=.int j/\Q (.int<|g i j) H
def zN:tY X .Add (FN λi j=>i+j):=V2
def V6:tY X .Sub (FN λi j=>i - j):=V5
def hY(C:gr)(m:gp)(F:hL)(f:ja)(fo:iM)(fs:mE):iM:=λρ S=>(fo ρ S).bind λz a=>match z with
 |.loc n=>(match a[n]? with
  |some (.ob i d)=>if i=C/\d.lookup m=none then(fs ρ a).bind λc h=>F (.loc n::(c++f.map .d)) h else .bad
  |_=>.bad)
 |_=>.bad
def vX(C:gr)(F:hL)(fs:mE):iM:=λρ S=>(fs ρ S).bind λf d=>match F (.loc d.length::f) (d++[.ob C []])with
 |.ok (.d .non) a=>.ok (.loc d.length) a
 |.ex c ns ds a=>.ex c ns ds a
 |_=>.bad
def lK(P:iQ)(w:iK)(K:gF)(l:iY)(c:gU)(k:Nat)(C:gr)(m:gp)(d:iH)(n:ja)(j:Sp):Prop:=
 ∃f h i a,kX P w K l c k f h d j/\Binds K h d i/\Vals a i/\(∀al H,gR K al H a n)/\Meth K C m f
def lK.up{w k}(G:lK P w K mg base j C m ps dz sp)(h:j<=k):lK P w K mg base k C m ps dz sp:=
 let⟨f,c,d,a,fo,r⟩:=G;⟨f,c,d,a,fo.mono h,r⟩
def pZ(P:iQ)(w:iK)(K:gF)(i:iY)(a:gU)(k:Nat)(C:gr)(c:iH)(h:Sp):Prop:=
 ∃f d,kX P w K i a k f d c h/\Binds K d c []/\Mk K C f
def pZ.up{w k}(G:pZ P w K mg base j C ps sp)(h:j<=k):pZ P w K mg base k C ps sp:=
 let⟨f,a,fo,r⟩:=G;⟨f,a,fo.mono h,r⟩
section
variable{X:Cx}{E:XK}{b:Nat}{o e l:hD}{A:jT}{pos p t J L:Pos}{fo M:iM}{fs:mE}{f m x:gp}{C:gr}{k n:Nat}{N:iH}{I:ja}{F:hL}
def ym(c:mS X.K C)(T:nL X.K C f)(U:ZE X E o fo)(hb:autoParam (attributeBase o f X.env (eval o X.env)=eval o X.env) aZ0):ZE X E (.Attribute o f pos) (oP C fo f):=by
 obtain⟨to,R,O⟩:=U;refine⟨_,aam R hb,λs h=>O s<|gP.mono (gP.split h) λ{_ j i H1 _} r x1 y1 d v G=>?_⟩;split at d
 ·rename_i n;split at d
  ·rename_i C' us q;split at d
   ·rename_i Y;subst Y;split at d
    ·rename_i z0 P;obtain⟨a,V,rfl⟩:=G;obtain⟨dx,z,g1,g2⟩:=r.cell V q;obtain⟨w,e1,e2⟩:=g2.look P;exact⟨a,_,dx,z,w,rfl,g1,c,T,e1,d j i H1 r .refl .refl w e2⟩
    ·exact d.elim
   ·exact d.elim
  ·exact d.elim
 ·exact d.elim
def A5(c:mS X.K C)(na:nL X.K C f)(ho:ZE X E o fo)(hv:ZE X E l M)(hs:autoParam (swapsWith l (some<|.Attribute o f J) pos.line X.env=pure false) aZ0):ZS X E b (.Assign [.Attribute o f J] l pos) (rn C fo f M):=by
 obtain⟨to,po,ro⟩:=ho;obtain⟨tv,pv,rv⟩:=hv;refine⟨_,aa2 po pv hs,λT s h=>rv s<|gP.mono (jm.nE h) λ{y _ _ _ _} s0 x0 y0 h0 r r0=>ro s0<|gP.mono (jm.nE h0) λ{z i O V _} v x1 y1 d v1 r1=>?_⟩;split at d
 ·rename_i n;split at d
  ·rename_i Y us q;split at d
   ·rename_i R;obtain⟨R,hl⟩:=R;subst R;obtain⟨a,P,rfl⟩:=r1;obtain⟨U,j,g1,g2⟩:=v.cell P q;have G:ka X.K i O V r y:=r0.mv x1 y1;have x2:Xt i V i (upd V a (.ins Y U (L2.kA f r j))):=λb o _ T eb=>⟨T,by rw[hA λz=>v.st.na n a P (by rw[<-z];exact T)];exact eb⟩;obtain⟨s4,x4⟩:=v.write P (o:=.ins Y U (L2.kA f r j)) (c:=.ob Y (nF f y us)) EY (λq w=>by unfold lJ at w;cases w) ⟨_,_,i8,jh.mv x2 .refl (g2.kA f G)⟩ nofun;exact⟨a,_,U,j,rfl,g1,c,na,by rw[g2.length];exact hl,d _ _ _ _ x4 s4⟩
   ·exact d.elim
  ·exact d.elim
 ·exact d.elim
def A6{op:Operator}{g:sQ}(U:tY X op<|FN g)(c:mS X.K C)(na:nL X.K C f)(ho:ZE X E o fo)(hv:ZE X E l M):ZS X E b (.AugAssign (.Attribute o f L) op l pos) (pj C fo f g M):=by
 obtain⟨to,po,ro⟩:=ho;obtain⟨tv,pv,rv⟩:=hv;refine⟨_,aa3 po pv U,λV s h=>ro s<|gP.mono (jm.nE h) λ{z _ _ _ _} s1 x1 y1 d v1 r1=>?_⟩;split at d
 ·rename_i n;split at d
  ·rename_i C' us q;split at d
   ·rename_i O;subst O;split at d
    ·rename_i i q0;obtain⟨a,hn,rfl⟩:=r1;obtain⟨dx,vs,g1,g2⟩:=s1.cell hn q;obtain⟨w,e1,e2⟩:=g2.look q0;have ew:w=.int i:=by cases e2;rfl
     subst ew;refine⟨a,_,dx,vs,_,rfl,g1,c,na,e1,rv s1<|gP.mono (jm.nE d) λ{_ R _ H2 _} T x2 y2 P u ru=>?_⟩;split at P
     ·rename_i j C2 Y q2;split at P
      ·rename_i O;obtain⟨O,hl⟩:=O;subst O;have eu:u=.int j:=by cases ru;rfl
       subst eu;have v:=y2 n a hn;obtain⟨G,r,g3,g4⟩:=T.cell v q2;have x3:Xt R H2 R (upd H2 a (.ins C2 G (L2.kA f (.int (g i j)) r))):=λb o _ V eb=>⟨V,by rw[hA λz=>T.st.na n a v (by rw[<-z];exact V)];exact eb⟩;obtain⟨s4,x4⟩:=T.write v (o:=.ins C2 G (L2.kA f (.int (g i j)) r)) (c:=.ob C2 (nF f (.d (.int (g i j))) Y)) EY (λq w=>by unfold lJ at w;cases w) ⟨_,_,i8,jh.mv x3 .refl (g4.kA f (.int _))⟩ nofun;exact⟨i,j,rfl,rfl,G,r,g3,by rw[g4.length];exact hl,P _ _ _ _ x4 s4⟩
      ·exact P.elim
     ·exact P.elim
    ·exact d.elim
   ·exact d.elim
  ·exact d.elim
 ·exact d.elim
def NN{lo}(r:jw K al lo H vs zs)(q:gR K al H ws ds):jw K al lo H (vs++ws) (zs++ds.map .d):=r.append (.ofD q)
def Mf{lo}(s:RZ X.K B al lo H σ ρ S)(R:jw X.K al lo H vs zs)(T:vs.length=n)
 (h:gP X.K B E al lo H σ ρ (F zs S) (λz G r H' _=>∀v,ka X.K G r H' v z->Q v H')):jv n X.K F vs H Q E:=by
  refine⟨T,s.tt,al,lo,zs,S,s.fresh,s.st,R,?_⟩;cases q:F zs S with
  |bad=>rw[q]at h;exact h.elim
  |ex c Y ds V=>rw[q]at h;exact λd a O U i P=>h d a O U (s.toEZ.trans i) P
  |ok z V=>rw[q]at h;exact λd a O v i j=>h d a O (s.after i) i.xt i.lx v j
def afx{pl}(G:lK X.prog X.w X.K X.mg X.base k C m N I<|jv n X.K F)(c:mS X.K C)(hr:iX k X.A)(hx:Passes (iu X.prog X.w) X E)(ho:ZE X E o fo)(ha:ZA X E (e::A) fs)(hn:(e::A).length+1+I.length=n)
 (P:autoParam (X.se e A) aZ0)(R:autoParam (X.bk pos A) aZ0)
 (ht:autoParam (eval (.Call (.Attribute o m t) (e::A) [] pos) X.env=(do
 let ov<-eval o X.env
 standAt t.atName
 let(f,first)<-holding [ov] (getMethod ov m pl)
 callWith pos f first (backTo pos (starEach (e::A) X.env)) (backToKw pos (keywordEach [] X.env)))) aZ0):
  ZE X E (.Call (.Attribute o m t) (e::A) [] pos) (hY C m F I fo fs):=by
  obtain⟨to,po,ro⟩:=ho;obtain⟨ta,pa,ra,lb⟩:=ha;obtain⟨f,fd,ds,SN,U,bi,va,rd,me⟩:=G;refine⟨_,aas po c me U hr bi va hx pa P R ht,λ{_ _ _ _ _ ρ _ _} s h=>ro s<|gP.mono (gP.split h) λ{_ _ _ _ S1} Y x1 y1 d v rv=>?_⟩;split at d
  ·rename_i j;split at d
   ·rename_i C' us q;split at d
    ·rename_i T;obtain⟨T,hl⟩:=T;subst T;obtain⟨a,r,rfl⟩:=rv;obtain⟨dx,vs,g1,g2⟩:=Y.cell r q;refine⟨a,dx,vs,rfl,g1,g2.Mv hl,ra Y ?_⟩;cases O:fs ρ S1 with
     |bad=>rw[O]at d;exact d.elim
     |ex c ns ds S2=>rw[O]at d;exact d
     |ok zs S2=>
      rw[O]at d;have ll:=lb _ _ _ _ O;intro z LS H2 s2 x2 V ws i;refine Mf s2 (zs:=.loc j::(zs++I.map .d)) (.cons ⟨a,V _ _ r,rfl⟩<|NN i<|rd z H2) ?_ (gP.up d x2 V);have:=(rd z H2).length;rw[ag,aa,i.length,this,ll,<-hn]
      lia
    ·exact d.elim
   ·exact d.elim
  ·exact d.elim
def Pg{pl:Sem gL}(G:lK X.prog X.w X.K X.mg X.base k C m N I<|jv n X.K F)(c:mS X.K C)(hr:iX k X.A)(hx:Passes (iu X.prog X.w) X E)(ho:ZE X E o fo)(hn:1+I.length=n)
    (ht:autoParam (eval (.Call (.Attribute o m t) [] [] pos) X.env=(do
      let ov<-eval o X.env
      standAt t.atName
      let(f,first)<-holding [ov] (getMethod ov m pl)
      callWith pos f first (backTo pos (starEach [] X.env)) (backToKw pos (keywordEach [] X.env)))) aZ0):
    ZE X E (.Call (.Attribute o m t) [] [] pos) (hY C m F I fo gA):=by
 obtain⟨to,po,ro⟩:=ho;obtain⟨f,fd,ds,SN,T,bi,va,rd,me⟩:=G;refine⟨_,aat po c me T hr bi va hx ht,λ{B _ _ _ σ ρ _ Q} s h=>ro s<|gP.mono (gP.split h) λ{z i O V S1} Y x1 y1 d v rv=>?_⟩;split at d
 ·rename_i j;split at d
  ·rename_i C' us q;split at d
   ·rename_i R;obtain⟨R,hl⟩:=R;subst R;obtain⟨a,r,rfl⟩:=rv;obtain⟨dx,vs,g1,g2⟩:=Y.cell r q;refine⟨a,dx,vs,rfl,g1,g2.Mv hl,?_⟩;have d:gP X.K B E i O V σ ρ (F (.loc j::([]++I.map .d)) S1) (λz U P H' _=>∀v,ka X.K U P H' v z->Q v H'):=d;refine Mf Y (zs:=.loc j::([]++I.map .d)) (.cons ⟨a,r,rfl⟩<|NN .nil<|rd i V) ?_ d;have:=(rd i V).length;rw[ag,aa,this,<-hn];simp;walk_at "l"
   ·exact d.elim
  ·exact d.elim
 ·exact d.elim
def XH{lo}{Q:VK}(s:RZ X.K B al lo H σ ρ S)(rv:jw X.K al lo H vs zs)(hl:vs.length+1=n)
 (h:gP X.K B E al lo H σ ρ (match F (.loc S.length::zs) (S++[.ob C []])with
 |.ok (.d .non) G=>RX.ok (Z.loc S.length) G
 |.ex c ns ds G=>.ex c ns ds G
 |_=>.bad) (λz T R H' _=>∀v,ka X.K T R H' v z->Q v H'))(hy:H y=none)(hd:H dx=none)(ne:dx≠y):jv n X.K F (.ref y::(vs++[])) (upd (upd H dx (.own y)) y (.ins C dx [])) (λv H2=>v=.non/\Q (.ref y) H2) E:=by
  have s1:=s.grow (lO (K:=X.K) (o:=.own y) hd);have r:(upd H dx<|.own y) y=none:=by rw[hA<|bQ ne];exact hy
  have hc:lR X.K (λb=>al b/\b≠y) (lY lo S.length y) (upd (upd H dx<|.own y) y<|.ins C dx []) y (.ob C []):=⟨dx,[],i8,.nil⟩;have q:=s1.new r EY hc nofun;have Y:Xt al H (λb=>al b/\b≠y) (upd (upd H dx<|.own y) y<|.ins C dx []):=(Xt.of<|lO (K:=X.K) (o:=.own y) hd).trans (vW r);have V:=rP s1.st y;have hn:lY lo S.length y S.length=some y:=by unfold lY;rw[af rfl]
  refine⟨by rw[aP,ag];exact hl,q.tt,_,_,.loc S.length::zs,S++[.ob C []],q.fresh,q.st,.cons ⟨y,hn,rfl⟩<|by rw[aP];exact rv.mv Y V,?_⟩;cases P:F (.loc S.length::zs) (S++[.ob C []])with
  |bad=>rw[P]at h;exact h.elim
  |ex c ns ds G=>rw[P]at h;exact λi a U dx j xr=>h i a U dx (q.toEZ.trans j) xr
  |ok z G=>
   rw[P]at h;cases z with
   |d d=>
    cases d with
    |non=>
     intro i a U v j O;have ev:v=.non:=by cases O;rfl
     exact⟨ev,h i a U (q.after j) (Y.trans j.xt) (V.trans j.lx) _ ⟨y,j.lx _ _ hn,rfl⟩⟩
    |_=>exact h.elim
   |_=>exact h.elim
def afw(G:pZ X.prog X.w X.K X.mg X.base k C N<|jv n X.K F)(hr:iX (k+1) X.A)(hg:Gl X x)(hm:X.mg x=some (.ref C))(hx:Passes (iu X.prog X.w) X E)(ha:ZA X E (e::A) fs)(hn:(e::A).length+1=n)
 (d:autoParam (jl x) aZ1)(he:autoParam (X.se e A) aZ0)(a:autoParam (X.bk pos A) aZ0):
   ZE X E (.Call (.Name x p) (e::A) [] pos) (vX C F fs):=by
  obtain⟨ta,P,O,V⟩:=ha;obtain⟨f,fd,i,bi,mk⟩:=G;refine⟨_,aar mk i hr hg hm bi .nil hx P d he a,λ{_ _ _ _ _ ρ S _} s h=>O s ?_⟩;unfold vX at h;cases q:fs ρ S with
  |bad=>rw[q]at h;exact h.elim
  |ex c ns ds S1=>rw[q]at h;exact h
  |ok zs S1=>rw[q]at h;intro Io T H1 z v r vs j y dx Y hd R;have U:=V _ _ _ _ q;exact XH z j (by rw[j.length,U];exact hn) (gP.up h v r) Y hd R
end
abbrev _root_.sM:=lT (gH gE)
structure pB(K:gF)(x qual:gp)(st:Stmt)(dV:gE)(f:gr)(fd:kP):Prop where
 ex:∃(oc:gE) (od:kD) (kV doc pm:gE) (an:kD) (cdv ct:gE) (osl:sM),
  fd=W.fnOf x qual (ny st) (kx st) (iz st) dV kV doc pm an cdv ct/\K.lookup f=some ⟨oc,od,.func fd,osl⟩/\W.codeIn K cdv qual=true
 kp:W.keepIn K (.ref f)=true
variable{P:iQ}{w:iK}{K:gF}{T:iY}{O:gU}
def Kn{x}{st}{f}{dV kV}(l:K.lookup f=some ⟨oc,od,.func<|W.fnOf x qual (ny st) (kx st) (iz st) dV kV doc pm an cdv ct,osl⟩)
 (c:W.codeIn K cdv qual=true)(k:W.keepIn K (.ref f)=true):pB K x qual st dV f (W.fnOf x qual (ny st) (kx st) (iz st) dV kV doc pm an cdv ct):=⟨⟨oc,od,kV,doc,pm,an,cdv,ct,osl,rfl,l,c⟩,k⟩
def TL{x}{st}{dV}{f}{m}{k}{g:Nat->gZ}(F:pB K x qual st dV f fd)(S:pz N m<|iz st)
 (i:∀(b:Nat) (d:gE) (A:jd) (a:kH) (s:gQ) (H:Hp) (E:XK),iX k (iL (iu P w) P w K T O N qual (iz st) f d A a s H E).A->nN (iL (iu P w) P w K T O N qual (iz st) f d A a s H E) E b (kx st) (g b)):
   kX P w K T O (k+1) f fd m (jv m.length K λl S=>g7<|g S.length (ij N.length l) S):=by
  obtain⟨oc,Z,kV,V,Y,an,d,ct,M,rfl,R,o⟩:=F.ex;refine C9 R o S (λG H Q E h=>h.1) λA a s H G Q E U h=>?_;obtain⟨hl,I,al,lo,l,j,fr,st,L,h⟩:=h;obtain⟨t,p,r⟩:=i j.length d A a s H E U;dsimp only at h;refine⟨t,p,r (B:=⟨H,al,lo,j.length⟩) rfl (N2 I fr st L) ?_⟩;cases q:g j.length (ij N.length l) j with
  |nx ρ C=>rw[q]at h;exact λv n H' D _ J=>h v n H' .non J.toEZ .non
  |rt z C=>rw[q]at h;exact h
  |ex c ns es C=>rw[q]at h;exact h
  |_=>rw[q]at h;exact h.elim
def pB.binds{x}{st}{dV}{f}{ps}(F:pB K x qual st dV f fd)
 (h:∀(kV a i:gE) (j:kD) (c ct:gE) (d:jP),d.length=ps.length->bindArgs (W.fnOf x qual (ny st) (kx st) (iz st) dV kV a i j c ct) ⟨d,[]⟩=pure (ps.zip d)):Binds K fd ps []:=by obtain⟨n,m,kV,a,i,j,c,ct,k,rfl,o,l⟩:=F.ex;exact .all (h kV a i j c ct)
def pB.IJ{x c:gp}{st:Stmt}{l f:gr}{v:kP}{ps:iH}{ds:jP}{o:kQ}{a:qI}{n:Nat}(F:pB K x c st (.ref l) f v)(D:K.lookup l=some o)(C:o.data=.seq a n)
    (h:∀(kV d m:gE) (q:kD) (i ct:gE) (j:jP),j.length+ds.length=ps.length->∃k:gH (lT gE)->Sem (gi<|gp×gE),bindArgs (W.fnOf x c (ny st) (kx st) (iz st) (.ref l) kV d m q i ct) ⟨j,[]⟩=seqItems? (.ref l)>>=k/\k (some a)=pure (ps.zip<|j++ds)):Binds K v ps ds:=by
 obtain⟨M,L,kV,d,m,q,i,ct,z,rfl,N,G⟩:=F.ex;intro s j p r;rw[aa]at r;obtain⟨k,J,I⟩:=h kV d m q i ct j r;exact .of_defaults rfl (p _ _ D) C J I
end P2
namespace WR
open PySem L2 P2 WP
def Dq(a:Ad):g0:=(gy (gS 1 (je (kS (λρ=>((dV 0) ρ).bind mi) 1 [] (gV 0) (λ_=>.ok true) (nR (b1 tB (d2 nB (dV 0) (dC (.str "abcdefghijklmnopqrstuvwxyz0123456789/")))) (dV 0) ((g8 (dC (.str " ")) (g8 (d1 iI (dV 0)) (g8 (dC (.str " ")) kn))) Str.empty)))))
    (g9 (je (kS (λρ=>((jW "str" oH (jW "str" k4 (dC (.str "")) (gh (dV 1) gk)) (gh (dC (.str " ")) gk)) ρ).bind mi) 1 [] (gV 0) (b1 tB (d2 ky (dV 0) (dC (.str "")))) (dV 0)))))
def uS(a:Ad)(c:gw)(b:Nat):gZ:=(gG (rn a.Tokens (zV 0) "tokens" (zD (dA c (gh (dV 1) gk))))
    (gG (rn a.Tokens (zV 0) "place" (zD (gq 0)))
    (gG (rn a.Tokens (zV 0) "parts" (zD (gq 0)))
    (rn a.Tokens (zV 0) "brackets" (zD (gq 0))))))
def zw(a:Ad)(b:Nat):gZ:=(gG (iy 2 (z2 gv (oP a.Tokens (zV 0) "place") (zD (dV 1))))
    (jE (A2 (j6 tB (z2 oZ (zD (dV 2)) (zF ih (gx (oP a.Tokens (zV 0) "tokens") gA)))) (z2 gK (oP a.Tokens (zV 0) "tokens") (zD (dV 2))) (zD (gs "")))))
def uV(a:Ad)(c:hL)(b:Nat):gZ:=(gG (iy 1 (hY a.Tokens "ahead" c [(.int 0)] (zV 0) gA))
    (gG (jg (zB (b1 tB (d2 gW (dV 1) (gs "")))) (λρ S=>leave ((λρ=>toS ((gh (gq 1) gk) ρ) λd=>.ex a.NoText ["row"] d) (iO ρ)) S) j5)
    (gG (pj a.Tokens (zV 0) "place" (λi j=>i+j) (zD (gq 1)))
    (jE (zD (dV 1))))))
def uU(a:Ad)(c:hL)(b:Nat):gZ:=(jg (j6 tB<|z2 ky (hY a.Tokens "take" c [] (zV 0) gA)<|zD<|dV 1) (λρ S=>leave ((λρ=>toS ((gh (gq 1) gk) ρ) λd=>.ex a.NoText ["row"] d) (iO ρ)) S) j5)
def zA(a:Ad)(c:hL)(b:Nat):gZ:=(jg (j6 tB<|z2 ky (hY a.Tokens "ahead" c [(.int 0)] (zV 0) gA)<|zD<|gs "") (λρ S=>leave ((λρ=>toS ((gh (gq 1) gk) ρ) λd=>.ex a.NoText ["row"] d) (iO ρ)) S) j5)
def zx(a:Ad)(b:Nat):gZ:=(gG (pj a.Tokens (zV 0) "parts" (λi j=>i+j) (zD (gq 1)))
    (jg (j6 tB (z2 jX (oP a.Tokens (zV 0) "parts") (zD (gq 30)))) (λρ S=>leave ((λρ=>toS ((gh (gq 1) gk) ρ) λc=>.ex a.NoText ["row"] c) (iO ρ)) S) j5))
def zy(a:Ad)(c:hL)(b:Nat):gZ:=(gG (jD (hY a.Tokens "expect" c [] (zV 0) (gx (zD (dV 1)) gA)))
    (gG (pj a.Tokens (zV 0) "brackets" (λi j=>i+j) (zD (gq 1)))
    (jg (j6 tB (z2 jX (oP a.Tokens (zV 0) "brackets") (zD (gq 16)))) (λρ S=>leave ((λρ=>toS ((gh (gq 1) gk) ρ) λd=>.ex a.NoText ["row"] d) (iO ρ)) S) j5)))
def zC(a:Ad)(c:hL)(b:Nat):gZ:=(gG (jD (hY a.Tokens "expect" c [] (zV 0) (gx (zD (dV 1)) gA)))
    (pj a.Tokens (zV 0) "brackets" (λi j=>i - j) (zD (gq 1))))
def DY(a:Ad)(d f c:hL)(b:Nat):gZ:=(gG (jD (hY a.Tokens "enter" d [] (zV 0) (gx (zD (gs "(")) gA)))
    (gG (iy 1 (zZ f (gx (zV 0) gA)))
    (gG (jD (hY a.Tokens "leave" c [] (zV 0) (gx (zD (gs ")")) gA)))
    (jE (zD (dV 1))))))
def D4(a:Ad)(j k d:gw)(i c h f:hL)(b:Nat):gZ:=(gG (jg (j6 tB (z2 gW (hY a.Tokens "ahead" i [(.int 0)] (zV 0) gA) (zD (gs "(")))) (jE (zZ c (gx (zV 0) gA))) j5)
    (gG (jD (hY a.Tokens "begin_part" h [] (zV 0) gA))
    (gG (iy 1 (hY a.Tokens "take" f [] (zV 0) gA))
    (gG (jg (zB (b1 tB (d2 gW (dV 1) (gs "here")))) (jE (zD (dA gY (gh (gs "here") gk)))) j5)
    (gG (jg (zB (b1 tB (d2 i7 (dV 1) (dA gY (gh (gs "back") (gh (gs "on") (gh (gs "ago") (gh (gs "until") gk)))))))) (jE (zF gY (gx (zD (dV 1)) (gx (zF j (gx (hY a.Tokens "take" f [] (zV 0) gA) (gx (zD (gq 1)) (gx (zD (gq 9)) gA)))) gA)))) j5)
    (gG (jg (zB (b1 tB (d2 gW (dV 1) (gs "at")))) (jE (zF gY (gx (zD (gs "at")) (gx (zF k (gx (hY a.Tokens "take" f [] (zV 0) gA) gA)) gA)))) j5)
    (gG (jg (zB (b1 tB (d2 gW (dV 1) (gs "abs")))) (jE (zF gY (gx (zD (gs "abs")) (gx (zZ c (gx (zV 0) gA)) gA)))) j5)
    (jE (zD (dA gY (gh (gs "num") (gh (dA d (gh (dV 1) gk)) gk))))))))))))
def zv(a:Ad)(c:gw)(i f j h d:hL)(b:Nat):gZ:=(gG (jg (j6 tB (z2 ky (hY a.Tokens "ahead" i [] (zV 0) (gx (zD (gq 1)) gA)) (zD (gs "*")))) (jE (zZ f (gx (zV 0) gA))) j5)
    (gG (iy 1 (zF c (gx (hY a.Tokens "take" j [] (zV 0) gA) gA)))
    (gG (jD (hY a.Tokens "expect" h [] (zV 0) (gx (zD (gs "*")) gA)))
    (gG (jD (hY a.Tokens "begin_part" d [] (zV 0) gA))
    (jE (zF gY (gx (zD (gs "times")) (gx (zD (dV 1)) (gx (zZ f (gx (zV 0) gA)) gA)))))))))
def Ca(a:Ad)(d h f c:hL):gZ:=(gG (iy 2 (hY a.Tokens "take" f [] (zV 0) gA))
    (gG (jD (hY a.Tokens "begin_part" c [] (zV 0) gA))
    (iy 1 (zF gY (gx (zD (dV 2)) (gx (zD (dV 1)) (gx (zZ d (gx (zV 0) gA)) gA)))))))
def D6(a:Ad)(c f h d:hL)(b:Nat):gZ:=(gG (iy 1 (zZ c (gx (zV 0) gA)))
    (gG (mx (j6 tB (z2 i7 (hY a.Tokens "ahead" f [(.int 0)] (zV 0) gA) (zD (dA gY (gh (gs "+") (gh (gs "-") gk)))))) (Ca a c f h d) 100)
    (jE (zD (dV 1)))))
def DZ(a:Ad)(c d f:hL)(b:Nat):gZ:=(gG (jD (hY a.Tokens "begin_part" c [] (zV 0) gA))
    (gG (iy 1 (zZ d (gx (zV 0) gA)))
    (gG (iy 2 (hY a.Tokens "take" f [] (zV 0) gA))
    (gG (jg (zB (b1 tB (d2 tq (dV 2) (dA gY (gh (gs "<") (gh (gs "=") gk)))))) (λρ S=>leave ((λρ=>toS ((gh (gq 1) gk) ρ) λh=>.ex a.NoText ["row"] h) (iO ρ)) S) j5)
    (jE (zF gY (gx (zD (dV 2)) (gx (zD (dV 1)) (gx (zZ d (gx (zV 0) gA)) gA)))))))))
def D2(a:Ad)(f h c k j l i d:hL)(b:Nat):gZ:=(gG (jg (j6 tB (z2 gW (hY a.Tokens "ahead" f [(.int 0)] (zV 0) gA) (zD (gs "not")))) (gG (jD (hY a.Tokens "expect" h [] (zV 0) (gx (zD (gs "not")) gA)))
    (gG (jD (hY a.Tokens "begin_part" c [] (zV 0) gA))
    (jE (zF gY (gx (zD (gs "not")) (gx (zZ k (gx (zV 0) gA)) gA)))))) j5)
    (gG (jg (j6 tB (z2 gW (hY a.Tokens "ahead" f [(.int 0)] (zV 0) gA) (zD (gs "[")))) (gG (jD (hY a.Tokens "enter" j [] (zV 0) (gx (zD (gs "[")) gA)))
    (gG (iy 1 (zZ l (gx (zV 0) gA)))
    (gG (jD (hY a.Tokens "leave" i [] (zV 0) (gx (zD (gs "]")) gA)))
    (jE (zD (dV 1)))))) j5)
    (jE (zZ d (gx (zV 0) gA)))))
def Iy(a:Ad)(f h d c:hL):gZ:=(gG (jD (hY a.Tokens "expect" d [] (zV 0) (gx (zD (gs "and")) gA)))
    (gG (jD (hY a.Tokens "begin_part" c [] (zV 0) gA))
    (iy 1 (zF gY (gx (zD (gs "and")) (gx (zD (dV 1)) (gx (zZ f (gx (zV 0) gA)) gA)))))))
def DV(a:Ad)(h d f c:hL)(b:Nat):gZ:=(gG (iy 1 (zZ h (gx (zV 0) gA)))
    (gG (mx (j6 tB (z2 gW (hY a.Tokens "ahead" d [(.int 0)] (zV 0) gA) (zD (gs "and")))) (Iy a h d f c) 100)
    (jE (zD (dV 1)))))
def Iz(a:Ad)(f h d c:hL):gZ:=(gG (jD (hY a.Tokens "expect" d [] (zV 0) (gx (zD (gs "or")) gA)))
    (gG (jD (hY a.Tokens "begin_part" c [] (zV 0) gA))
    (iy 1 (zF gY (gx (zD (gs "or")) (gx (zD (dV 1)) (gx (zZ f (gx (zV 0) gA)) gA)))))))
def D3(a:Ad)(h d f c:hL)(b:Nat):gZ:=(gG (iy 1 (zZ h (gx (zV 0) gA)))
    (gG (mx (j6 tB (z2 gW (hY a.Tokens "ahead" d [(.int 0)] (zV 0) gA) (zD (gs "or")))) (Iz a h d f c) 100)
    (jE (zD (dV 1)))))
def D7(a:Ad)(d c:hL)(b:Nat):gZ:=(gG (iy 1 (zZ d (gx (zV 0) gA)))
    (gG (jD (hY a.Tokens "expect_end" c [] (zV 0) gA))
    (jE (zD (dV 1)))))
end WR
namespace WC
open PySem L2 P2 WP
def B9(a:Ad):g0:=(gy (gS 4 (d2 hR (dV 2) (dV 3)))
    (gy (gS 2 (dV 3))
    (gS 3 (dV 4))))
def Dy(a:Ad):g0:=(gy (gS 2 (dV 0))
    (gy (gS 3 (dV 1))
    (gy (pV (b1 tB (d2 jX (dV 3) (gq 0))) (B9 a) wC)
    (g9 (dA gY (gh (d2 iE (dV 0) (dV 2)) (gh (d2 iE (dV 1) (dV 2)) gk)))))))
def wV(a:Ad)(c:gw):g0:=(gy (iA (b1 tB (d2 gW (d2 hR (dV 0) (gq 3)) (gq 0))) (g9 (dA gY (gh (d2 hR (d2 iE (dV 0) (gq 3)) (gq 9)) (gh (gq 1) gk)))) iC)
    (gy (iA (b1 tB (d2 gW (d2 hR (dV 0) (gq 3)) (gq 1))) (g9 (dA c (gh (d2 hR (d2 iE (dV 0) (gq 3)) (gq 12)) (gh (d2 gv (gq 1) (d2 hR (d2 iE (dV 0) (gq 36)) (gq 7))) gk)))) iC)
    (g9 (dA c (gh (d2 hR (d2 iE (dV 0) (gq 3)) (d2 rZ (gq 10) (gq 9))) (gh (d2 gv (gq 1) (d2 hR (d2 iU (dV 0) (gq 48271)) (gq 999983))) gk))))))
def Dz(a:Ad):g0:=(gy (gS 2 (d2 gv (gq 1) (d2 hR (dV 0) (gq 8))))
    (gy (gS 3 (d2 hR (d2 iE (dV 0) (gq 8)) (dV 2)))
    (g9 (d2 gv (d2 gv (d2 iU (gs "q") (dV 3)) (d2 gK (gs "zbxk") (d2 hR (dV 1) (gq 4)))) (d2 iU (gs "q") (d2 pQ (d2 pQ (dV 2) (gq 1)) (dV 3)))))))
def DL(a:Ad):g0:=(gy (gS 1 (dA lQ (gh (i6 0 0) gk)))
    (gy (iA (b1 tB (d2 jX (i6 0 1) (gq 1))) (gS 1 (d2 gv (d2 gv (dV 1) (gs "/")) (dA lQ (gh (i6 0 1) gk)))) iC)
    (g9 (dV 1))))
def uN(a:Ad)(c d f:gw):g0:=(gy (gS 2 (d2 hR (dV 1) (gq 8)))
    (gy (gS 3 (d2 gv (gq 1) (d2 hR (d2 iE (dV 1) (gq 8)) (gq 9))))
    (gy (iA (b1 tB (d2 oZ (dV 2) (gq 2))) (gy (gS 4 (dA c (gh (d2 iE (dV 1) (gq 8)) gk)))
    (g9 (dA gY (gh (dA gY (gh (gs "num") (gh (dV 4) gk))) (gh (dA d (gh (dV 4) gk)) (gh (gq 3) gk)))))) iC)
    (gy (iA (b1 tB (d2 gW (dV 2) (gq 2))) (g9 (dA gY (gh (dA gY (gh (gs "here") gk)) (gh (gs "here") (gh (gq 3) gk))))) iC)
    (gy (iA (b1 tB (d2 gW (dV 2) (gq 7))) (gy (gS 5 (dA f (gh (dV 0) (gh (d2 iE (dV 1) (gq 8)) gk))))
    (g9 (dA gY (gh (dA gY (gh (gs "at") (gh (dV 5) gk))) (gh (d2 gv (gs "at ") (dV 5)) (gh (gq 3) gk)))))) iC)
    (gy (gS 6 (d2 gK (je (λρ=>((gh (gs "back") (gh (gs "on") (gh (gs "ago") (gh (gs "until") gk)))) ρ).bind js)) (d2 pQ (dV 2) (gq 3))))
    (g9 (dA gY (gh (dA gY (gh (dV 6) (gh (dV 3) gk))) (gh (d2 gv (d2 gv (dV 6) (gs " ")) (dA lQ (gh (dV 3) gk))) (gh (gq 3) gk)))))))))))
def DF(a:Ad):g0:=(gy (iA (b1 tB (d2 oZ (d2 gK (dV 0) (dC (.int 2))) (dV 1))) (g9 (d2 gv (d2 gv (d2 gK (dV 2) (dC (.int 0))) (d2 gK (dV 0) (dC (.int 1)))) (d2 gK (dV 2) (dC (.int 1))))) iC)
    (g9 (d2 gK (dV 0) (dC (.int 1)))))
def DQ(a:Ad)(c:gw):g0:=(gy (gS 3 (d2 gv (d2 gv (d2 gv (d2 gv (dA c (gh (dV 0) (gh (dC (.int 1)) (gh (dC (.str "()")) gk)))) (dC (.str " "))) (dV 2)) (dC (.str " "))) (dA c (gh (dV 1) (gh (dC (.int 2)) (gh (dC (.str "()")) gk))))))
    (g9 (dA gY (gh (dA gY (gh (dV 2) (gh (d2 gK (dV 0) (dC (.int 0))) (gh (d2 gK (dV 1) (dC (.int 0))) gk)))) (gh (dV 3) (gh (dC (.int 1)) gk))))))
def zu(a:Ad)(c d f:gw):g0:=(gy (iA (b1 tB (d2 gW (d2 hR (dV 1) (dC (.int 2))) (dC (.int 0)))) (g9 (dA gY (gh (dA gY (gh (dC (.str "abs")) (gh (d2 gK (dV 0) (dC (.int 0))) gk))) (gh (d2 gv (d2 gv (dC (.str "abs(")) (d2 gK (dV 0) (dC (.int 1)))) (dC (.str ")"))) (gh (dC (.int 3)) gk))))) iC)
    (gy (gS 2 (dA c (gh (d2 iE (dV 1) (dC (.int 2))) gk)))
    (g9 (dA gY (gh (dA gY (gh (dC (.str "times")) (gh (dV 2) (gh (d2 gK (dV 0) (dC (.int 0))) gk)))) (gh (d2 gv (d2 gv (dA d (gh (dV 2) gk)) (dC (.str " * "))) (dA f (gh (dV 0) (gh (dC (.int 3)) (gh (dC (.str "()")) gk))))) (gh (dC (.int 2)) gk)))))))
def Dt(a:Ad):g0:=(g9<|dA gY<|gh (dA gY<|gh (dV 2)<|gh (d2 gK (dV 0)<|dC<|.int 0)<|gh (d2 gK (dV 1)<|dC<|.int 0) gk)<|gh (d2 gv (d2 gv (d2 gv (d2 gv (d2 gK (dV 0)<|dC<|.int 1)<|dC<|.str " ")<|dV 2)<|dC<|.str " ")<|d2 gK (dV 1)<|dC<|.int 1)<|gh (dC<|.int 4) gk)
def Dx(a:Ad)(c:gw):g0:=(gy (gS 3 (d2 gv (dC (.int 1)) (dA th (gh (d2 gW (dV 2) (dC (.str "and"))) gk))))
    (gy (gS 4 (d2 gv (d2 gv (d2 gv (d2 gv (dA c (gh (dV 0) (gh (dV 3) (gh (dC (.str "[]")) gk)))) (dC (.str " "))) (dV 2)) (dC (.str " "))) (dA c (gh (dV 1) (gh (d2 gv (dV 3) (dC (.int 1))) (gh (dC (.str "[]")) gk))))))
    (g9 (dA gY (gh (dA gY (gh (dV 2) (gh (d2 gK (dV 0) (dC (.int 0))) (gh (d2 gK (dV 1) (dC (.int 0))) gk)))) (gh (dV 4) (gh (dV 3) gk)))))))
def Dv(a:Ad)(c:gw):g0:=(g9<|dA gY<|gh (dA gY<|gh (dC<|.str "not")<|gh (d2 gK (dV 0)<|dC<|.int 0) gk)<|gh (d2 gv (dC<|.str "not ")<|dA c<|gh (dV 0)<|gh (dC<|.int 3)<|gh (dC<|.str "[]") gk)<|gh (dC<|.int 3) gk)
def DK(a:Ad):g0:=(gy (gS 2 (d2 gv (dV 1) (d2 iE (d2 gv (dV 0) (gq 1)) (gq 2))))
    (g9 (d2 gv (d2 gv (d2 gv (d2 iE (d2 gv (dV 0) (gq 1)) (gq 2)) (d2 hR (dV 0) (gq 2))) (dA tj (gh (gq 0) (gh (d2 pQ (dV 2) (gq 1)) gk)))) (d2 iU (gq 3) (dA th (gh (d2 gW (dV 2) (gq 0)) gk))))))
def DM(a:Ad)(j c d h f i:gw)(b:Nat):gZ:=(gG (iy 3 (kc (zV 0) (gs "terms")))
    (gG (iy 4 (kc (zV 0) (gs "conds")))
    (gG (iy 5 (zD (d2 hR (dV 1) (gq 16))))
    (gG (jg (jS (mj (b1 tB (d2 i7 (dV 5) (dA gY (gh (gq 6) (gh (gq 7) gk))))) (b1 tB (d2 jX (dA ih (gh (dV 3) gk)) (gq 1))))) (gG (iy 6 (my 3))
    (ma 3 (zF j (gx (my 3) (gx (zD (dV 6)) (gx (zD (d2 gK (je (λρ=>((gh (gs "+") (gh (gs "-") gk)) ρ).bind js)) (d2 pQ (dV 5) (gq 6)))) gA)))))) (jg (rp (zB (b1 tB (d2 i7 (dV 5) (dA gY (gh (gq 8) (gh (gq 9) gk)))))) (rp (jS (b1 tB (d2 jX (dA ih (gh (dV 3) gk)) (gq 0)))) (j6 tB (z2 oZ (kc (zV 0) (gs "over")) (zD (gq 3)))))) (gG (ma 3 (zF c (gx (my 3) (gx (zD (d2 iE (dV 1) (gq 16))) gA))))
    (rm (zV 0) (gs "over") (z2 gv (kc (zV 0) (gs "over")) (zD (gq 1))))) (jg (jS (mj (b1 tB (d2 i7 (dV 5) (dA gY (gh (gq 10) (gh (gq 11) gk))))) (b1 tB (d2 jX (dA ih (gh (dV 3) gk)) (gq 1))))) (gG (iy 6 (my 3))
    (ma 4 (zF d (gx (my 3) (gx (zD (dV 6)) (gx (zD (d2 gK (je (λρ=>((gh (gs "<") (gh (gs "=") gk)) ρ).bind js)) (d2 pQ (dV 5) (gq 10)))) gA)))))) (jg (jS (mj (b1 tB (d2 gW (dV 5) (gq 12))) (b1 tB (d2 jX (dA ih (gh (dV 4) gk)) (gq 0))))) (ma 4 (zF h (gx (my 4) gA))) (jg (jS (mj (b1 tB (d2 i7 (dV 5) (dA gY (gh (gq 13) (gh (gq 14) gk))))) (b1 tB (d2 jX (dA ih (gh (dV 4) gk)) (gq 1))))) (gG (iy 6 (my 4))
    (ma 4 (zF f (gx (my 4) (gx (zD (dV 6)) (gx (zD (d2 gK (je (λρ=>((gh (gs "and") (gh (gs "or") gk)) ρ).bind js)) (d2 pQ (dV 5) (gq 13)))) gA)))))) (ma 3 (zD (dA i (gh (dV 2) (gh (d2 iE (dV 1) (gq 16)) gk))))))))))
    (rm (zV 0) (gs "parts") (z2 gv (kc (zV 0) (gs "parts")) (zD (gq 1))))))))
def uf(a:Ad)(c d:gw):gZ:=(gG (iy 5 (my 2))
    (ma 3 (zF c (gx (my 2) (gx (zD (dV 5)) (gx (zD (gs "<")) gA))))))
def ui(a:Ad)(d c:gw):gZ:=(gG (iy 5 (my 3))
    (ma 3 (zF c (gx (my 3) (gx (zD (dV 5)) (gx (zD (dV 1)) gA))))))
def Dw(a:Ad)(c d:gw)(b:Nat):gZ:=(gG (iy 2 (kc (zV 0) (gs "terms")))
    (gG (iy 3 (kc (zV 0) (gs "conds")))
    (gG (iy 4 (zD (dA gY (gh (dA gY (gh (gs "here") gk)) (gh (gs "here") (gh (gq 3) gk))))))
    (gG (jg (jS (b1 tB (d2 gW (d2 gv (dA ih (gh (dV 2) gk)) (dA ih (gh (dV 3) gk))) (gq 0)))) (ma 2 (zD (dV 4))) j5)
    (gG (jg (jS (b1 tB (d2 gW (d2 hR (dA ih (gh (dV 2) gk)) (gq 2)) (gq 1)))) (ma 2 (zD (dV 4))) j5)
    (gG (mx (jS (b1 tB (d2 jX (dA ih (gh (dV 2) gk)) (gq 0)))) (uf a c d) 100)
    (gG (mx (jS (b1 tB (d2 jX (dA ih (gh (dV 3) gk)) (gq 1)))) (ui a c d) 100)
    (jE (zR (i6 3 0))))))))))
def qJ(a:Ad)(c:gw)(d f:hL):gZ:=(gG (iy 5 (sv (kc (zV 3) (gs "conds"))))
    (gG (iy 6 (zF tj (gx (zF c (gx (sv (kc (zV 3) (gs "terms"))) (gx (zD (dV 5)) gA))) (gx (zF c (gx (z2 gv (sv (kc (zV 3) (gs "terms"))) (zD (gq 1))) (gx (zD (dV 5)) gA))) gA))))
    (gG (jg (j6 tB (z2 jX (z2 gv (z2 gv (kc (zV 3) (gs "parts")) (zD (gq 1))) (zD (dV 6))) (zD (gq 30)))) jK.bk j5)
    (jD (zZ d (gx (zV 3) (gx (zD (dV 4)) (gx (zD (dV 0)) gA))))))))
def Du(a:Ad)(f:gw)(d c:hL)(b:Nat):gZ:=(gG (iy 3 (Hb [.inr "terms",.inr "conds",.inr "parts",.inr "over"] (gx (tW (λρ=>(gk ρ).bind js)) (gx (tW (λρ=>(gk ρ).bind js)) (gx (zD (gq 0)) (gx (zD (gq 0)) gA))))))
    (gG (AZ (λρ=>((dV 1) ρ).bind mi) (hV 4) (qJ a f d c))
    (jE (zZ c (gx (zV 3) (gx (zD (dV 2)) gA))))))
end WC
namespace P2
open PySem L2 PySem.Spec PySem.Calls
open PyProof.Rows hiding St
def WG{w}{K:gF}{k}{c:gQ}{I:jP}
 (KX:K.In c.heap)(Z:c.heap.Ns mainGlobals mg)(hb:c.heap.Ns builtinsNs mb)(hbb:∀x:gp,x≠"__name__"->mb x=bootBuiltins x)(hlim:c.heap.NoLimit)(hg:c.gens=#[])
 (L:c.heap.get? a=some {cls:=.type "list",data:=.seq I.toArray})(hi:IntsAre I ns)(hl:ns.length<=sizeLine)(hr:iX k callerA)(hT:∀t∈l6 K,W.CodeHd c.heap t.2.1 t.2.2/\c.heap.get? t.2.2=some (W.tabObj #[]))(hN:W.noTabs K=true)
 (hB:BM mg c.heap)
 (F:∀p:gU,K.In p->p.Ns mainGlobals mg->BM mg p->j7 P w K mg p CX k fa fd [x] sp)(J:∀s u,BindsTo s fd ⟨[u],[]⟩ [(x,u)])
 (hsp:∀H:Hp,lA K H->kl K H a (ns.map V.int)->sp [.ref a] H (λv _=>v=.bl true) λ_ _ _=>False)
 (Ur:∀H e l,CX [] H c (λ_ _ _=>False) e l->False):
   codeAny (model P w) callerA (.call (.ref fa) ⟨[.ref a],[]⟩) (λr l=>r=.ok (.ret<|.bool true)/\OldK c.heap l.heap/\l.os=c.os/\AllBare l.gens) c:=by
  have rv:=OW hi;have U:=hi.length;have na:∀t∈l6 K,t.2.2≠a:=λt f e=>by have:=(hT t f).2;rw[e,L]at this;cases this
  have nK:∀t∈l6 K,K.lookup t.2.2=none:=λt f=>by
   cases q:K.lookup t.2.2 with
   |none=>rfl
   |some o=>have e1:=KX _ _ q;rw[(hT t f).2]at e1;cases e1;have h2:=aZ.mp hN (t.2.2,W.tabObj #[]) (W.mem_of_lookupK q);exact absurd (show false=true from h2) aR
  have G:∀H:Hp,(∀b,H b=none\/(∃o R,H b=some (.nA o<|.lst R)/\b=a/\K.lookup a=none)\/∃t∈l6 K,b=t.2.2/\H b=some (.kU #[]))->(∀t∈l6 K,H t.2.2=some (.kU #[]))->kl K H a (ns.map V.int)->jJ P w H c.heap->
   codeAny (model P w) callerA (.call (.ref fa) ⟨[.ref a],[]⟩) (λr l=>r=.ok (.ret<|.bool true)/\OldK c.heap l.heap/\l.os=c.os/\AllBare l.gens) c:=by
   intro H hO Uv hS Y;have j:∀{b:gr} {o:kQ},c.heap.get? b=some o->H b=none->(ql c.heap H).get? b=some o:=λe n=>U5 e n;have Yg:∀{b:gr} {o:kQ} {M:lT DictEntry} {N:Nat},c.heap.get? b=some o->o.data=.dict M N->H b=none:=λ{b o M N} e d=>by
    rcases hO b with z|⟨ob,R,z,i,_⟩|⟨t,f,i,z⟩;·exact z
    ·subst i;rw[L]at e;cases e;have d':Data.seq I.toArray _=Data.dict M N:=d;cases d'
    ·subst i;rw[(hT t f).2]at e;cases e;have d':Data.fields #[]=Data.dict M N:=d;cases d'
   have C:∀{b:gr} {m:iY},c.heap.Ns b m->(ql c.heap H).Ns b m:=λ{b m} ⟨o,M,N,e,d,r⟩=>⟨o,M,N,j e (Yg e d),d,r⟩;have KG:K.In (ql c.heap H):=λb o e=>j (KX b o e) (by
    rcases hO b with z|⟨ob,R,z,i,hk⟩|⟨t,f,i,z⟩;· exact z
    · subst i;rw[hk]at e;cases e
    · subst i;rw[nK t f]at e;cases e)
   have Uq:BM mg (ql c.heap H):=by
    obtain⟨bm,ob,b1,b2,b3,b4,b5,b6⟩:=hB;refine⟨bm,ob,b1,b2,j b3 ?_,b4,b5,b6⟩;rcases hO bm with z|⟨o2,R,z,i,_⟩|⟨t,f,i,z⟩;·exact z
    ·subst i;rw[L]at b3;cases b3;cases b6
    ·subst i;rw[(hT t f).2]at b3;cases b3;cases b6
   have hM:Mod K mg (ql c.heap H):=⟨KG,C Z,⟨mb,C hb,hbb⟩,let⟨mc,h1,h2⟩:=hlim;⟨mc,C h1,h2⟩⟩;have e0:rr P w K mg (ql c.heap H) callerA [] c H:=⟨rfl,hM,λb o e=>YE e,Nat.le_of_eq<|U6 _ _,trivial,λb hb=>absurd (show b∈([]:gi gr)from hb)<|by simp,Y,.of_eq hg⟩;have tb:lA K H:=λt f=>⟨#[],Uv t f,trivial,λpos cv e=>by cases e⟩;refine cR ((F _ KG (C Z) Uq).run callerA [] c H ⟨[.ref a],[]⟩ [.ref a] [.ref a] _ _ hr e0 (J c<|.ref a) (.cons rfl .nil) (hsp H tb hS)) λr l h=>?_;cases r with
   |error e=>exact(Ur H e l h).elim
   |ok fl=>
    cases fl with
    |ret u=>
     obtain⟨v,H',os,bare,un,D,r',q⟩:=h;have q':v=.bl true:=q;subst q';obtain rfl:u=Value.bool true:=r';have kept:∀b o,c.heap.get? b=some o->l.heap.get? b=some o\/∃t∈l6 K,b=t.2.2/\∃ps,l.heap.get? b=some (W.tabObj ps):=λb o e=>by
      rcases hO b with z|⟨ob,R,z,_⟩|⟨t,f,i,z⟩;·exact .inl (un.keep b o e z (by intro y;exact absurd (show b∈([]:gi gr)from y) (by simp)) (by simp))
      ·have z2:=un.nU b ob _ z;obtain⟨e1,_⟩:=Y b _ z;obtain⟨O,_⟩:=D b _ z2;rw[e]at e1;cases e1;exact .inl O
      ·obtain⟨T,z2⟩:=un.oJ b #[] z;have O:l.heap.get? b=some {cls:=.none,data:=.fields<|#[]++T}:=D b _ z2;exact .inr ⟨t,f,i,_,O⟩
     refine⟨rfl,⟨λb o e=>?_,λb o e=>?_⟩,os,bare⟩
     ·rcases kept b o e with z|⟨t,f,i,ps,z⟩;·exact .inl z
      ·subst i;have O:=(hT t f).2;rw[e]at O;cases O;exact .inr (.inl ⟨((hT t f).1.tab (hT t f).2).isCodeTable,rfl,#[],ps,rfl,by rw[Array.empty_append];exact z⟩)
     ·rcases kept b o e with z|⟨_,_,_,ps,z⟩;·exact⟨o,z⟩
      ·exact⟨_,z⟩
    |_=>exact False.elim h
  have nz:¬∃t∈l6 K,a=t.2.2:=λ⟨t,f,e⟩=>na t f e.symm;have kU:∀(H:Hp) (b:gr),(∃t∈l6 K,b=t.2.2)->kj P w H c.heap b (.kU #[]):=λH b ⟨t,f,e⟩=>by subst e;exact(hT t f).2
  cases hk:K.lookup a with
  |some o=>
   have e:=KX a o hk;rw[L]at e;cases e;refine G (λb=>if(∃t∈l6 K,b=t.2.2)then some (.kU #[])else none) (λb=>?_) (λt f=>af ⟨t,f,rfl⟩) (.inr ⟨_,I.toArray,_,hk,rfl,rfl,rfl,by rw[aM,U];exact hl,by simpa using rv⟩) (λb u e=>?_)
   ·by_cases z:∃t∈l6 K,b=t.2.2
    ·obtain⟨t,f,e⟩:=z;exact .inr (.inr ⟨t,f,e,af ⟨t,f,e⟩⟩)
    ·exact .inl (ao z)
   ·by_cases z:∃t∈l6 K,b=t.2.2
    ·have i:=(af z).symm.trans e;cases i;exact kU _ b z
    ·have i:=(ao z).symm.trans e;cases i
  |none=>
   refine G (λb=>if(∃t∈l6 K,b=t.2.2)then some (.kU #[])else if b=a then some (.nA {cls:=.type "list",data:=.seq I.toArray}<|.lst<|ns.map V.int)else none) (λb=>?_) (λt f=>af ⟨t,f,rfl⟩) (.inl<|.inr ⟨{cls:=.type "list",data:=.seq I.toArray},(ao nz).trans (af rfl)⟩) (λb u e=>?_)
   ·by_cases z:∃t∈l6 K,b=t.2.2
    ·obtain⟨t,f,e⟩:=z;exact .inr (.inr ⟨t,f,e,af ⟨t,f,e⟩⟩)
    ·by_cases y:b=a;·exact .inr (.inl ⟨_,_,(ao z).trans (af y),y,hk⟩)
     ·exact .inl ((ao z).trans (ao y))
   ·by_cases z:∃t∈l6 K,b=t.2.2
    ·have i:=(af z).symm.trans e;cases i;exact kU _ b z
    ·by_cases y:b=a
     ·have i:=((ao z).trans (af y)).symm.trans e;cases i;subst y;exact⟨L,by rw[ae];exact hl,I,_,rv,L⟩
     ·have i:=((ao z).trans (ao y)).symm.trans e;cases i
def aez{K:gF}(T:Top p loose aga mg mb h)(X:K.In h)(c:(l6 K).all (λt=>((recsOf p).find? λe=>e.name==t.1).isSome)=true):
    ∀t∈l6 K,W.CodeHd h t.2.1 t.2.2/\h.get? t.2.2=some (W.tabObj #[]):=λt a=>by
 have i:=aZ.mp c t a;obtain⟨d,f⟩:=fx.mp i;unfold l6 at a;obtain⟨x,_,e⟩:=dU.mp a;split at e
 ·obtain⟨q,k,j⟩:=aL.mp e;subst j;exact W.tab_of T X f k
 ·cases e
end P2
namespace P2
open PySem L2
variable{X:Cx}{E:XK}
def XZ:sI X "str.strip" (λx a H Q=>∃i j,x=.str i/\a=[.str j]/\i.length<=sizeLine/\Q (.str<|Txt.stripChars i j) H):=by intro c s σ H x a v m Q I f rs h;obtain⟨i,j,rfl,rfl,l,q⟩:=h;obtain⟨t,rfl⟩:=f;obtain⟨u,rfl,n,rfl⟩:=vals1 rs;exact SC.stripChars (λd k=>⟨.str _,H,I.tok _,⟨_,rfl⟩,q⟩) l
noncomputable def vF:D->gw
 |.str i,[.str j]=>if i.length<=sizeLine then .ok (.str<|Txt.stripChars i j)else .bad
 |_,_=>.bad
def Mm:wj X E "str" "str.strip" vF:=by
 refine⟨_,XZ,λ{_ H _ _ _ _ _} fr a rs h=>?_⟩;unfold vF at h;split at h
 ·cases a;obtain⟨v,rfl,q⟩:=gR.one rs;cases q;split at h;·rename_i c;exact⟨_,_,rfl,rfl,c,h H (.refl H) _<|.str _⟩
  ·exact h.elim
 ·exact h.elim
end P2
namespace P2
open PySem
def FW{fs}(h:Runs M Γ p t fs s e s'):s.toks<=s'.toks:=by
 induction h with
 |fresh _ a=>exact av (c6 _) a
 |call _ _ d c=>exact av d c
 |resumeFresh _ _ _ _ d c=>exact av d c
 |resumeSuspended _ _ _ _ d c=>exact av d c
 |segRet _ _ d c=>exact av d c
 |segGen _ _ d c=>exact av d c
 |segSuspGen _ _ _ _ d c=>exact av d c
 |done=>exact au _
 |raise=>exact au _
 |yield=>exact au _
 |again _ _ a=>exact a
 |rule _ a=>exact a
 |«at» _ a=>exact a
 |load _ _ a=>exact a
 |update _ _ a=>exact a
 |loadIfAlive _ a=>exact a
 |point _ a=>exact a
 |alloc _ a=>exact a
 |ask _ a=>exact a
 |choose _ _ a=>exact a
 |os _ a=>exact a
 |handled _ a=>exact a
 |genState _ _ a=>exact a
 |stack _ a=>exact a
 |thread _ a=>exact a
 |newGen _ a=>exact a
 |callSusp _ a=>exact a
 |resumeJustStarted _ _ _ a=>exact a
 |resumeThrowFresh _ _ a=>exact a
 |resumeRunning _ _ a=>exact a
 |resumeFinished _ _ a=>exact a
 |segSuspOut _ _ a=>exact a
def ae6{g}(h:Wakes M Γ p g r s res s'):s.toks<=s'.toks:=by
 unfold Wakes at h;cases q:s.gens[g]? with
 |none=>rw[q]at h;exact h.elim
 |some st=>
  rw[q]at h;cases st with
  |fresh c=>
   cases r with
   |send v=>cases v<;>first|(obtain⟨rfl,rfl⟩:=h;exact au _)|(obtain⟨f,d,a,_,_,rfl⟩:=h;have:=FW a;exact this)
   |throw x=>obtain⟨rfl,rfl⟩:=h;exact au _
  |suspended k j l i fs cl=>obtain⟨f,d,a,_,_,rfl⟩:=h;have:=FW a;exact this
  |_=>obtain⟨rfl,rfl⟩:=h;exact au _
def wp_toks{X:Type}{M:Model}{D:Ctx}{n:Nat}(t:Sem X):∀{Q:X->Pos->gQ->Prop} {E:gE->Pos->gQ->Prop} {p:Pos} {s:gQ},n<=s.toks->Sem.wp M D t Q E p s->Sem.wp M D t (λa q j=>n<=j.toks/\Q a q j) (λe q j=>n<=j.toks/\E e q j) p s:=by
 induction t with
 |pure x=>exact λi h=>⟨i,h⟩
 |raise v=>exact λi h=>⟨i,h⟩
 |unsupported|finish|yield|fork|await|register=>exact λ_ h=>h
 |rule _ k d|«at» _ k d|loadIfAlive _ k d|point _ k d|ask k d|handled _ k d|stack k d|thread k d=>exact λi h=>d _ i h
 |alloc _ k d=>intro Q E p s i h;exact d _ (s:={s with heap:=s.heap.push _}) i h
 |os _ _ k d=>intro Q E p s i h;exact d _ (s:={s with os:=_}) i h
 |newGen _ k d=>intro Q E p s i h;exact d _ (s:={s with gens:=_}) i h
 |fresh k d=>intro Q E p s i h;exact d _ (s:={s with toks:=s.toks+1}) (av i<|c6 _) h
 |load a _ k d=>exact λi ⟨o,z,h⟩=>⟨o,z,d _ i h⟩
 |genState a k d=>exact λi ⟨o,z,h⟩=>⟨o,z,d _ i h⟩
 |update a _ f k d=>intro Q E p s i ⟨C,h⟩;exact⟨C,d _ (s:={s with heap:=_}) i h⟩
 |choose _ _ k d=>intro Q E p s i ⟨C,h⟩;exact⟨C,d _ (s:={s with drawn:=_}) i h⟩
 |call c h g l k d=>exact λi ⟨r,j,G,I⟩=>⟨r,j,G,d r (av i<|FW G) I⟩
 |resume g r l k d=>exact λi ⟨m,j,F,h⟩=>⟨m,j,F,d _ (av i<|ae6 F) h⟩
def wpAny_toks{X:Type}{M:Model}{A:jd}{t:Sem X}{Q:X->gQ->Prop}{E:iR}{s:gQ}(h:wpAny M A t Q E s):
    wpAny M A t (λa c=>s.toks<=c.toks/\Q a c) (λe c=>s.toks<=c.toks/\E e c) s:=λf p d=>wp_toks t (au _) (h f p d)
end P2
set_option maxHeartbeats 400000
namespace L2
open PySem PySem.Spec PyProof.Rows
variable{X:Cx}{f:jG}{B:St}{H:Hp}{s:gQ}
def Om{u}{Q:qH}(I:Inv X f B H s)(hN:X.N.Nodup)(Y:X.N[i]?=some x)(hk:X.env.scope.names.lookup x=some .local)(r:RelV v u)
 (h:∀G m',Inv X f (B.set i<|some v) H G->G.heap.Ns X.env.locals m'->m' x=some u->s.toks<=G.toks->Heap.SameBut X.env.locals s.heap G.heap->Q () G):wpAny M A (storeName X.env x u) Q E s:=by
  obtain⟨m,hn,hl⟩:=id I.loc;have O:(X.env.scope.kind==.class||(X.env.scope.kind==.module&&X.env.locals !=X.env.globals))=false:=by rw[I.ok.kind];rfl
  have N:i<B.length:=by rw[I.len];exact(aD.mp Y).1
  have oq:=I.oq;have l:∀{a:gr} {R:gU},(∃o,s.heap.get? a=some o/\H a=none)->Heap.SameBut a s.heap R->jJ X.prog X.w H R:=λ{a R} ha D b ob e=>by
   obtain⟨_,_,C⟩:=ha;refine(I.hok b ob e).o8 (λc w' P q=>(D.2 c ?_).trans q) (λ_ q=>q) λ_ _ q=>q
   rintro rfl
   rcases P with rfl|P;·rw[C]at e;cases e
   ·rw[C]at P;cases P
  refine wpAny_storeName_local hk hn (λR L D=>?_) O;obtain⟨oL,_,_,U,_⟩:=id hn;refine h _ _ ⟨I.ok,I.os,I.bare,⟨λb o e n Z J=>?_,λb o e n Z J=>?_,I.base.free,λb o e J=>?_,I.base.tups,I.base.nU,I.base.oJ⟩,⟨_,L,λj y v' F T e3=>?_⟩,λy c e=>?_,I.free,I.oU,λp hp=>?_,l ⟨oL,U,I.free⟩ D,by simpa using I.len⟩ L (by simp) (c6 _) D;·exact(D.2 b<|aW<|ak (Heap.lt_size e) I.ok.above).trans (I.base.keep b o e n Z J)
  ·obtain⟨sl,F⟩:=I.base.slot b o e n Z J;exact⟨sl,(D.2 b<|aW<|ak (Heap.lt_size e) I.ok.above).trans F⟩
  ·obtain⟨o',F⟩:=I.base.there b o e J;exact⟨o',(D.2 b<|aW<|ak (Heap.lt_size e) I.ok.above).trans F⟩
  ·by_cases V:j=i
   ·subst V;rw[Y]at F;cases F;rw[aw N]at T;cases T;exact⟨u,r,.inl ⟨hk,by simp⟩⟩
   ·rw[ai<|bQ V]at T;obtain⟨u',r',q⟩:=hl j y v' F T e3;refine⟨u',r',?_⟩;rcases q with⟨k,e⟩|⟨k,c,e,z⟩
    ·refine .inl ⟨k,?_⟩;have:y≠x:=λe=>V (Ah hN F<|e▸Y);simp[this,e]
    ·exact .inr ⟨k,c,e,z.sameBut D<|oq y c e⟩
  ·obtain⟨w',z⟩:=I.cell y c e;exact⟨w',z.sameBut D<|oq y c e⟩
  ·obtain⟨e,n,ne,nf,d⟩:=I.pin p hp;exact⟨(D.2 p.1 ne).trans e,n,ne,nf,d⟩
def Im{w}{s:gQ}{x y:gp}{u}{Q:iR}(c:(x.length==0)=false)(a:(y.length==0)=false)(d:(x++y).length<=sizeLine)(h:Q (.str (x++y) s.toks) {s with toks:=s.toks+1}):
    wpAny (model prog w) A (binaryOp .Add (.str x t)<|.str y u) Q E s:=by
 refine P.add_str ?_;rw[c,a];exact⟨d,h⟩
def nG(b:gL)(p q:gp):gi Nat->gp->gH gp
 |[],x=>some x
 |c::r,x=>if b=true then(if x.length<=1000000 then nG b p q r (Txt.replace x ⟨#[c]⟩<|p++⟨#[c]⟩++q)else none)else nG b p q r x
def adY(n d l h:Nat)(m k:Int)(p q a:gp):TS:=λD B H=>∃x z i j,B[d]?=some (some<|.str x)/\B[l]?=some (some<|.int i)/\B[h]?=some (some<|.int j)/\nG ((i+j).fmod m==k) p q a.cps.toList x=some z/\∀c,a.cps.toList.getLast?=some c->D.nx ((B.set n<|some<|.str ⟨#[c]⟩).set d (some<|.str z)) H
def aa4{m k:Int}{p q d:gp}{qs:Pos}{pos}(hc:X.calm=true)(hN:X.N.Nodup)(KU:X.N[iS]?=some S)(hiT:X.N[iT]?=some T)
 (hkS:X.env.scope.names.lookup S=some .local)(R:X.env.scope.names.lookup T=some .local)(O:iS≠iT)
 (hp1:(p.length==0)=false)(hq1:(q.length==0)=false)(hpl:p.length+1+q.length<=10)(hasc:d.cps.all (· <128)=true)(hnil:d.cps.toList≠[])
 (hia:X.N[ia]?=some an)(hib:X.N[ib]?=some bn)(hka:X.env.scope.names.lookup an=some .local)(hkb:X.env.scope.names.lookup bn=some .local)(na:iS≠ia/\iT≠ia/\iS≠ib/\iT≠ib)(hm0:m≠0)(hdS:(S==("__debug__":gp))=false)(hdT:(T==("__debug__":gp))=false)(hda:(an==("__debug__":gp))=false)(hdb:(bn==("__debug__":gp))=false)
 (hs:autoParam (∀x,foldedSetIterable (.Constant (.str d) j0 p0) X.env x=pure x) aZ5)
 (hsw:autoParam (swapsWith (.Call (.Attribute (.Name T p1) "replace" p2) [.Name S p8,.BinOp (.BinOp (.Constant (.str p) j1 p3) .Add (.Name S p4) p5) .Add (.Constant (.str q) j2 p6) p7] [] p9) (some<|.Name T Fi) qs.line X.env=pure false) aZ0)
 (hbase:autoParam (attributeBase (.Name T p1) "replace" X.env (eval (.Name T p1) X.env)=eval (.Name T p1) X.env) aZ0)(hline:autoParam ((p2.endLine==p9.line)=true) aZ0):
   PS X (.For (.Name S pos) (.Constant (.str d) j0 p0) [.If (.Compare (.BinOp (.BinOp (.Name an pa) .Add (.Name bn pb) pn) .Mod (.Constant (.int m) j3 pm) po) [.Eq] [.Constant (.int k) j4 pk] pc) [.Assign [.Name T Fi] (.Call (.Attribute (.Name T p1) "replace" p2) [.Name S p8,.BinOp (.BinOp (.Constant (.str p) j1 p3) .Add (.Name S p4) p5) .Add (.Constant (.str q) j2 p6) p7] [] p9) qs] [] pi] [] pos') (adY iS iT ia ib m k p q d):=by
  intro f s B H D I h;obtain⟨x0,z0,i0,Er,VS,UL,UQ,Lf,U0⟩:=h;generalize hbb:((i0+Er).fmod m==k)=bb at Lf;have af8:iS<B.length:=by rw[I.len];exact(aD.mp KU).1
  have J:iT<B.length:=by rw[I.len];exact(aD.mp hiT).1
  refine wpAny_For (dS ?_) hs;have I1:Inv X f B H {s with toks:=s.toks+1}:=I.tok _;refine wpAny_pyIter_ascii hasc ?_;have fp:pA X f H s.heap.objs.size:=I1.uy (au _) (I1.hok.fresh<|au _);obtain⟨f0,f1,f2,f3,f4,f5⟩:=fp;have I2:=I1.kept (t':=s.toks+1) (h':=s.heap.push {cls:=.type "str_ascii_iterator",data:=.fields #[.str d s.toks,.int 0 0]}) λb o e=>aj _ e;generalize hit:s.heap.objs.size=it at*;generalize htk:s.toks=tk at*
  refine codeAny_forLoop_any (λn s'=>∃i G x,Inv X f G H s'/\s'.heap.IsStrIter it "str_ascii_iterator" d tk i/\i+n=d.cps.size/\0<s'.toks/\G[iT]?=some (some (.str x))/\nG bb p q (d.cps.toList.drop i) x=some z0/\
   (G[ia]?=some (some (.int i0))/\G[ib]?=some (some (.int Er)))/\(∀c y,(G.set iS c).set iT y=(B.set iS c).set iT y)/\(i=0\/∃c,d.cps.toList[i - 1]?=some c/\G=(B.set iS (some (.str ⟨#[c]⟩))).set iT (some (.str x)))) ?_ d.cps.size ⟨0,B,x0,I2,⟨_,by rw[<-hit];exact aJ _ rfl,rfl,rfl⟩,by simp,f7 _,VS,by simpa using Lf,⟨UL,UQ⟩,λ_ _=>rfl,.inl rfl⟩
  rintro n L ⟨i,C,x,I3,AI,hin,htp,Ej,N,⟨Uo,Up⟩,M,US⟩
  by_cases P:i<d.cps.size
  ·have UU:d.cps[i]?=some d.cps[i]:=by simp[P]
   have uW:d.cps.toList[i]?=some d.cps[i]:=by simp[P]
   generalize UT:d.cps[i]=c at*;refine wpAny_pyNext_ascii_item AI (c:=c) UU λh' Y sb=>?_;have I4:Inv X f C H {L with heap:=h',toks:=L.toks+1}:=I3.turned (λb o hb e=>(sb.2 b hb).trans e) f0 f1 f3 f4 f5;dsimp only;obtain⟨oi,ei,ci,di⟩:=id Y;refine uQ (s:={L with heap:=h',toks:=L.toks+1}) ei ci di (by decide) ?_;refine wpAny_assign_Name (Om I4 hN KU hkS (v:=.str ⟨#[c]⟩) ⟨_,rfl⟩ λF m5 I5 Vw Vs VN La=>?_);have af9:L.toks+1<=F.toks:=VN;refine cm ?_;have Ea:(C.set iS<|some<|V.str ⟨#[c]⟩)[ia]?=some (some<|.int i0):=by rw[ai na.1];exact Uo
   have Eb:(C.set iS<|some<|V.str ⟨#[c]⟩)[ib]?=some (some<|.int Er):=by rw[ai na.2.2.1];exact Up
   have ldI:∀{ii:Nat} {U:gp} {vv:Int} {kk:Nat} {ps:Pos} {E:iR} {Q:iR},X.N[ii]?=some U->X.env.scope.names.lookup U=some .local->(U==("__debug__":gp))=false->(C.set iS<|some<|V.str ⟨#[c]⟩)[ii]?=some (some<|.int vv)->(∀tt,Q (.int vv tt) {F with toks:=kk})->wpAny (model X.prog X.w) X.A (eval (.Name U ps) X.env) Q E {F with toks:=kk}:=λ{ii U vv kk ps E Q} g1 g2 g3 g4 g5=>by
    obtain⟨m6,Eg,Ee⟩:=id I5.loc;obtain⟨uT,rT,lk⟩:=Ee ii U _ g1 g4 (.inl g2);obtain⟨tT,rfl⟩:=rT;have Ef:m6 U=some (.int vv tT):=by
     rcases lk with⟨_,z⟩|⟨z,_⟩;·exact z
     ·rcases z with z|z<;>(rw[show X.env.kindOf U=some .local from g2]at z;cases z)
    exact eR (dB (s:={F with toks:=kk}) I5.ok.kind g2 Eg Ef<|g5 tT) g3
   refine wpAny_If (wpAny_isTrue_Compare1 (fh<|fh<|ldI (kk:=F.toks) hia hka hda Ea λt1=>ldI (kk:=F.toks) hib hkb hdb Eb λt2=>add_int ?_) rfl);refine dR (mod_int' hm0<|dR<|eq_int<|cC ?_);rw[hbb];have r:nG bb p q (c::d.cps.toList.drop (i+1)) x=some z0:=by
    have e:=b9 (l:=d.cps.toList) (i:=i) (by simpa using P);have e2:d.cps.toList[i]'(by simpa using P)=c:=by simpa using UT
    rw[e,e2]at N;exact N
   unfold nG at r;cases KP:bb with
   |false=>
    rw[KP,ao aR]at r;have sid:C.set iS (some<|V.str ⟨#[c]⟩)=(C.set iS<|some<|V.str ⟨#[c]⟩).set iT (some<|.str x):=by
     refine List.ext_getElem? λj=>?_;by_cases e:iT=j
     ·subst e;have lt:iT<(C.set iS<|some<|V.str ⟨#[c]⟩).length:=by rw[aY,I3.len,<-I.len];exact J
      rw[aw lt,ai O];exact Ej
     ·rw[ai e]
    refine bA (bA ?_);have En:F.heap.IsStrIter it "str_ascii_iterator" d tk (i+1):=by obtain⟨oi,e1,e2⟩:=Y;refine⟨oi,?_,e2⟩;rw[La.2 it f1];exact e1
    refine⟨n - 1,by omega,i+1,_,x,I5.tok _,En,by omega,f7 _,by rw[ai O];exact Ej,r,⟨Ea,Eb⟩,λc' y=>?_,.inr ⟨c,by rw[Nat.add_sub_cancel];exact uW,sid.trans<|M _ _⟩⟩;rw[fH];exact M _ _
   |true=>
   rw[KP,af rfl]at r;refine cm (eZ ?_ hsw)
   have Uu:(C.set iS<|some<|V.str ⟨#[c]⟩)[iT]?=some (some<|.str x):=by rw[ai O];exact Ej
   obtain⟨m6,Eg,Ee⟩:=id I5.loc;obtain⟨uT,rT,lk⟩:=Ee iT T _ hiT Uu (.inl R);obtain⟨tT,rfl⟩:=rT;have Ef:m6 T=some (.str x tT):=by
    rcases lk with⟨_,z⟩|⟨z,_⟩;·exact z
    ·rcases z with z|z<;>(rw[show X.env.kindOf T=some .local from R]at z;cases z)
   refine ef hbase rfl hline rfl (eR (dB I5.ok.kind R Eg Ef ?_) hdT)
   have LG:∀{k:Nat} {ps:Pos} {E:iR} {Q:iR},Q (.str ⟨#[c]⟩ L.toks) {F with toks:=k}->wpAny (model X.prog X.w) X.A (eval (.Name S ps) X.env) Q E {F with toks:=k}:=λ{k ps E Q} hq=>eR (dB (s:={F with toks:=k}) I5.ok.kind hkS Vw Vs hq) hdS
   refine⟨"str","str.replace",cE,PySem.F.slot_str_replace,PySem.F.type_str_replace,et _ _ _,(λa e=>nomatch e),?_⟩;refine c7 rfl (eC ?_);show wpAny _ _ (spliced [(false,eval (.Name S p8) X.env),(false,eval (.BinOp (.BinOp (.Constant (.str p) j1 p3) .Add (.Name S p4) p5) .Add (.Constant (.str q) j2 p6) p7) X.env)]) _ _ _;refine dW (LG ?_);refine dW ?_;have l1:((⟨#[c]⟩:gp).length==0)=false:=rfl;have lc:(⟨#[c]⟩:gp).length=1:=rfl;have lp:(p++⟨#[c]⟩:gp).length=p.length+1:=by rw[Str.length_append,lc]
   have Z:(p++⟨#[c]⟩++q:gp).length=p.length+1+q.length:=by rw[Str.length_append,lp]
   have sl:=dZ;refine fh (fh<|dS<|LG<|Im hp1 l1 (by rw[lp];lia) ?_);refine dS (Im (by rw[lp];simp) hq1 (by rw[Z];walk_at "l") ?_);refine fk ?_;by_cases Le:x.length<=1000000
   ·rw[af Le]at r;have WH:(⟨#[c]⟩:gp)≠(p++⟨#[c]⟩++q:gp):=λe=>by
     have:=aI Str.length e;rw[Z,lc]at this;have:p.length≠0:=by simpa using hp1
     omega
    obtain⟨z1,Ek⟩:∃z1,z1=Txt.replace x ⟨#[c]⟩ (p++⟨#[c]⟩++q):=⟨_,rfl⟩;rw[<-Ek]at r;refine aK (P2.wpAny_toks (SC.replace (Q:=λv s'=>∃t' k,v=.str z1 t'/\s'={F with toks:=k}) (by show L.toks≠0;walk_at "l") (by show F.toks+1+1+1+1+1+1+1≠0;lia) (by show L.toks≠F.toks+1+1+1+1+1+1+1;lia) (by simpa using WH) (by rw[Z];have:=Nat.mul_le_mul_left (x.length+1) hpl;lia) λt' k=>⟨t',k,by rw[Ek],rfl⟩)) (λv s' hv=>?_) (λ_ _ h=>h.2);obtain⟨U8,t',k,rfl,rfl⟩:=hv;have hk1:F.toks+1+1+1+1+1+1+1+1<=k:=U8;have I6:Inv X f (C.set iS<|some<|V.str ⟨#[c]⟩) H {F with toks:=k}:=I5.tok k;clear Ek;refine Om I6 hN hiT R (v:=.str z1) (u:=.str z1 t') ⟨t',rfl⟩ λs7 m7 I7 hn7 hm7 VO VM=>?_;refine bA (bA ?_);have En:s7.heap.IsStrIter it "str_ascii_iterator" d tk (i+1):=by obtain⟨oi,e1,e2⟩:=Y;refine⟨oi,?_,e2⟩;rw[VM.2 it f1];show F.heap.get? it=some oi;rw[La.2 it f1];exact e1
    refine⟨n - 1,by lia,i+1,_,_,I7,En,by lia,?_,aw<|by rw[aY];rw[I3.len,<-I.len];exact J,r,⟨by rw[ai na.2.1];exact Ea,by rw[ai na.2.2.2];exact Eb⟩,λc' y=>?_,.inr ⟨c,by rw[Nat.add_sub_cancel];exact uW,M _ _⟩⟩
    ·have:k<=s7.toks:=VO
     lia
    ·rw[List.set_comm _ c'<|λe=>O e.symm,fH,fH];exact M _ _
   ·rw[ao Le]at r;cases r
  ·have hi:i=d.cps.size:=by lia
   refine wpAny_pyNext_ascii_end (I3.ok.hd hc) AI (by simp[hi]) λh' eb=>?_;refine bA ⟨C,H,I3.turned (t':=L.toks) (λb o hb e=>eb b o hb e) f0 f1 f3 f4 f5,?_⟩;rw[hi,bX<|by simp]at N;cases N;rcases US with h0|⟨c,h1,h2⟩
   ·exfalso;apply hnil;rw[hi]at h0;simpa using h0
   ·rw[h2];refine U0 c ?_;rw[List.getLast?_eq_getElem?,<-h1,hi];simp
end L2
namespace P2
open PySem L2
variable{X:Cx}{E:XK}
noncomputable def AE(f d l h:Nat)(m k:Int)(p q a:gp):g0:=λρ=>match ρ[d]?,ρ[l]?,ρ[h]? with
 |some (.sh (.str x)),some (.sh (.int i)),some (.sh (.int j))=>(match nG ((i+j).fmod m==k) p q a.cps.toList x,a.cps.toList.getLast? with
  |some z,some c=>if f<ρ.length then .nx ((ρ.set f<|iW ⟨#[c]⟩).set d (iW z))else .bad
  |_,_=>.bad)
 |_,_,_=>.bad
def Sk(iS iT ia ib){m k:Int}{p q a:gp}{qs:Pos}{pos}(hc:X.calm=true)(hN:X.N.Nodup)(Z:X.N[iS]?=some S)(Y:X.N[iT]?=some T)
 (R:X.env.scope.names.lookup S=some .local)(P:X.env.scope.names.lookup T=some .local)(J:iS≠iT)
 (I:(p.length==0)=false)(F:(q.length==0)=false)(G:p.length+1+q.length<=10)(o:a.cps.all (· <128)=true)(l:a.cps.toList≠[])
 (V:X.N[ia]?=some an)(U:X.N[ib]?=some bn)(O:X.env.scope.names.lookup an=some .local)(N:X.env.scope.names.lookup bn=some .local)(na:iS≠ia/\iT≠ia/\iS≠ib/\iT≠ib)(L:m≠0)(hdS:(S==("__debug__":gp))=false)(hdT:(T==("__debug__":gp))=false)(hda:(an==("__debug__":gp))=false)(hdb:(bn==("__debug__":gp))=false)
 (hs:autoParam (∀x,foldedSetIterable (.Constant (.str a) j0 p0) X.env x=pure x) aZ5)
 (D:autoParam (swapsWith (.Call (.Attribute (.Name T p1) "replace" p2) [.Name S p8,.BinOp (.BinOp (.Constant (.str p) j1 p3) .Add (.Name S p4) p5) .Add (.Constant (.str q) j2 p6) p7] [] p9) (some<|.Name T Fi) qs.line X.env=pure false) aZ0)
 (f:autoParam (attributeBase (.Name T p1) "replace" X.env (eval (.Name T p1) X.env)=eval (.Name T p1) X.env) aZ0)(d:autoParam ((p2.endLine==p9.line)=true) aZ0):
   DS X E (.For (.Name S pos) (.Constant (.str a) j0 p0) [.If (.Compare (.BinOp (.BinOp (.Name an pa) .Add (.Name bn pb) pn) .Mod (.Constant (.int m) j3 pm) po) [.Eq] [.Constant (.int k) j4 pk] pc) [.Assign [.Name T Fi] (.Call (.Attribute (.Name T p1) "replace" p2) [.Name S p8,.BinOp (.BinOp (.Constant (.str p) j1 p3) .Add (.Name S p4) p5) .Add (.Constant (.str q) j2 p6) p7] [] p9) qs] [] pi] [] pos') (AE iS iT ia ib m k p q a):=by
  refine⟨_,aa4 hc hN Z Y R P J I F G o l V U O N na L hdS hdT hda hdb hs D f d,λ{_ _ al H _ ρ _} s h=>?_⟩;unfold AE at h;split at h
  ·rename_i x i j hx ha hb;split at h
   ·rename_i z c hz uW;split at h
    ·rename_i M;obtain⟨v,e1,rv⟩:=s.sh iT _ hx;cases rv;obtain⟨v2,e2,C⟩:=s.sh ia _ ha;cases C;obtain⟨v3,e3,r⟩:=s.sh ib _ hb;cases r;refine⟨x,z,i,j,e1,e2,e3,hz,λc' n=>?_⟩;rw[uW]at n;cases n;have hT:iT<ρ.length:=(aD.mp hx).1;exact h al H _ .refl ((s.set M (.str _)).set (by rw[aY];exact hT) (.str _))
    ·exact h.elim
   ·exact h.elim
  ·exact h.elim
end P2
namespace Fx
open PySem
def Td:entryFor table "proto.unchain"=some Builtin.«proto.unchain»:=entryFor_of_tree (by kernel_rfl)
variable{a:iQ}{w:iK}{h:gU}{g:lT GenState}{d:Drawn}{t:Nat}{l:OsState}{e:gr}
def ae3{R:Result->gQ->Prop}{o}(f:h.get? o=some oo)(i:oo.data=.fields ws)(c:ws[2]?=some .none)(j:R (.ok<|.ret .none) ⟨h,g,d,t,l⟩):
    codeAny (model a w) A (.builtin "proto.unchain" ⟨[.ref e,.ref o,.ref o,.bool false],[]⟩) R ⟨h,g,d,t,l⟩:=by
 refine fP Td ?_;show wpAny _ _ (field (.ref o) 2>>=_) _ _ _;exact ah (cG f i c<|aE j)
def aco{i:Type}{A:jd}{E:iR}{Q:i->gQ->Prop}{f:gr}{n o:kQ}{j m:qI}(z:A.handled=some (.ref f))(q:f≠e)(I:h.get? f=some n)(G:n.data=.fields j)(c:j[2]?=some .none)
    (C:h.get? e=some o)(D:o.data=.fields m)(v:2<m.size)(F:E (.ref e) ⟨h.update e (Obj.mapFields (·.setIfInBounds 2 (.ref f))),g,d,t,l⟩):wpAny (model a w) A (raiseNew<|.ref e:Sem i) Q E ⟨h,g,d,t,l⟩:=by
 unfold raiseNew;refine ah (wpAny_handled ?_);rw[z];have r:(Value.ref f !=Value.ref e)=true:=by simpa using q
 dsimp only;rw[af r];refine ah (df<|wpAny_runValue<|ae3 I G c ?_);have k:wpAny (model a w) A (setField (.ref e) 2<|.ref f) (λ_ p=>wpAny (model a w) A (throw<|Value.ref e:Sem i) Q E p) E ⟨h,g,d,t,l⟩:=dD (s:=⟨h,g,d,t,l⟩) C D v (wpAny_throw F);exact ah k
variable{A:jd}{E:iR}{j:gU}{M:Model}
variable{nm q:gp}{C N:gr}{bs bm:jP}{hdct:gL}{sn:iH}{sub:jP}{ab:gL}{col:gH gL}{dd:kD}{k0 k1 k2 k3 k5:wx}{newId:String}{f:kQ}{i:qI}
def T3{Q:iR}(c:(Value.ref C::bm).contains (.type "BaseException")=true)(hC:j.get? C=some (excClassObj nm q C N bs bm hdct sn sub ab col dd k0 k1 k2 k3 k5 newId))(k:j.get? e=some f)(m:f.cls=.ref C)(o:f.data=.fields i)
 (n:Q (.ref e) ⟨j,g,d,t,l⟩):wpAny M A (excFromValue (.ref e) msg) Q E ⟨j,g,d,t,l⟩:=by
  unfold excFromValue;repeat(first|(with_reducible refine aG k ?_;rw[m])|with_reducible refine aG hC ?_|(with_reducible refine bO hC ?_;rw[c])|wp_step)
  all_goals exact n
def acp{env:Env}{s:gQ}{x c:Sem gE}{Q:Flow->gQ->Prop}{ha:gr}(p:bm.contains (.type "BaseException")=true)(hh:A.handled=some (.ref ha))
    (hcn:∀(k:gQ) (Q1:iR),Q1 .none k->wpAny (model a w) A c Q1 E k)
    (hx:wpAny (model a w) A x (λv k=>∃e f i T R,v=.ref e/\k.heap.get? C=some (excClassObj nm q C N bs bm hdct sn sub ab col dd k0 k1 k2 k3 k5 newId)/\k.heap.get? e=some f/\f.cls=.ref C/\f.data=.fields i/\i[1]?=some .none/\4<i.size/\ha≠e/\C≠e/\k.heap.get? ha=some T/\T.data=.fields R/\R[2]?=some .none/\
      ∀h4 n,h4.get? e=some n->n.cls=.ref C->n.dict=f.dict->n.data=.fields (((i.setIfInBounds 3 .none).setIfInBounds 4 (.bool true)).setIfInBounds 2 (.ref ha))->(∀b,b≠e->h4.get? b=k.heap.get? b)->E (.ref e) {k with heap:=h4}) E s):
    wpAny (model a w) A (raiseStmt env (some x)<|some c) Q E s:=by
 have G:(Value.ref C::bm).contains (.type "BaseException")=true:=by rw[cq,p,dG]
 unfold raiseStmt;refine ah (aK hx (λv k z=>?_) λ_ _ z=>z);obtain⟨e,f,i,T,R,rfl,hC,Z,hc,L,V,hz,ne,nC,g1,g2,cn,hE⟩:=z;obtain⟨j,O,P,tk,m⟩:=k;refine ah (df<|hcn _ _<|ah<|aE ?_);refine ah (df<|T3 G hC Z hc L ?_);dsimp only;rw[af<|show(Value.none==Value.none)=true from rfl];refine ah (aE<|ah<|dD (s:=⟨j,O,P,tk,m⟩) Z L (by walk_at "l") ?_);have e1:=bT (Obj.mapFields (·.setIfInBounds 3 Value.none)) Z (cb<|bE L _);have d1:=bE L (·.setIfInBounds 3 Value.none);refine ah (dD (s:=⟨j.update e (Obj.mapFields (·.setIfInBounds 3 Value.none)),O,P,tk,m⟩) e1 d1 (by rw[dJ];exact hz) ?_);have r:=bT (Obj.mapFields (·.setIfInBounds 4 (Value.bool true))) e1 (cb<|bE d1 _);have d2:=bE d1 (·.setIfInBounds 4 (Value.bool true));generalize Y:(j.update e (Obj.mapFields (·.setIfInBounds 3 Value.none))).update e (Obj.mapFields (·.setIfInBounds 4 (Value.bool true)))=h2 at r;have o:∀b,b≠e->h2.get? b=j.get? b:=λb z=>by rw[<-Y,bC _ _<|bQ z,bC _ _<|bQ z]
 generalize F:((f.mapFields (·.setIfInBounds 3 Value.none)).mapFields (·.setIfInBounds 4 (Value.bool true)))=o2 at r d2;have I:o2.cls=.ref C:=by rw[<-F,eg,eg];exact hc
 have J:h2.get? C=some (excClassObj nm q C N bs bm hdct sn sub ab col dd k0 k1 k2 k3 k5 newId):=by rw[o C nC];exact hC
 have U:((i.setIfInBounds 3 Value.none).setIfInBounds 4 (Value.bool true))[1]?=some .none:=by rw[bR<|by decide,bR<|by decide];exact V
 have D:∀{Q':iR} {E':iR},Q' .none ⟨h2,O,P,tk,m⟩->wpAny (model a w) A (field (.ref e) 1) Q' E' ⟨h2,O,P,tk,m⟩:=λz=>cG r d2 U z;repeat(first|with_reducible refine D ?_|(with_reducible refine aG r ?_;rw[I])|with_reducible refine aG J ?_|(with_reducible refine bO J ?_;rw[G])|wp_step)
 refine aco hh ne (by rw[o ha ne];exact g1) g2 cn r d2 (by rw[dJ,dJ];lia) ?_;refine hE _ _ (bT _ r<|cb<|bE d2 _) ?_ ?_ (bE d2 _) λb z=>?_;·rw[eg];exact I
 ·rw[wK,<-F,wK,wK]
 ·rw[bC _ _<|bQ z];exact o b z
end Fx
namespace L2
open PySem PySem.Spec PyProof.Rows Fx
variable{P:iQ}{w:iK}{K:gF}{O:iY}{a:gU}
def InitM(P:iQ)(w:iK)(K:gF)(O:iY)(a:gU)(C f:gr)(d:gp)(k:Nat):Prop:=
 ∀A h c s H (us:jP) vs Q E,iX (k+1) A->rr P w K O a A c s H->us.length=2->Vals vs us->xY C d vs H Q E->
  codeAny (model P w) (A.mark<|some<|.ref h) (.call (.ref f) ⟨us,[]⟩) (CR pY c P w H s Q E) s
def Wa{L:gp}{st:Stmt}{p:gr}{fd:kP}{C:gr}{d:gp}{k:Nat}(c:om K C p d)(F:mD K "__init__" L st p fd)(S:pz ["self",d] ["self",d]<|iz st){p1 p2 p3 p4:Pos}
    (hb:kx st=[.Assign [.Attribute (.Name "self" p1) d p2] (.Name d p3) p4])(h1:(iz st).names.lookup ("self":gp)=some .local)(h2:(iz st).names.lookup d=some .local)(hd:(d==("__debug__":gp))=false)(Y:(d==("__classdict__":gp))=false)
    (bI:Binds K fd ["self",d] []):InitM P w K O a C p d k:=by
 intro A ea f s H us vs Q E hr G hu r T;obtain⟨oc,od,kV,doc,pm,an,m,ct,osl,rfl,lk,Z⟩:=F.ex;obtain⟨e,t,v,rfl,he,q⟩:=T;have KX:K.In s.heap:=G.mod.qT.keeps λb o e=>(G.bs b o e).1;have R:s.heap.NoLimit:=G.mod.nolimit.keeps λb o e=>(G.bs b o e).1;have l:∀y∈(["self",d]:gi gp).zip us,(iz st).names.lookup y.1=some .local\/((iz st).names.lookup y.1=some .cell/\((cellsFrom (s.heap.objs.size+1) (iz st).names []).lookup y.1).isSome=true):=λ⟨n,v⟩ hy=>by
  rcases S.par n (eF hy).1 with q|q;·exact .inl q
  ·exact .inr ⟨q,fB _ _ _<|.inl q⟩
 have D:=bI s us KX (by rw[aP];exact hu);rw[aP]at D;refine codeAny_call_function (show A.depth<_ from hr.depth) (KX _ _ lk) rfl S.co S.gen rfl (W.codeRec_of KX Z) (D _ _ _ _ ?_);refine eT S.kind l λenv U s1 x=>?_;subst U;refine⟨R.keeps x.toInCall.keep,codeAny_func ?_⟩;have I0:Inv (iL pY P w K O a ["self",d] L (iz st) p m A f s H E) [] (start ["self",d] [.ref e,v]) H s1:=Lk S hr.hd G rfl r x;have I:=(I0.kG ea).ng λ_ _=>False;obtain⟨M,ht,hq⟩:∃M,md ((iL pY P w K O a ["self",d] L (iz st) p m A f s H E).kG ea).mr (kx st) M/\M {nx:=λ_ H'=>Q .non H',rt:=Q} (start ["self",d] [.ref e,v]) H:=by rw[hb];exact⟨_,Ap<|M4 c (pN (i:=0) rfl (.inl h1) (by decide)<|by decide) (pN (i:=1) rfl (.inl h2) hd Y) (by rfl)<|by rfl,v,rfl,.ref e,rfl,e,t,rfl,he,λdx h3 h4=>q dx h3 h4⟩
 refine aK (ht [] s1 (start ["self",d] [.ref e,v]) H {nx:=λ_ H'=>Q .non H',rt:=Q} I hq) (λfl s' hs=>?_) λ_ _ z=>z.elim;have j:=SP.tQ I0.ok hs
 have fin:∀{h:St} {H':Hp} {v:V} {u:gE},Inv (iL pY P w K O a ["self",d] L (iz st) p m A f s H E) [] h H' s'->RelV v u->Q v H'->CE f P w H s Q u s':=
  λ{h H' v u} J N q=>⟨v,H',J.os,J.bare,J.base,J.hok,N,q⟩
 cases fl with
 |ret u=>obtain⟨v,h,H',J,N,q⟩:=j;exact fin J N q
 |next=>obtain⟨h,H',J,q⟩:=j;exact fin (v:=V.non) (u:=Value.none) J rfl q
 |_=>obtain⟨_,_,_,q⟩:=j;exact False.elim q
variable{N:iH}{l:gp}{j:Scope}{f:gr}{U:gE}{A:jd}{outer:kH}{s:gQ}{H:Hp}{E:XK}
abbrev kJ(P:iQ)(w:iK)(K:gF)(O:iY)(a:gU)(N:iH)(l:gp)(j:Scope)(f:gr)(U:gE)(A:jd)(outer:kH)(s:gQ)(H:Hp)(E:XK):Cx:=iL (iu P w) P w K O a N l j f U A outer s H E
def afh{X:Cx}{i:jG}{σ:St}{H:Hp}{s:gQ}{h:gr}{d:gp}{v:V}(I:Inv X i σ (upd H h<|.xd [(d,v)]) s):Inv X i σ (upd H h<|.xd [(d,v),(d,v)]) s:=by
 obtain⟨ok,R,M,k,L,J,F,C,D,r,len⟩:=I;have no:∀b,upd H h (.xd [(d,v)]) b=none->upd H h (.xd [(d,v),(d,v)]) b=none:=λb z=>by
  by_cases q:b=h;·subst q;rw[i8]at z;cases z
  ·rw[hA q]at z⊢;exact z
 have o:∀b u,(∀fs,u≠.xd fs)->upd H h (.xd [(d,v)]) b=some u->upd H h (.xd [(d,v),(d,v)]) b=some u:=λb u n z=>by
  by_cases q:b=h;·subst q;rw[i8]at z;cases z;exact absurd rfl (n _)
  ·rw[hA q]at z⊢;exact z
 refine⟨ok,R,M,⟨k.keep,k.slot,λb ob y h0 hx=>no b<|k.free b ob y h0 hx,k.there,λb G y=>o b _ (λ_ z=>by cases z)<|k.tups b G y,λb ob u y=>o b _ (λ_ z=>by cases z)<|k.nU b ob u y,λb T y=>?_⟩,L,J,no _ F,λx c hc=>no _<|C x c hc,λp hp=>?_,λb u y=>?_,len⟩
 ·obtain⟨m,z⟩:=k.oJ b T y;exact⟨m,o b _ (λ_ z=>by cases z) z⟩
 ·obtain⟨p1,Z,Y⟩:=D p hp;exact⟨p1,no _ Z,Y⟩
 ·by_cases q:b=h
  ·subst q;rw[i8]at y;cases y;obtain⟨mA,g1,g2⟩:=r b _ i8;refine⟨mA,g1,λf=>?_⟩;have:=g2 f;by_cases z:f==d;·simp only[List.lookup,z]at this⊢;exact this
   ·simp only[List.lookup,z]at this⊢;exact this
  ·rw[hA q]at y;have:=r b u (by rw[hA q];exact y);exact this.o8 (λ_ _ _ z=>z) (λc z=>o c _ (λ_ z=>by cases z) z) λc G z=>o c _ (λ_ z=>by cases z) z
def aa8{body:gi Stmt}{tb:TB}{t:TA}{x y:gp}{C G fI:gr}{i:gp}{mt:ji}{k:Nat}{arg:hD}{np yp V cp acK K5 pos:Pos}{cj}
    (hb:BX (kJ P w K O a N l j f U A outer s H E) body tb)
    (ha:∀n,PA ((kJ P w K O a N l j f U A outer s H E).kG n) [arg] t)
    (hmt:∀(h:gU) (g:lT GenState) (d:Drawn) (tk:Nat) (os:OsState) (e Ce:gr) (Y:kQ) (M:Model) (A:jd) (E:iR) (Q:t6),K.In h->mt Ce->h.get? e=some Y->Y.cls=.ref Ce->Q true ⟨h,g,d,tk,os⟩->wpAny M A (excMatches (.ref e)<|.ref C) Q E ⟨h,g,d,tk,os⟩)
    (hg:Gl (kJ P w K O a N l j f U A outer s H E) x)(hm:O x=some (.ref C))
    (c:om K G fI i)(im:InitM P w K O a G fI i k)
    (hr:iX (k+2) (kJ P w K O a N l j f U A outer s H E).A)(hg2:Gl (kJ P w K O a N l j f U A outer s H E) y)(hm2:O y=some (.ref G))
    (hdb:jl x)(UY:(y==("__debug__":gp))=false)
    (he:starEach [arg] (kJ P w K O a N l j f U A outer s H E).env=(false,eval arg (kJ P w K O a N l j f U A outer s H E).env)::starEach [] (kJ P w K O a N l j f U A outer s H E).env)
    (hpl:(backTo V<|starEach [] (kJ P w K O a N l j f U A outer s H E).env).any (·.1)=false):
    PS (kJ P w K O a N l j f U A outer s H E) (.Try body [.ExceptHandler (some<|.Name x np) none [.Raise (some<|.Call (.Name y yp) [arg] [] V) (some<|.Constant .none cj cp) acK] K5] [] [] pos)
     (λD σ H=>tb D (λF cls d H1=>∃Ce,cls=.ref Ce/\mt Ce/\Fg d H1/\t F H1 λvs H2=>∃v,vs=[v]/\∀m,H2 m=none->E (.ref G) (some m) (upd H2 m<|.xd [(i,v),(i,v)])) σ H):=by
 intro J s1 σ H1 D I h;refine wpAny_Try_except (aK (hb J s1 σ H1 D _ I h) (λfl s2 q1=>?_)<|λex s2 q1=>?_)
 ·cases fl with
  |next=>exact bA q1
  |_=>exact q1
 ·obtain⟨F,n,cls,d,H2,B,rfl,fl,cl,en,na,Ce,rfl,Ed,U3,hts⟩:=q1;refine C7 (outer:=outer) (L:=s.heap.objs.size) I.ok.frames rfl fl λUm x1 u1=>zI (s:={s2 with heap:=Um}) x1 λzE x2 u2=>?_;obtain⟨a0,vD,_⟩:=id x2.1;have I2:Inv (kJ P w K O a N l j f U A outer s H E) J F H2 {s2 with heap:=zE}:=cl zE vD (u1.trans u2);obtain⟨⟨a1,fw⟩,_⟩:=id x2;obtain⟨ob,Eh,Vz⟩:=fw.there;refine wpAny_handleBy_cons (codeAny_handlers_test (qU (X:=(kJ P w K O a N l j f U A outer s H E).kG n) (I2.kG n) hg hm ?_ hdb)) (by intro z;cases z);obtain⟨hp,g,dr,tk,os⟩:=s2;refine hmt zE g dr tk os n Ce ob _ _ _ _ I2.iN Ed Eh Vz (codeAny_handlers_suite ?_);refine Kf (s:=⟨zE,g,dr,tk,os⟩) x2 λh3 x3 u3=>?_;obtain⟨a3,AI,_⟩:=id x3.1;have I3:Inv (kJ P w K O a N l j f U A outer s H E) J F H2 ⟨h3,g,dr,tk,os⟩:=cl h3 AI ((u1.trans u2).trans u3);obtain⟨_,_,Y,ws,ge,gd,gc⟩:=id x3;have gc:=gc U3;have Ip:Inv (kJ P w K O a N l j f U A outer s H E) [(n,Y)] F H2 ⟨h3,g,dr,tk,os⟩:=I3.Fh λp hp=>by
   rw[aS.mp hp];exact⟨ge,en,na.loc,na.frm,λv z=>by rw[gd]at z;cases z⟩
  refine wpAny_passesOwnAt (E:=(kJ P w K O a N l j f U A outer s H E).xe) PassesOwnAt.leaving ?_;refine cm ?_;rw[arm_exec_Raise];obtain⟨bm,NS,nm,qn,bs,sn,sub,ab,col,dd,k0,k1,k2,k3,k5,all⟩:=wO c.cls;have T1:=(all _ I3.iN).2.1;refine ah (cI<|acp (C:=G) (nm:=nm) (q:=qn) (N:=NS) (bs:=bs) (bm:=bm) (hdct:=true) (sn:=sn) (sub:=sub) (ab:=ab) (col:=col) (dd:=dd) (k0:=k0) (k1:=k1) (k2:=k2) (k3:=k3) (k5:=k5) (newId:="ValueError.__new__") (ha:=n) (T1.hasType<|by rfl) rfl (λs5 Q5 VB=>?_) ?_);·exact ah (Constant_none<|ah<|cI<|aE VB)
  ·refine ah (aK (wpAny_Call_ofName<|qU (X:=(kJ P w K O a N l j f U A outer s H E).kG n) (Ip.kG n) hg2 hm2 ?_ UY) (λv s3 z=>ah<|cI<|aE z) λ_ _ z=>z);refine ee (h₀:=a) I.ok.mod.qT c.kp (g6 (ha n V [(n,Y)] ⟨h3,g,dr,tk,os⟩ F H2 _ (Ip.kG n) hts) λus s4 VC=>?_) he hpl;obtain⟨vs,H4,HG,r,v,ev,kk⟩:=VC;refine⟨HG.iN,?_⟩;have I4:=Inv.tQ I.ok HG;subst ev;obtain⟨u,rfl,ru⟩:=vals1 r;obtain⟨hC,T,mN,hN,hi⟩:=all _ I4.iN;obtain⟨oI,U1,U2⟩:=Kg I4.iN c.fn;obtain⟨hp4,g4,d4,OD,ZF⟩:=s4;refine IZ dE T hC hN hi U1 U2 (λU4 e mk Ua=>?_) (by show 1<=sizeLine;decide);obtain⟨Z,VQ,_,_⟩:=mk.there;have R:=I4.Ag mk.new rfl;have zg:H4 e=none:=I4.hok.no mk.new;have I5:Inv (kJ P w K O a N l j f U A outer s H E) [(n,Y)] F H4 ⟨U4,g4,d4,OD,ZF⟩:=I4.kept (t':=OD) mk.keeps;have I6:=I5.AS (e:=e) (o:=l5 e G Z none) R zg (FK VQ);have V0:=im _ n _ _ _ [.ref e,u] [.ref e,v] (λv1 H5=>v1=.non/\∃m,H4 m=none/\m≠e/\H5=upd (upd (upd H4 e (l5 e G Z none)) e (l5 e G Z (some m))) m (.xd [(i,v)])) E0 (hr.make G [u] []) (I6.wM.make G [u] []) rfl (.cons rfl (.cons ru .nil)) ⟨e,Z,v,rfl,i8,λm q1 q2=>⟨rfl,m,by rw[hA q2]at q1;exact q1,q2,rfl⟩⟩;refine eo (cR V0 λres s5 hq=>?_);cases res with
   |error ex=>exact hq.elim
   |ok fl=>
    cases fl with
    |ret u1=>
     obtain⟨v1,H5,I7,rv,rfl,m,q1,q2,rfl⟩:=I6.after hq;have KR:upd (upd (upd H4 e<|l5 e G Z none) e<|l5 e G Z<|some m) m (.xd [(i,v)]) e=some (l5 e G Z<|some m):=by rw[hA<|bQ q2,i8]
     obtain⟨hx,_,_⟩:=I7.hok e _ KR;have VT:s5.heap.get? e=some {cls:=.ref G,dict:=some m,data:=.fields #[.ref Z,.none,.none,.none,.bool false,.none]}:=hx;obtain⟨Ub,_,_,_,_⟩:=I7.pin (n,Y) (by simp);have I8:=I7.forget KR;rw[JM zg q2]at I8;refine⟨rv,e,_,_,Y,ws,rfl,(all _ I7.iN).1,VT,rfl,rfl,rfl,show 4<6 by decide,?_,?_,Ub,gd,gc,λh9 o9 w1 w2 w3 w4 w5=>?_⟩
     ·intro z;have:=(I4.pin (n,Y)<|by simp).1;rw[show(n,Y).1=e from z,mk.new]at this;cases this
     ·intro z;rw[z,mk.new]at hC;cases hC
     ·obtain⟨hp5,g5,d5,tk5,os5⟩:=s5;have Tc:upd H4 m (.xd [(i,v)]) e=none:=by rw[hA<|bQ q2];exact zg
      have I9:=I8.turned (it:=e) (h':=h9) (t':=tk5) (λb o hb q=>by rw[w5 b hb];exact q) Tc R.loc (.inr<|av I4.sz Ua) R.Jk R.pin;have PN:=afh I9;have:=FL (d:=some m) (a0:=.ref Z) PN w1 R.old w4 ?_ ?_ (λSV z=>by cases z;exact⟨_,w1,by rw[w3]⟩) (λz=>?_) (by rw[hA<|bQ q2];exact zg) ?_;·exact this
      ·rfl
      ·rfl
      ·obtain⟨f1,v2,q9⟩:=z m rfl;rw[i8]at q9;cases q9
      ·rw[w2];exact kk m q1
    |_=>exact False.elim hq
end L2
namespace L2
open PySem PySem.Spec PyProof.Rows
variable{X:Cx}{o e c:hD}{a b:gi Stmt}{m:TE}{p:TX}{t:TT}{B A:TB}{j:gp}{l i pos:Pos}{T q:String}{r:V->gi V->Hp->VK->Prop}
def xBM(K:gF)(T:String)(r:V->gi V->Hp->VK->Prop)(m:TE)(p:TX):TX:=λσ H Q R=>m σ H λx d=>yf K T x d/\p σ d (λy f=>r x [y] f Q) R
def Th(pa:PlainAttrs T)(C:Slot T j q)(F:typeOf (.builtin q)=pure (.type "method_descriptor"))(hm:Bz X.mr q r)(ho:PE X.mr o m)(he:EX X e p)
 (n:autoParam (attributeBase o j X.env (eval o X.env)=eval o X.env) aZ0)
 (D:autoParam (((backTo i<|starEach [e] X.env).all (λx=>!x.1)&&(backToKw i<|keywordEach [] X.env).all (λx=>x.1.isSome)&&decide ([e].length+([]:gi Keyword).length+(if([]:gi Keyword).isEmpty then 0 else 1)<30))=true) aZ0)
 (k:autoParam ((l.endLine==i.line)=true) aZ0)(hs:autoParam (X.se e []) aZ0)(f:autoParam ((backTo i<|starEach [] X.env).any (·.1)=false) aZ0):
   EX X (.Call (.Attribute o j l) [e] [] i) (xBM X.K T r m p):=by
  intro d s σ H Q R I h;refine ef n D k rfl (aK (ho d s σ H _ (I.ng _) h) (λv L G=>?_) λ_ _ z=>z.elim);obtain⟨x,O,J,M,ty,q1⟩:=G;have N:Inv X d σ O L:=J.mM;obtain⟨h1,h2⟩:=Gu N M ty;refine⟨T,q,pa,C,F,h1,h2,?_⟩;rw[hs];refine c7 (by show(false||(backTo i (starEach [] X.env)).any (·.1))=false;rw[f]<;>rfl) (eC (dW (aK (he d L σ O _ R N q1) (λu U ⟨y,H2,I2,Z,q2⟩=>fk ?_) λ_ _ z=>z)));refine aK (hm d U σ H2 x [y] v [u] Q (I2.ng _) M (.cons Z .nil) q2) (λw s3 z=>?_) λ_ _ z=>z.elim;obtain⟨P,H3,I3,Y,q3⟩:=z;exact⟨P,H3,I3.mM,Y,q3⟩
def Qw(N:PT X.mr c t)(P:BX X a B)(O:BX X b A):BX X [.If c a b pos] (λD R σ H=>t σ H λd F=>if d=true then B D R σ F else A D R σ F):=by
 intro k s σ H D R I h;have nx:∀v n,SP X k D v n->(match v with|.next=>wpAny (model X.prog X.w) X.A (execs [] X.env) (SP X k D) (λe M=>∃C,XP X k C (R C) e M) n|f=>SP X k D f n):=λv n z=>by
  cases v with
  |next=>exact bA z
  |_=>exact z
 refine cm (wpAny_If<|aK (N k s σ H _ (I.ng _) h) (λd G ⟨F,L,J⟩=>?_) λ_ _ z=>z.elim);cases d with
 |true=>exact aK (P k G σ F D R L.mM J) (λv n z=>nx v n z) λ_ _ z=>z
 |false=>exact aK (O k G σ F D R L.mM J) (λv n z=>nx v n z) λ_ _ z=>z
end L2
namespace P2
open PySem L2
variable{X:Cx}{E:XK}{b:Nat}
structure ZX(X:Cx)(e:hD)(f:iM):Prop where
 w_::
 o_:∃t:TX,EX X e t/\∀{B al lo H σ ρ S} {Q:VK} {R:XK},RZ X.K B al lo H σ ρ S->(match f ρ S with
 |.ok z S'=>∀iZ kf H',RZ X.K B iZ kf H' σ ρ S'->Xt al H iZ H'->Lx lo kf->∀v,ka X.K iZ kf H' v z->Q v H'
 |.ex c ns ds S'=>∀iZ kf H' dx,RZ X.K B iZ kf H' σ ρ S'->Xt al H iZ H'->XR X.K iZ H' dx ns ds->R (.ref c) dx H'
 |.bad=>False)->t σ H Q R
def oa(F:hL)(fs:mE):iM:=λρ S=>match fs ρ S with
 |.ok zs a=>F zs a
 |_=>.bad
def Pn{k n fs pos}(G:oQ X.prog X.w X.K X.mg X.base (iu X.prog X.w) k x ps<|jv n X.K F)(Y:iX k X.A)(hg:Gl X x)(Z:(e::es).length=n)(ha:ZA X.mr (λ_ _ _=>False) (e::es) fs)
 (o:autoParam (X.ex=[]) aZ0)(r:autoParam (jl x) aZ1)(he:autoParam (X.se e es) aZ0)(m:autoParam (X.bk pos es) aZ0):ZX X (.Call (.Name x p) (e::es) [] pos) (oa F fs):=by
  obtain⟨ta,T,R,V⟩:=ha;refine⟨_,J2 G Y hg T o r he m,λ{B al lo H σ ρ S _ _} s h=>R s ?_⟩;unfold oa at h;cases q:fs ρ S with
  |ok I N=>
   rw[q]at h;dsimp only at h;intro C l H1 i J O vs L;have U:=V _ _ _ _ q;rw[aP];refine⟨by rw[L.length,U];exact Z,i.tt,C,l,I,N,i.fresh,i.st,L,?_⟩;cases M:F I N with
   |bad=>simp_all
   |ex c ns ds S2=>rw[M]at h;exact λd a D dx f P=>h d a D dx (i.after f) (J.trans f.xt) P
   |ok z S2=>rw[M]at h;exact λd a D v f j=>h d a D (i.after f) (J.trans f.xt) (O.trans f.lx) v j
  |_=>simp_all
abbrev _root_.t7:=hU->ic->RX hU
structure ZB(X:Cx)(body:gi Stmt)(f:t7):Prop where
 w_::
 o_:∃t:TB,BX X body t/\∀{B al lo H σ ρ S} {D:Ends} {R:St->XK},RZ X.K B al lo H σ ρ S->(match f ρ S with
 |.ok jr S'=>∀iZ kf H' lr,Xt al H iZ H'->RZ X.K B iZ kf H' lr jr S'->D.nx lr H'
 |.ex c ns ds S'=>∀iZ kf H' dx,RZ X.K B iZ kf H' σ ρ S'->Xt al H iZ H'->XR X.K iZ H' dx ns ds->R σ (.ref c) dx H'
 |.bad=>False)->t D R σ H
def sC(i:Nat)(f:iM):hU->ic->RX hU:=λρ S=>(f ρ S).bind λz a=>if i<ρ.length then .ok (ρ.set i<|some z) a else .bad
def afo(i){y}{pos:Pos}(hN:X.N.Nodup)(N:X.N[i]?=some y)(L:Loc X.env.scope y)(O:ZX X e f)(M:autoParam (swapsWith e (some<|.Name y pos') pos.line X.env=pure false) aZ0)
 (hf:autoParam (X.fn y=true\/X.env.scope.names.lookup y=some .local) aZ2):ZB X [.Assign [.Name y pos'] e pos] (sC i f):=by
  obtain⟨t,p,r⟩:=O;refine⟨_,Qx hN N L p M hf,λ{B al _ H σ ρ S D R} s h=>r s ?_⟩;unfold sC at h;cases q:f ρ S with
  |bad=>rw[q]at h;exact h.elim
  |ex c m n F=>rw[q]at h;exact h
  |ok z F=>
   rw[q]at h;intro C o P I G T v J;by_cases w:i<ρ.length
   ·have k:(match(if i<ρ.length then RX.ok (ρ.set i (some z)) F else .bad:RX hU)with
     |.ok jr S'=>∀a d H' j,Xt al H a H'->RZ X.K B a d H' j jr S'->D.nx j H'
     |.ex c m n S'=>∀a d H' l,RZ X.K B a d H' σ ρ S'->Xt al H a H'->XR X.K a H' l m n->R σ (.ref c) l H'
     |.bad=>False):=h
    rw[af w]at k;exact k C o P _ G (I.set w J)
   ·have k:(match(if i<ρ.length then RX.ok (ρ.set i (some z)) F else .bad:RX hU)with
     |.ok jr S'=>∀a d H' j,Xt al H a H'->RZ X.K B a d H' j jr S'->D.nx j H'
     |.ex c m n S'=>∀a d H' l,RZ X.K B a d H' σ ρ S'->Xt al H a H'->XR X.K a H' l m n->R σ (.ref c) l H'
     |.bad=>False):=h
    rw[ao w]at k;exact k.elim
def sA(c:nt)(f g:t7):hU->ic->RX hU:=λρ S=>match c ρ S with
 |.ok b a=>if b=true then f ρ a else g ρ a
 |_=>.bad
def afn{g pos}(U:ZT X.mr (λ_ _ _=>False) c fc)(Y:ZB X a f)(V:ZB X a' g):ZB X [.If c a a' pos] (sA fc f g):=by
 obtain⟨tc,N,J⟩:=U;obtain⟨ta,P,M⟩:=Y;obtain⟨tb,O,L⟩:=V;refine⟨_,Qw N P O,λ{B al lo H σ ρ S D R} s h=>J s ?_⟩;unfold sA at h;cases q:fc ρ S with
 |ok d v=>
  rw[q]at h;intro Z T H1 I r y1;cases d with
  |true=>
   refine M I ?_
   have l:(match f ρ v with
    |.ok jr S'=>∀i j H' k,Xt al H i H'->RZ X.K B i j H' k jr S'->D.nx k H'
    |.ex c o p S'=>∀i j H' m,RZ X.K B i j H' σ ρ S'->Xt al H i H'->XR X.K i H' m o p->R σ (.ref c) m H'
    |.bad=>False):=h
   cases n:f ρ v with
   |bad=>rw[n]at l;exact l.elim
   |ex c o p G=>rw[n]at l;exact λi j H' m z x F=>l i j H' m z (r.trans x) F
   |ok C G=>rw[n]at l;exact λi j H' k x z=>l i j H' k (r.trans x) z
  |false=>
   refine L I ?_
   have l:(match g ρ v with
    |.ok jr S'=>∀i j H' k,Xt al H i H'->RZ X.K B i j H' k jr S'->D.nx k H'
    |.ex c o p S'=>∀i j H' m,RZ X.K B i j H' σ ρ S'->Xt al H i H'->XR X.K i H' m o p->R σ (.ref c) m H'
    |.bad=>False):=h
   cases n:g ρ v with
   |bad=>rw[n]at l;exact l.elim
   |ex c o p G=>rw[n]at l;exact λi j H' m z x F=>l i j H' m z (r.trans x) F
   |ok C G=>rw[n]at l;exact λi j H' k x z=>l i j H' k (r.trans x) z
 |_=>rw[q]at h;exact h.elim
def sy(i:Nat)(f:iM):hU->ic->RX hU:=λρ S=>match ρ[i]? with
 |some (some (.loc n))=>(match S[n]? with
  |some (.li _)=>(f ρ S).bind λz c=>(match c[n]? with
   |some (.li a)=>if a.length<sizeLine then .ok ρ (c.set n<|.li<|a++[z])else .bad
   |_=>.bad)
  |_=>.bad)
 |_=>.bad
def afm(i){j pos:Pos}(pa:PlainAttrs "list")(L:Slot "list" "append" "list.append")(Z:typeOf (.builtin "list.append")=pure (.type "method_descriptor"))(he:ZX X e f)
 (hN:autoParam (X.N[i]?=some x) aZ0)(hv:autoParam (pF X.env.scope x) aZ4)(hd:autoParam (jl x) aZ1)(hcd:autoParam ((x==("__classdict__":gp))=false) aZ1)
 (G:autoParam (attributeBase (.Name x np) "append" X.env (eval (.Name x np) X.env)=eval (.Name x np) X.env) aZ0)
 (M:autoParam (((backTo lU<|starEach [e] X.env).all (λx=>!x.1)&&(backToKw lU<|keywordEach [] X.env).all (λx=>x.1.isSome)&&decide ([e].length+([]:gi Keyword).length+(if([]:gi Keyword).isEmpty then 0 else 1)<30))=true) aZ0)
 (F:autoParam ((j.endLine==lU.line)=true) aZ0)(hs:autoParam (X.se e []) aZ0)(k:autoParam ((backTo lU<|starEach [] X.env).any (·.1)=false) aZ0)
 (hsw:autoParam (swapsWith (.Call (.Attribute (.Name x np) "append" j) [e] [] lU) none pos.line X.env=pure false) aZ0):
   ZB X [.Expr (.Call (.Attribute (.Name x np) "append" j) [e] [] lU) pos] (sy i f):=by
  obtain⟨t,p,r⟩:=he;refine⟨_,IP (Th pa L Z z9 (pN (X:=X.mr) hN hv hd hcd) p G M F hs k) hsw,λ{B al _ H σ ρ S D R} s h=>?_⟩;unfold sy at h;cases q:ρ[i]? with
  |none=>rw[q]at h;exact h.elim
  |some oz=>
   rw[q]at h;cases oz with
   |none=>exact h.elim
   |some z=>
    cases z with
    |loc n=>
     dsimp only at h;obtain⟨v,e1,a,hn,rfl⟩:=s.vr i _ q;cases Y:S[n]? with
     |none=>rw[Y]at h;exact h.elim
     |some cell=>
      rw[Y]at h;cases cell with
      |li zs0=>
       dsimp only at h;obtain⟨vs,e2,e3⟩:=s.cell hn Y;refine⟨.ref a,e1,.inl ⟨rfl,vs,.inl<|.inl e2⟩,r s ?_⟩;cases V:f ρ S with
       |bad=>rw[V]at h;exact h.elim
       |ex c ns ds O=>rw[V]at h;exact h
       |ok y O=>
        rw[V]at h;intro N lo1 H1 T x1 y1 u ru;have C:=y1 n a hn
        have l:(match(match O[n]? with
         |some (.li J)=>if J.length<sizeLine then RX.ok ρ (O.set n<|.li<|J++[y])else .bad
         |_=>.bad:RX hU)with
         |.ok jr S'=>∀d m H' I,Xt al H d H'->RZ X.K B d m H' I jr S'->D.nx I H'
         |.ex c ns ds S'=>∀d m H' dx,RZ X.K B d m H' σ ρ S'->Xt al H d H'->XR X.K d H' dx ns ds->R σ (.ref c) dx H'
         |.bad=>False):=h
        cases U:O[n]? with
        |none=>rw[U]at l;exact l.elim
        |some c1=>
         rw[U]at l;cases c1 with
         |li J=>
          dsimp only at l;obtain⟨P,g2,g3⟩:=T.cell C U;by_cases w:J.length<sizeLine
          ·rw[af w]at l;have x2:Xt N H1 N (upd H1 a (.lst (P++[u]))):=λb o _ hb eb=>⟨hb,by rw[hA λz=>T.st.na n a C (by rw[<-z];exact hb)];exact eb⟩;obtain⟨s2,x3⟩:=T.write C (o:=.lst (P++[u])) (c:=.li (J++[y])) o4 (λq w=>by unfold lJ at w;cases w) ⟨_,i8,jw.mv x2 .refl (g3.append (.cons ru .nil))⟩ nofun;exact⟨a,P,u,rfl,rfl,g2,by rw[g3.length];exact w,l _ _ _ _ (x1.trans x3) s2⟩
          ·rw[ao w]at l;exact l.elim
         |_=>exact l.elim
      |_=>exact h.elim
    |_=>exact h.elim
variable{P:iQ}{w:iK}{K:gF}{J:iY}{m:gU}{N:iH}{I:gp}{j:Scope}{f:gr}{L:gE}{A:jd}{l:kH}{s:gQ}{H:Hp}
noncomputable def sr(h:gr->gL)(n:gr)(a:gp)(i:Nat)(k:t7):gZ:=λρ S=>match k ρ S with
 |.ok jr S'=>.nx jr S'
 |.ex c ns ds S'=>if h c=true/\ns.length=1/\ds.length=1 then(match ρ[i]? with
  |some (some (.d d))=>.ex n [a,a] [d,d] S'
  |_=>.bad)else .bad
 |.bad=>.bad
def afS{p:gi Stmt}{fb:t7}{b:Nat}{x y n:gp}{C Y fI:gr}{a:gp}{k:Nat}{ap np yp V cp O R pos:Pos}{cj}(i:Nat)(mt:gr->gL)
    (hb:ZB (kJ P w K J m N I j f L A l s H E) p fb)
    (hmt:∀(h:gU) (g:lT GenState) (d:Drawn) (tk:Nat) (os:OsState) (e Ce:gr) (oe:kQ) (M:Model) (A:jd) (E:iR) (Q:t6),K.In h->mt Ce=true->h.get? e=some oe->oe.cls=.ref Ce->Q true ⟨h,g,d,tk,os⟩->wpAny M A (excMatches (.ref e)<|.ref C) Q E ⟨h,g,d,tk,os⟩)
    (hg:Gl (kJ P w K J m N I j f L A l s H E) x)(hm:J x=some (.ref C))
    (c:om K Y fI a)(im:InitM P w K J m Y fI a k)
    (hr:iX (k+2) (kJ P w K J m N I j f L A l s H E).A)(hg2:Gl (kJ P w K J m N I j f L A l s H E) y)(hm2:J y=some (.ref Y))
    (hN:autoParam (N[i]?=some n) aZ0)(hv:autoParam (pF (kJ P w K J m N I j f L A l s H E).env.scope n) aZ4)(hn1:autoParam ((n==("__debug__":gp))=false) aZ1)(hn2:autoParam ((n==("__classdict__":gp))=false) aZ1)
    (hdb:autoParam (jl x) aZ1)(T:autoParam ((y==("__debug__":gp))=false) aZ1):
    ZS (kJ P w K J m N I j f L A l s H E) E b (.Try p [.ExceptHandler (some<|.Name x np) none [.Raise (some<|.Call (.Name y yp) [.Name n ap] [] V) (some<|.Constant .none cj cp) O] R] [] [] pos) (sr mt Y a i fb):=by
 obtain⟨tb,pb,rb⟩:=hb;refine⟨_,aa8 (mt:=λc=>mt c=true) pb (λea=>tD (pN (X:=(kJ P w K J m N I j f L A l s H E).kG ea) hN hv hn1 hn2) tE<|by rfl) hmt hg hm c im hr hg2 hm2 hdb T (by rfl)<|by rfl,λ{B al lo H1 σ ρ S1 D} hB z h=>rb z ?_⟩;unfold sr at h;cases q:fb ρ S1 with
 |bad=>rw[q]at h;exact h.elim
 |ok jr S'=>rw[q]at h;exact λF r H' Z x' G=>h F r H' Z x' G
 |ex cc ns ds S'=>
  rw[q]at h;dsimp only at h;intro F r H' dx G x' xr;by_cases w1:mt cc=true/\ns.length=1/\ds.length=1
  ·rw[af w1]at h;obtain⟨m1,m2,m3⟩:=w1;have fg:Fg dx H':=λd0 UW=>by
    subst UW;obtain⟨_,vs,g1,g2⟩:=xr;have:=g2.length;match ns,vs,m2,this.trans m3,g1 with
    |[f0],[v0],_,_,g1=>exact⟨f0,v0,g1⟩
   refine⟨cc,rfl,m1,fg,?_⟩;cases q3:ρ[i]? with
   |none=>rw[q3]at h;exact h.elim
   |some oz=>
    rw[q3]at h;cases oz with
    |none=>exact h.elim
    |some zz=>
     cases zz with
     |d d=>obtain⟨v,e1,e2⟩:=G.vr i _ q3;refine⟨v,e1,v,rfl,λd1 U=>?_⟩;have sm:=lO (K:=K) (o:=.xd [(a,v),(a,v)]) U;have ez:=G.toEZ.grow sm;exact h F r _ (some d1) ez ⟨G.fresh d1 U,[v,v],i8,.cons (Rep.up e2 sm)<|.cons (Rep.up e2 sm) .nil⟩
     |_=>exact h.elim
  ·rw[ao w1]at h;exact h.elim
end P2
set_option maxHeartbeats 1000000
namespace P2
open PySem
def PY(a:lT Nat):Prop:=a.toList.Pairwise (· < ·)
structure ke(bt:gL)(t:SetTable):Prop where
 led:t.led=!bt
 ris:t.plain=true->PY t.place
 dum:t.plain=true->t.dummies=#[]
namespace PZ
def G:Nat->Nat
 |0=>0
 |n+1=>5*G n+1
open SetTable
end PZ
def XN(l)(a:qI)(n:Nat)(t)(k:sM):
    Meets (Builtin.«enumerate.__new__» ⟨[.type "enumerate",.ref l],[(Str.ofString "start",.int 1 t)]⟩) (λ_ R s=>s.heap.get? l=some {cls:=.type "list",dict:=none,data:=.seq a n,slots:=k}/\
     R (.ok<|.ret<|.ref (s.heap.push {cls:=.type "list_iterator",data:=.fields #[.ref l,.int 0 0]}).objs.size)
       {s with heap:=(s.heap.push {cls:=.type "list_iterator",data:=.fields #[.ref l,.int 0 0]}).push {cls:=.type "enumerate",data:=.fields #[.none,.bool false,.ref s.heap.objs.size,rawInt 1,.none,.none]}}):=
 .of_wp λprog w A R s h=>by
  obtain⟨o,g,d,tk,m⟩:=s;obtain⟨f,h⟩:=h;have j:=sub_enumerate;have i:Heap.IsList (Shared.heap ⟨o,g,d,tk,m⟩) l a:=⟨_,f,rfl,n,rfl⟩
  wp_walk using dP f
  refine wpAny_stack_any λst=>aE ?_;split
  ·rename_i c _ _ _ _ _;cases(c==Value.type "enumerate")
   ·wp_walk using dP f,dq i
    exact⟨_,rfl,h⟩
   ·wp_walk using dP f,dq i
    exact⟨_,rfl,h⟩
  ·wp_walk using dP f,dq i
   exact⟨_,rfl,h⟩
def Draws.TZ{w n St}(D:Draws prog w A it fp n P St):
    Draws prog w A it fp (n+1) (λi v=>P (i - 1) v) (λi h=>1<=i/\St (i - 1) h) where
 live:=λi h st=>D.live _ _ st.2
 frame:=λi h d st f=>⟨st.1,D.frame _ _ _ st.2 f⟩
 item:=λi s Q E l st j=>by have m:=st.1;refine D.item (i - 1) s Q E (by omega) st.2 λv d tk a b c=>?_;exact j v d tk a ⟨by simp,by rw[show i+1 - 1=i - 1+1 by simp_all];exact b⟩ c
 done:=λs Q E st k=>D.done s Q E (by simpa using st.2) k
end P2
namespace L2
open PySem PySem.Spec PyProof.Rows
def Inv.aeX{X:Cx}{a:jG}{σ:gi<|gH V}{H:Hp}{s:gQ}{h':gU}{t':Nat}{ch:pD}(I:Inv X a σ H s)(k:∀b o,b∉ch->s.heap.get? b=some o->h'.get? b=some o)(hf:∀b∈ch,pA X a H b):Inv X a σ H {s with heap:=h',toks:=t'}:=by
 have f:∀b u,H b=some u->b∉ch:=λb u e z=>by have:=(hf b z).1;rw[this]at e;cases e
 refine I.step (g':=s.gens) (d':=s.drawn) (ch:=ch) (λb j=>?_) (λb o _ _ d e _=>k b o d e) (λb o _ _ d e _=>⟨o.slots,k b o d e⟩) (λ_ _ _ _ n=>n)
  (λb o d e=>⟨o,k b o d e⟩) (λ_ _ e=>e) (λ_ _ _ e=>e) (λb G e=>⟨#[],by rw[e];simp⟩) (λm i=>?_) (λb u e=>?_) I.bare
 ·obtain⟨f0,f1,J,C,p,l⟩:=hf b j;exact⟨C,f1,p,l⟩
 ·obtain⟨o,D,F,h,r⟩:=i;exact⟨o,D,F,k _ o (λz=>(hf _ z).2.1 rfl) h,r⟩
 ·refine(I.hok b u e).o8 (λc v d q=>k c v ?_ q) (λ_ q=>q) λ_ _ q=>q;rcases d with z|z;·rw[z];exact f b u e
  ·exact f c _ z
end L2
namespace P2
open PySem L2 PySem.Spec
open PyProof.Rows hiding St
def Bc(K:gF)(a:gr):It:=
 ⟨λi H=>∃c x,kl K H a c/\c[i]?=some x,λi H v H'=>∃T x,(∀c,kl K H a c->c[i]?=some x)/\H T=none/\v=.ref T/\H'=upd H T (.tup [.int<|i+1,x]),λi H=>∃c,kl K H a c/\c.length<=i⟩
def aeS{P:iQ}{w:iK}{K:gF}{U:jT}{k0}{tp:Pos}(a j e:gr)(J:e≠j)(ha:a≠j)(UM:a≠e):Turn P w K (.Tuple U k0 tp) (Bc K a) [e,j] e (λi h=>(∃f,IsEnum h e j ((i+1:Nat):Int) f)/\h.IsListIter j a i) where
 mem:=by simp
 obj:=λi h st b l=>by
  obtain⟨⟨f,n⟩,o,G,c,d⟩:=st;rcases aT.mp l with rfl|l;·exact⟨_,n,λv z=>by cases z⟩
  ·rw[aS]at l;subst l;exact⟨o,G,λv z=>by rw[d]at z;cases z⟩
 keep:=λi h h' st k=>by obtain⟨⟨f,n⟩,L⟩:=st;exact⟨⟨f,k e (by simp) _ n⟩,L.at λo e=>k j (by simp) o e⟩
 item:=by
  intro X O hw hK hc i m s σ H E I hf st hg;subst O hw hK;obtain⟨⟨f,n⟩,L⟩:=st;obtain⟨xs,x,V,hx⟩:=hg;obtain⟨C,Y,p,hz⟩:=I.list V;obtain⟨u,hu,ru⟩:=Y.get hx;have D:=P2.Draws.TZ (Draws.list (prog:=X.prog) (w:=X.w) (A:=X.A.in1) (by simpa using I.ok.hd hc) j a ha C.toArray);have K4:i<C.length:=(aD.mp hu).1;refine wpAny_pyNext_enum_itemD D n ⟨by simp,L,p.isList⟩ (by rw[aM];walk_at "l") J (by simp[J,bQ UM]) λx' h' tk O G VL hT hsz hk=>?_;have N:C[i]?=some x':=by simpa using O
  rw[hu]at N;cases N;have M:e<s.heap.objs.size:=Heap.lt_size n;have U7:j<s.heap.objs.size:=by obtain⟨o,G,_⟩:=L;exact Heap.lt_size G
  refine⟨_,rfl,wpAny_letOwnedTupleGo_enum G λh2 UZ F=>?_⟩;have g2:h2.get? s.heap.objs.size=some {cls:=.type "tuple",data:=.seq #[.int ((i+1:Nat):Int) tk,u]}:=(F.2 _<|eL M).trans hT
  have I1:Inv X m σ (upd H s.heap.objs.size<|.tup [.int<|(i:Int)+1,x]) {s with heap:=s.heap.push {cls:=.type "tuple",data:=.seq #[.int ((i+1:Nat):Int) tk,u]},toks:=tk+1}:=
   I.laid (t':=tk+1) (λb u q=>aj _ q) (au _) (show kj X.prog X.w _ _ _ (.tup _)from⟨by show 2<=sizeLine;decide,[.int ((i+1:Nat):Int) tk,u],.cons ⟨tk,rfl⟩<|.cons ru .nil,⟨_,aJ _ rfl,rfl,_,rfl⟩⟩)
  have R:∀b∈[e,j],pA X m (upd H s.heap.objs.size<|.tup [.int<|(i:Int)+1,x]) b:=λb l=>by
   obtain⟨f0,r⟩:=hf b l;refine⟨?_,r⟩;rw[hA<|λz=>?_];·exact f0
   ·rcases aT.mp l with w|w;·rw[w]at z;exact absurd z (aW M)
    ·rw[aS.mp w]at z;exact absurd z (aW U7)
  have I2:=Inv.aeX (t':=tk+1) (h':=h2) (ch:=[e,j]) I1 (λb o l q=>by
   have b1:b≠e:=λz=>l (by simp[z]);have b2:b≠j:=λz=>l (by simp[z]);by_cases z:b=s.heap.objs.size
   · subst z;have q2:some _=some o:=(aJ _ rfl).symm.trans q;cases q2;exact g2
   · have q':s.heap.get? b=some o:=(Heap.get?_push_ne _ _ _ z).symm.trans q;exact(F.2 b b1).trans (hk b o b1 b2 q')) R
  refine⟨.ref s.heap.objs.size,_,I2,rfl,⟨_,x,λys hy=>by rw[I.LM hy V];exact hx,I.hok.fresh<|au _,rfl,rfl⟩,⟨⟨_,by simpa using UZ⟩,?_⟩,λb l=>(R b l).1⟩;have:=VL.2.1;rw[show i+1+1 - 1=i+1 by simp]at this;exact this.at λo q=>(F.2 j<|bQ J).trans q
 done:=by
  intro X O hw hK hc i m s σ H E I hf st hg;subst O hw hK;obtain⟨⟨f,n⟩,L⟩:=st;obtain⟨xs,V,hx⟩:=hg;obtain⟨C,Y,p,hz⟩:=I.list V;have hl:=Y.length;have hT:s.TypeIs (.ref e) "enumerate":=⟨_,n,rfl⟩;unfold pyNext
  refine ah (wpAny_attempt (wpAny_callSpecial?_slot (name:=Str.ofString "__next__") hT eO
   (wpAny_call_entry eO hT PySem.F.entry_enumerate_next ?_ (PySem.F.args_enumerate_next_1 _))))
  show wpAny _ _ (field (.ref e) 2>>=_) _ _ _;refine ah (cG n rfl (x:=.ref j) rfl ?_);refine ah (wpAny_nextOf_list_end (by simpa using I.ok.hd hc) L p.isList (by simp;simp_all) λh' x he' Z=>?_);obtain⟨o,G,uW⟩:=Z;refine ah (wpAny_isInstance (T:="StopIteration") (b:=true) ⟨o,G,uW⟩ isSubtype_stop ?_);obtain⟨f0,f1,f2,f3,f4,f5⟩:=hf j (by simp);exact aE ⟨rfl,I.turned (t':=s.toks) (λb o l e=>he' b o l e) f0 f1 f3 f4 f5⟩
 self:=λ_ _ _ _ _ st h=>by obtain⟨⟨f,n⟩,_⟩:=st;exact wpAny_pyIter_enum n h
end P2
namespace P2
open PySem
section
variable{i:iQ}{w:iK}{A:jd}{E:iR}{s:gQ}
def V9{rest}(h:typeLookup (.type T) "__init__"=pure (some<|.builtin "object.__init__"))(f:Bind.madeBy (.type T)=pure (some newId))(d:(some newId !=some "object.__new__")=true):
    Meets (Builtin.«object.__init__» ⟨self::rest,kw⟩) (λ_ R s=>s.TypeIs self T/\R (.ok<|.ret .none) s):=.of_wp λi w A R s ⟨hT,c⟩=>by
 cases rest with
 |cons a rest=>
  repeat(any_goals(first|assumption|wp_step))
  exact⟨_,rfl,c⟩
 |nil=>
  cases kw with
  |nil=>exact aE ⟨_,rfl,c⟩
  |cons k kw=>
   repeat(any_goals(first|assumption|wp_step))
   exact⟨_,rfl,c⟩
def aeZ{Q:iR}(ft:TypeCalled T newId "object.__init__")(q:(some newId !=some "object.__new__")=true)(I:checkTypeCall T ⟨args,kw⟩=pure ())(v:checkBuiltinCall newId ⟨.type T::args,kw⟩=pure ())
 (p:∀a,argsOk "object.__init__" ⟨a::args,kw⟩)(L:entryFor table newId=some Bn)(g:Meets (Bn ⟨.type T::args,kw⟩) S)(h:S A.in1 (wants (λa f=>f.TypeIs a T/\Q a f) E) s):wpAny (model i w) A (call (.type T) args kw) Q E s:=by
  obtain⟨c,M,D⟩:=ft.mro;obtain⟨O,N,_,l,o,z,j⟩:=ft;refine eo (codeAny_of_tree<|show wpAny _ _ (callAny (.type T) _) _ _ _ from aE ⟨dX _<|by decide+kernel,fP F.entry_type_call ?_⟩);rw[Around.under_plain (weight_type_call_type T args kw)<|units_type_call_type T args kw];repeat(any_goals(first|assumption|wp_step))
  refine cR (cz o L<|wpAny_of_eq v<|g i w A.in1 _ s h) λr f n=>?_;rcases r with e|fl;·exact n
  ·cases fl with
   |ret a=>
    obtain⟨hT,C⟩:=n;have G:=j.lookup;have J:=j.bind a;repeat(any_goals(first|assumption|wp_step))
    refine cR (cz j.plain F.entry_object_init<|j.check _ _ _ _ _ _ _ _ hT (p a)<|V9 j.lookup l q i w A.in1 (wants (λr k=>r=.none/\Q a k) E) f ⟨hT,rfl,C⟩) λm k d=>?_;rcases m with e|fl₂;·exact d
    ·cases fl₂ with
     |ret r=>obtain⟨rfl,C⟩:=d;repeat(any_goals(first|assumption|wp_step))
     |_=>exact d.elim
   |_=>exact n.elim
def Te{n}{Q:iR}(j:s.heap.get? l=some ⟨.type "list",none,.seq items n,sl⟩)
 (h:∀a,IsEnum a (s.heap.objs.size+1) s.heap.objs.size 1 .none->a.IsListIter s.heap.objs.size l 0->a.objs.size=s.heap.objs.size+2->(∀b o,s.heap.get? b=some o->a.get? b=some o)->Q (.ref<|s.heap.objs.size+1) {s with heap:=a}):
   wpAny (model i w) A (call (.type "enumerate") [.ref l] [(Str.ofString "start",.int 1 t)]) Q E s:=by
  refine aeZ F.called_enumerate (by decide) (by kernel_rfl) (by kernel_rfl) (λc=>?_) F.entry_enumerate_new (XN l items n t sl) ⟨j,?_⟩;·exact F.args_object_init_2 c _
  ·have d:(s.heap.push {cls:=.type "list_iterator",data:=.fields #[.ref l,.int 0 0]}).objs.size=s.heap.objs.size+1:=d9 ..;show _/\_;rw[d];have f:=aJ (s.heap.push {cls:=.type "list_iterator",data:=.fields #[.ref l,.int 0 0]}) (o:={cls:=.type "enumerate",data:=.fields #[.none,.bool false,.ref s.heap.objs.size,rawInt 1,.none,.none]}) rfl;rw[d]at f;exact⟨⟨_,f,rfl⟩,h _ f ⟨_,aj _<|aJ _ rfl,rfl,rfl⟩ (by rw[d9,d]) λb o x=>aj _<|aj _ x⟩
variable{M:Model}{f:Env}
def afd{pos rest}
 (h:wpAny M A (spliced<|backTo pos<|starEach (e::rest) f) (λl c=>wpAny M A (evalAll ((backToKw pos<|keywordEach xc f).map (·.2))) (λk d=>wpAny M A (call (.type T) l (((backToKw pos<|keywordEach xc f).filterMap (·.1)).zip k)) Q E d) E c) E s)
 (p:backTo pos (starEach (e::rest) f)=(false,eval e f)::backTo pos (starEach rest f))(n:(backTo pos<|starEach (e::rest) f).any (·.1)=false)(q:(backToKw pos<|keywordEach xc f).all (·.1.isSome)=true)(o:(backToKw pos<|keywordEach xc f).any (·.1.isNone)=false):
   wpAny M A (callWith pos (.type T) [] (backTo pos<|starEach (e::rest) f)<|backToKw pos<|keywordEach xc f) Q E s:=by
  have v:wpAny M A (evalArgs (.type T) true (backTo pos<|starEach (e::rest) f)<|backToKw pos<|keywordEach xc f) (λa c=>wpAny M A (call (.type T) ([]++a.pos) a.kw) Q E c) E s:=by rw[p]at h⊢;exact PyProof.Rows.evalArgs_kwB q h
  unfold callWith;refine ah (df<|aK v (λa c j=>ah<|cI ?_) λ_ _ x=>x);simp only[n,o,dh];exact ah (aE<|ah<|aK j (λr d m=>ah<|df<|wpAny_point<|aE m) λ_ _ x=>x)
end
open L2 PySem.Spec PySem.Calls
open PyProof.Rows hiding St
def Qv:bootBuiltins "enumerate"=some (.type "enumerate"):=by decide+kernel
def VU(K:gF)(h:TE):TI:=λσ H R=>h σ H λf c=>∃x,[f]=[x]/\∃a,x=.ref a/\(∃d,kl K c a d)/\R (Bc K a) c
section
variable{X:Cx}
def aaC{U pos j}(hg:Gl X "enumerate")(hm:X.mg "enumerate"=none)(k:PE X e te)
 (Z:X.se e [])(m:backTo pos (starEach [e] X.env)=(false,eval e X.env)::backTo pos (starEach [] X.env))(v:(backTo pos<|starEach [e] X.env).any (·.1)=false):
   PI X (.Tuple elts U tp) (.Call (.Name "enumerate" p) [e] [⟨some<|Str.ofString "start",.Constant (.int 1) j cp,kp⟩] pos) (VU X.K te):=by
  intro d s σ H R I h;refine cK (xg I hg hm Qv (afd ?_ m v (by rfl) (by rfl)) (by decide)<|by decide);have C:PA X [e] (Oz te Gh):=tD k tE Z;refine g6 (C pos d s σ H (λL i=>∃x,L=[x]/\∃a,x=.ref a/\(∃D,kl X.K i a D)/\R (Bc X.K a) i) I h) λus c r=>?_;obtain⟨J,i,l,N,O⟩:=r;obtain⟨x,rfl,a,rfl,⟨D,hq⟩,q⟩:=O;obtain⟨u,rfl,M⟩:=vals1 N;obtain rfl:u=Value.ref a:=M;refine kws_cons (dR<|kws_nil ?_);obtain⟨V,rv,⟨o,n,G,hc,hd,z⟩,hz⟩:=l.list hq;obtain⟨oc,od,T,P⟩:=o;cases hc;cases hd;cases z;refine Te (s:={c with toks:=c.toks+1}) G λh' k hi Y hk=>wpAny_pyIter_enum k ?_;have I2:Inv X d σ i {c with heap:=h',toks:=c.toks+1}:=l.kept (t':=c.toks+1) hk;have F:a<c.heap.objs.size:=Heap.lt_size G;refine⟨c.heap.objs.size+1,[c.heap.objs.size+1,c.heap.objs.size],_,_,i,rfl,I2,aeS a c.heap.objs.size (c.heap.objs.size+1) (Nat.succ_ne_self _) (aW F)<|aW<|Nat.lt_succ_of_lt F,⟨⟨_,k⟩,hi⟩,λb hb=>?_,q⟩;have f:c.heap.objs.size<=b:=by
   rcases aT.mp hb with e|e;·rw[e];exact c6 _
   ·rw[aS.mp e];exact au _
  exact l.uy f (l.hok.fresh f)
end
def lW:Nat->gi D->gi D
 |_,[]=>[]
 |k,d::r=>.tup [.int k,d]::lW (k+1) r
theorem JZ:∀a k,(lW k a).length=a.length
 |[],_=>rfl
 |d::r,k=>by show(lW (k+1) r).length+1=_;rw[JZ r];rfl
theorem JY:∀a k i d,a[i]?=some d->(lW k a).drop i=.tup [.int ((k+i:Nat):Int),d]::(lW k a).drop (i+1)
 |[],_,_,_,h=>by simp at h
 |d::r,k,0,e,h=>by cases h;rfl
 |d::r,k,i+1,e,h=>by have:=JY r (k+1) i e h;show(lW (k+1) r).drop i=_::(lW (k+1) r).drop (i+1);rw[this,show k+1+i=k+(i+1)by lia]
section
variable{X:Cx}{E:XK}{b:Nat}{e:hD}{z:jT}{H}{A:gi Stmt}{f:hP}{a:sN}{r:gZ}{C p F I pos c:Pos}{j}
def A0(f:hP)(a:sN)(r:gZ):gZ:=λρ S=>toZ (kW (f<|iO ρ) S) λd h=>match d with
 |.lst ds=>lF a r (lW 1 ds) ρ h
 |_=>.bad
def afM(hp:PassesOwn (model X.prog X.w) X.A X.env X.xe)(hc:X.calm=true)(hg:Gl X "enumerate")(hm:X.mg "enumerate"=none)(he:DE X E e f)(ha:ZG X (.Tuple z H C) a)(hb:nN X E b A r)
 (h1:autoParam (X.se e []) aZ0)(M:autoParam (backTo c (starEach [e] X.env)=(false,eval e X.env)::backTo c (starEach [] X.env)) aZ0)(h3:autoParam ((backTo c<|starEach [e] X.env).any (·.1)=false) aZ0)
 (hs:autoParam (∀x,foldedSetIterable (.Call (.Name "enumerate" p) [e] [⟨some<|Str.ofString "start",.Constant (.int 1) j I,F⟩] c) X.env x=pure x) aZ5):
   ZS X E b (.For (.Tuple z H C) (.Call (.Name "enumerate" p) [e] [⟨some<|Str.ofString "start",.Constant (.int 1) j I,F⟩] c) A [] pos) (A0 f a r):=by
  obtain⟨t,pe,re⟩:=he;obtain⟨g,pg,rg⟩:=ha;obtain⟨tb,pb,rb⟩:=hb;refine⟨_,Fu hp hc (aaC hg hm pe h1 M h3) pg pb hs,λ{B al lo _ _ ρ S D} hb s h=>re s.rs<|Aft.mono (gP.toAft (k:=λd U kf H' S'=>jm X.K B E D U H'<|match d with|.lst G=>lF a r (lW 1 G) ρ S'|_=>.bad) s<|jm.nE h) λs1 h1 v rv=>⟨v,rfl,?_⟩⟩;split at h1
  ·rename_i G;obtain⟨l,vs,rfl,hq,rvs⟩:=rv.rQ;refine⟨l,rfl,⟨vs,hq⟩,λi m O N=>∃n L J V,RZ X.K B n L N O J V/\Rep X.K n N (.ref l) (.lst G)/\jm X.K B E D n N (lF a r ((lW 1 G).drop i) J V)/\m=G.length - i,⟨_,al,lo,ρ,S,s.grow s1,rv,h1,rfl⟩,?_⟩
   rintro i m O N ⟨n,L,J,V,Z,r2,M,rfl⟩
   by_cases hi:i<G.length
   ·right;have ed:G[i]?=some G[i]:=bw hi;rw[JY G 1 i _ ed]at M;obtain⟨w1,w2⟩:=GZ r2 n N .refl Z.fresh;obtain⟨go,yl⟩:=w1 i _ ed;refine⟨go,λP H'=>∃n L J V,RZ X.K B n L H' P J V/\Rep X.K n H' (.ref l) (.lst G)/\jm X.K B E D n H' (lF a r ((lW 1 G).drop (i+1)) J V),λP H' ⟨Qa,WN,R,S3,z1,z2,z3⟩=>⟨G.length - (i+1),by grind,Qa,WN,R,S3,z1,z2,z3,rfl⟩,λx H3 y=>?_⟩;obtain⟨T,Y,hx,hT,rfl,rfl⟩:=y;obtain⟨_,rx⟩:=yl Y N ⟨rfl,hx⟩;have sm:=lO (K:=X.K) (o:=.tup [.int<|(i:Int)+1,Y]) hT;have s3:=Z.grow sm;have rT:Rep X.K n (upd N T<|.tup [.int<|(i:Int)+1,Y]) (.ref T) (.tup [.int ((1+i:Nat):Int),G[i]]):=by
     have:((1+i:Nat):Int)=(i:Int)+1:=by lia
     rw[this];exact .tup (.inl ⟨Z.fresh T hT,i8⟩) (.cons (.int _)<|.cons (rx.up sm) .nil)
    unfold lF at M;cases q:a (.tup [.int ((1+i:Nat):Int),G[i]]) J with
    |some R=>rw[q]at M;exact rg s3 rT ⟨R,q,λσ3 s4=>rb hb s4<|Gr (k:=lF a r<|(lW 1 G).drop (i+1)) (jm.ext M<|.of sm) λU kf H' P jr S' Y s' h'=>⟨U,kf,jr,S',s',(r2.up sm).mv Y,h'⟩⟩
    |none=>rw[q]at M;exact M.elim
   ·left;have e:(lW 1 G).drop i=[]:=bX (by rw[JZ];simp_all);rw[e]at M;obtain⟨w1,w2⟩:=GZ r2 n N .refl Z.fresh;exact⟨w2 i<|by simp_all,M n L N O .refl Z⟩
  ·exact h1.elim
end
end P2
namespace P2
open PySem L2 PySem.Spec
def pd(T n:String):gL:=T==n||(T=="bool"&&n=="int")
noncomputable def oX:gw
 |[d,.tup [.ty n,.ty m]]=>match tyName d with
  |some T=>if pL.contains n=true/\pL.contains m=true then .ok (.bl<|pd T n||pd T m)else .bad
  |none=>.bad
 |_=>.bad
variable{X:Cx}{E:XK}
def ach(X:Cx):gi V->Hp->VK->Prop:=λf H Q=>∃x d n m T,f=[x,.ref d]/\mf X.K H d [.ty n,.ty m]/\pL.contains T=true/\pL.contains n=true/\pL.contains m=true/\
 ((x=.non/\T="NoneType")\/(∃b,x=.bl b/\T="bool")\/(∃i,x=.int i/\T="int")\/(∃z,x=.str z/\T="str")\/(∃a c,x=.ref a/\kl X.K H a c/\T="list")\/(∃a c,x=.ref a/\mf X.K H a c/\T="tuple"))/\Q (.bl<|pd T n||pd T m) H
def QJ:lu X (.builtin "isinstance") (ach X):=by
 intro j s σ H xs us Q I r h;obtain⟨x,tp,n,m,T,rfl,R,D,N,O,P,q⟩:=h;obtain⟨u,c,rfl,d,J⟩:=vals2 r;cases J;have Z:=Ez X.K T (by simpa using D) n (by simpa using N);have Y:=Ez X.K T (by simpa using D) m (by simpa using O);obtain⟨l,vt,G,_⟩:=I.tuple R;obtain⟨c1,c2,rfl,M,L⟩:=vals2 vt;cases M;cases L;obtain⟨o,f,V,k,U⟩:=G;obtain⟨cl,dd,da,sl⟩:=o;cases V;cases U;have e:W.kitAny X.K (.type T) [.type n,.type m]=some (pd T n||pd T m):=by
  unfold W.kitAny;rw[Z];show(match some (pd T n)with|some true=>some true|some false=>W.kitAny X.K (.type T) [.type m]|none=>none)=_;cases pd T n with
  |true=>rfl
  |false=>unfold W.kitAny;rw[Y];show(match some (pd T m)with|some true=>some true|some false=>W.kitAny X.K (.type T) []|none=>none)=_;cases pd T m<;>rfl
 have fin:∀tk,EP X j σ Q (.bool<|pd T n||pd T m) {s with toks:=tk}:=λtk=>⟨.bl _,H,I.tok tk,rfl,q⟩;rcases P with⟨rfl,rfl⟩|⟨b,rfl,rfl⟩|⟨i,rfl,rfl⟩|⟨z,rfl,rfl⟩|⟨a,F,rfl,v,rfl⟩|⟨a,F,rfl,v,rfl⟩;·cases d;exact fE W.kitx_none I.iN True.intro f e (λz=>nomatch z) fin
 ·cases d;exact fE W.kitx_bool I.iN True.intro f e (λz=>nomatch z) fin
 ·obtain⟨t,rfl⟩:=d;exact fE W.kitx_int I.iN True.intro f e (λz=>nomatch z) fin
 ·obtain⟨t,rfl⟩:=d;exact fE W.kitx_str I.iN True.intro f e (λz=>nomatch z) fin
 ·cases d;obtain⟨l,_,p,_⟩:=I.list v;obtain⟨o,k,f1,C,_⟩:=p;exact fE W.kitx_list I.iN ⟨o,f1,C⟩ f e (λz=>nomatch z) fin
 ·cases d;obtain⟨l,_,p,_⟩:=I.tuple v;obtain⟨o,f1,C,_⟩:=p;exact fE W.kitx_tuple I.iN ⟨o,f1,C⟩ f e (λz=>nomatch z) fin
def QK:og X E (.builtin "isinstance") oX:=by
 refine⟨_,QJ,λ{_ H _ _ _} fr r h=>?_⟩;unfold oX at h;split at h
 ·rename_i d n m;obtain⟨v,u,rfl,q,l⟩:=gR.two r;obtain⟨c,o,rfl,sq,i⟩:=l.sk;obtain⟨D,C,rfl,k,j⟩:=gR.two i;cases k;cases j;cases e:tyName d with
  |none=>rw[e]at h;exact h.elim
  |some T=>
   rw[e]at h;dsimp only at h;split at h
   ·rename_i a;have f:=h H (.refl H) _ (.bl _);cases q with
    |non=>cases e;exact⟨_,c,n,m,_,rfl,sq,rfl,a.1,a.2,.inl ⟨rfl,rfl⟩,f⟩
    |bl b=>cases e;exact⟨_,c,n,m,_,rfl,sq,rfl,a.1,a.2,.inr<|.inl ⟨b,rfl,rfl⟩,f⟩
    |int b=>cases e;exact⟨_,c,n,m,_,rfl,sq,rfl,a.1,a.2,.inr<|.inr<|.inl ⟨b,rfl,rfl⟩,f⟩
    |str b=>cases e;exact⟨_,c,n,m,_,rfl,sq,rfl,a.1,a.2,.inr<|.inr<|.inr<|.inl ⟨b,rfl,rfl⟩,f⟩
    |lst p _=>cases e;exact⟨_,c,n,m,_,rfl,sq,rfl,a.1,a.2,.inr<|.inr<|.inr<|.inr<|.inl ⟨_,_,rfl,p.elim (λz=>.inl z.2) KL.sq,rfl⟩,f⟩
    |tup p _=>cases e;exact⟨_,c,n,m,_,rfl,sq,rfl,a.1,a.2,.inr<|.inr<|.inr<|.inr<|.inr ⟨_,_,rfl,p.elim (λz=>.inl<|.inl z.2) .inr,rfl⟩,f⟩
    |_=>cases e
   ·exact h.elim
 ·exact h.elim
end P2
namespace pG
open PySem L2 P2 WP WR WC
def at_(i:Nat):Stmt:=PySem.Challenge.pw_weather_k35_books_of_rules.main.body.getD i (.Pass ⟨0,0,0,0⟩)
def wW(a:Ad)(d:gw)(h f c:hL)(b:Nat):gZ:=(gG (jD (hY a.Tokens "expect" h [] (zV 0) (gx (zD (dC (.str "fill"))) gA)))
    (gG (iy 1 (zF d (gx (hY a.Tokens "take" f [] (zV 0) gA) (gx (zD (dC (.int 1))) (gx (zD (dC (.int 1000000))) gA)))))
    (gG (iy 2 (zF d (gx (hY a.Tokens "take" f [] (zV 0) gA) (gx (zD (dV 1)) (gx (zD (d2 iU (dC (.int 100)) (dV 1))) gA)))))
    (gG (jD (hY a.Tokens "expect_end" c [] (zV 0) gA))
    (jE (zD (dA gY (gh (dV 1) (gh (dV 2) gk)))))))))
def wX(a:Ad)(h:gw)(c f d:hL)(b:Nat):gZ:=(gG (jD (hY a.Tokens "expect" c [] (zV 0) (gx (zD (dC (.str "mark"))) gA)))
    (gG (iy 2 (zF h (gx (hY a.Tokens "take" f [] (zV 0) gA) gA)))
    (gG (jD (hY a.Tokens "expect" c [] (zV 0) (gx (zD (dC (.str ":"))) gA)))
    (gG (iy 3 (zZ d (gx (zV 0) gA)))
    (gG (jg (jS (lB (b1 tB (d2 gW (dA ih (gh (dV 1) gk)) (dC (.int 12)))) (b1 tB (d2 i7 (dV 2) (je (kS (λρ=>((dV 1) ρ).bind mi) 1 [] (gV 0) (λ_=>.ok true) (d2 gK (dV 0) (dC (.int 0))))))))) (λρ S=>leave ((λρ=>toS ((gh (dC (.int 1)) gk) ρ) λi=>.ex a.NoText ["row"] i) (iO ρ)) S) j5)
    (jE (zD (dA gY (gh (dV 2) (gh (dV 3) gk))))))))))
def uh(a:Ad)(c d h f:hL):gZ:=(gG (jg (zB (b1 tB (d2 gW (jW "str" vF (dV 4) (gh (dC (.str " ")) gk)) (dC (.str ""))))) jK.ct j5)
    (gG (jg (zB (b1 tB (d2 oA (dV 2) (dC .non)))) (λρ S=>leave ((λρ=>toS ((gh (dV 3) gk) ρ) λi=>.ex a.NoText ["row"] i) (iO ρ)) S) j5)
    (gG (iy 5 (vX a.Tokens c (gx (zD (dV 4)) gA)))
    (sr (l0 a.iV a.NoText) a.NoText "row" 3 (sA (j6 tB (z2 gW (hY a.Tokens "ahead" d [(.int 0)] (zV 5) gA) (zD (dC (.str "fill"))))) (sC 2 (oa h (gx (zV 5) gA))) (sy 1 (oa f (gx (zV 5) (gx (zV 1) gA)))))))))
def sX(a:Ad)(c d h f:hL)(b:Nat):gZ:=(gG (iy 1 (tW (λρ=>(gk ρ).bind js)))
    (gG (iy 2 (zD (dC .non)))
    (gG (A0 (jW "str" oH (dV 0) (gh (dC (.str "\n")) gk)) (hT 2 (hC (hV 3) (hC (hV 4) P2.hN))) (uh a c d h f))
    (yk b 1 (jE (zD (dA gY (gh (dV 1) (gh (dV 2) gk)))))))))
def Dn(a:Ad)(c:gw):g0:=(gy (gS 1 (d2 gK (dV 0) (dC (.int 0))))
    (gy (gS 2 (dA c (gh (d2 gK (dV 0) (dC (.int 1))) gk)))
    (g9 ((g8 (dC (.str "mark ")) (g8 (d1 iI (dV 1)) (g8 (dC (.str ": ")) (g8 (d1 iI (dV 2)) kn)))) Str.empty))))
def Dm(a:Ad):g0:=(gy (gS 1 (d2 gK (dV 0) (dC (.int 0))))
    (gy (gS 2 (d2 gK (dV 0) (dC (.int 1))))
    (g9 ((g8 (dC (.str "fill ")) (g8 (d1 iI (dV 1)) (g8 (dC (.str " ")) (g8 (d1 iI (dV 2)) kn)))) Str.empty))))
def Dp(a:Ad)(c d:gw):g0:=(gy (pP 1 (kS (λρ=>((d2 gK (dV 0) (dC (.int 0))) ρ).bind mi) 1 [] (gV 0) (λ_=>.ok true) (dA c (gh (dV 0) gk))))
    (gy (iA (b1 tB (d2 oA (d2 gK (dV 0) (dC (.int 1))) (dC .non))) (n7 1 (dA d (gh (d2 gK (dV 0) (dC (.int 1))) gk))) iC)
    (λρ=>(g9 (jW "str" k4 (dC (.str "\n")) (gh (dV 1) gk))) (rL 1 ρ))))
def zr(a:Ad):g0:=(gy (iA (b1 tB (d2 oZ (dV 1) (dA ih (gh (dV 0) gk)))) (g9 (d2 gK (dV 0) (dV 1))) iC)
    (g9 (gq 0)))
def DC(a:Ad):g0:=(gy (gS 2 (d2 gv (gq 1) (d2 hR (dV 0) (gq 8))))
    (gy (gS 3 (d2 hR (d2 iE (dV 0) (gq 8)) (dV 2)))
    (g9 (d2 gv (d2 gv (d2 iU (gs "x") (dV 3)) (d2 gK (gs "bcdefghijklmn") (d2 hR (dV 1) (gq 13)))) (d2 iU (gs "x") (d2 pQ (d2 pQ (dV 2) (gq 1)) (dV 3)))))))
def ue(a:Ad)(f c d:gw):g0:=(gy (gS 6 (dA c (gh (dV 1) (gh (ot nH (dV 0) (λρ=>((d2 gv (dC (.int 14)) (d2 iU (dC (.int 4)) (dV 5))) ρ).bind pI) (λρ=>((d2 gv (dC (.int 18)) (d2 iU (dC (.int 4)) (dV 5))) ρ).bind pI)) (gh (dC (.str "and")) gk)))))
    (gy (n7 2 (dA gY (gh (dA d (gh (dV 1) (gh (dV 5) gk))) (gh (d2 gK (dV 6) (dC (.int 0))) gk))))
    (n7 3 (d2 gv (d2 gv (d2 gv (dC (.str "mark ")) (dA d (gh (dV 1) (gh (dV 5) gk)))) (dC (.str ": "))) (d2 gK (dV 6) (dC (.int 1)))))))
def zq(a:Ad)(c d f:gw):g0:=(gy (gS 1 (dA c (gh (dV 0) (gh (dC (.int 0)) gk))))
    (gy (pP 2 (λρ=>(gk ρ).bind js))
    (gy (pP 3 (λρ=>(gk ρ).bind js))
    (gy (gS 4 (ot nH (dV 0) (λρ=>((dC (.int 2)) ρ).bind pI) (λρ=>((dC (.int 14)) ρ).bind pI)))
    (gy (vx (λρ=>((gh (dA ih (gh (dV 4) gk)) gk) ρ).bind mL) (gV 5) (ue a c d f))
    (λρ=>(gy (gS 7 (dC .non))
    (gy (gS 8 (dA c (gh (dV 0) (gh (dC (.int 1)) gk))))
    (gy (iA (b1 tB (d2 gW (d2 hR (dV 8) (dC (.int 2))) (dC (.int 1)))) (gy (gS 9 (d2 gv (dC (.int 1)) (d2 hR (d2 iE (dV 8) (dC (.int 2))) (d2 rZ (dC (.int 10)) (dC (.int 6))))))
    (gy (gS 7 (dA gY (gh (dV 9) (gh (d2 gv (dV 9) (d2 gK (je (λρ=>((gh (dC (.int 0)) (gh (d2 iU (dC (.int 99)) (dV 9)) (gh (d2 hR (d2 iE (dV 8) (dC (.int 3))) (d2 gv (d2 iU (dC (.int 99)) (dV 9)) (dC (.int 1)))) gk))) ρ).bind js)) (d2 hR (d2 iE (dV 8) (dC (.int 4))) (dC (.int 3))))) gk))))
    (n7 3 (d2 gv (d2 gv (d2 gv (dC (.str "fill ")) (dA lQ (gh (d2 gK (dV 7) (dC (.int 0))) gk))) (dC (.str " "))) (dA lQ (gh (d2 gK (dV 7) (dC (.int 1))) gk)))))) iC)
    (λρ=>(g9 (dA gY (gh (dA gY (gh (dV 2) (gh (dV 7) gk))) (gh (dV 3) gk)))) (rL 3 ρ))))) (rL 2 ρ)))))))
def gl_none(a:Ad):g0:=(gy (gS 1 (je (λρ=>((gh (dC (.str "mark")) (gh (dC (.str "mark a")) (gh (dC (.str "mark a:")) (gh (dC (.str "mark a here < 1")) (gh (dC (.str "mark a: here")) (gh (dC (.str "mark : here < 1")) (gh (dC (.str "mark a b: here < 1")) gk))))))) ρ).bind js)))
    (gy (gS 1 (d2 gv (dV 1) (je (λρ=>((gh (dC (.str "mark on: here < 1")) (gh (dC (.str "mark A: here < 1")) (gh (dC (.str "mark a1: here < 1")) (gh (dC (.str "mark abcdefghi: here < 1")) gk)))) ρ).bind js))))
    (gy (gS 1 (d2 gv (dV 1) (je (λρ=>((gh (dC (.str "mark z: here < 1 1")) (gh (dC (.str "marka: here < 1")) (gh (dC (.str "Mark z: here < 1")) (gh (dC (.str "z: here < 1")) (gh (dC (.str "fill")) (gh (dC (.str "fill 10")) gk)))))) ρ).bind js))))
    (gy (gS 1 (d2 gv (dV 1) (je (λρ=>((gh (dC (.str "fill 10 9")) (gh (dC (.str "fill 10 1001")) (gh (dC (.str "fill 0 0")) (gh (dC (.str "fill 1000001 1000001")) (gh (dC (.str "fill 10 20 30")) (gh (dC (.str "fill 01 10")) gk)))))) ρ).bind js))))
    (gy (gS 1 (d2 gv (dV 1) (je (λρ=>((gh (dC (.str "fill 10 010")) (gh (dC (.str "fill 1/2 1")) (gh (dC (.str "fill -1 1")) (gh (dC (.str "fill a 10")) (gh (dC (.str "fill: 10 20")) (gh (dC (.str "fill10 20")) (gh (dC (.str "?")) (gh (dC (.str "\t")) gk)))))))) ρ).bind js))))
    (gy (gS 1 (d2 gv (dV 1) (je (λρ=>((gh (dC (.str "mark z: here > 1")) (gh (dC (.str "mark z: back 0 < 1")) (gh (dC (.str "mark z; here < 1")) (gh (dC (.str "fills 10 20")) (gh (dC (.str "fill 10, 20")) gk))))) ρ).bind js))))
    (gy (gS 1 (d2 gv (dV 1) (je (λρ=>((gh (dC (.str "here < 1")) gk) ρ).bind js))))
    (gy (gS 1 (d2 gv (dV 1) (je (λρ=>((gh (dC (.str "mark z:: here < 1")) (gh (dC (.str "mark z: [here < 1")) (gh (dC (.str "mark z: here < 1\t")) gk))) ρ).bind js))))
    (g9 (d2 gK (dV 1) (d2 hR (dV 0) (dC (.int 40)))))))))))))
def qO(a:Ad)(c:gw):g0:=(gy (iA (b1 tT (dA oX (gh (dV 1) (gh (dA gY (gh (dC (.ty "list")) (gh (dC (.ty "tuple")) gk))) gk)))) (gy (iA (lB (b1 tB (d2 ky (dA (jQ a.iV) (gh (dV 0) (gh (dC (.ty "list")) gk))) (dA (jQ a.iV) (gh (dV 1) (gh (dC (.ty "list")) gk))))) (b1 tB (d2 ky (dA (jQ a.iV) (gh (dV 0) (gh (dC (.ty "tuple")) gk))) (dA (jQ a.iV) (gh (dV 1) (gh (dC (.ty "tuple")) gk)))))) (g9 (dC (.bl false))) iC)
    (gy (iA (b1 tB (d2 ky (dA ih (gh (dV 0) gk)) (dA ih (gh (dV 1) gk)))) (g9 (dC (.bl false))) iC)
    (g9 (dA rH (gh (je (kS (λρ=>((gh (dA ih (gh (dV 1) gk)) gk) ρ).bind mL) 1 [1,0] (gV 0) (λ_=>.ok true) (dA c (gh (d2 gK (dV 2) (dV 0)) (gh (d2 gK (dV 1) (dV 0)) gk))))) gk))))) iC)
    (gy (iA (b1 tB (d2 oW (dV 1) (dC .non))) (g9 (d2 oW (dV 0) (dC .non))) iC)
    (gy (iA (b1 tT (dA (jQ a.iV) (gh (dV 1) (gh (dC (.ty "str")) gk)))) (g9 (qf (dA (jQ a.iV) (gh (dV 0) (gh (dC (.ty "str")) gk))) (d2 gW (dV 0) (dV 1)))) iC)
    (g9 (qf (dA (jQ a.iV) (gh (dV 0) (gh (dC (.ty "int")) gk))) (qf (uo (dA (jQ a.iV) (gh (dV 0) (gh (dC (.ty "bool")) gk)))) (d2 gW (dV 0) (dV 1))))))))
def ug(a:Ad):g0:=(gy (gS 4 (d2 gK (dV 0) (dV 3)))
    (gy (AE 5 4 1 3 3 1 "  " " " "()[]+-*<=:")
    (gy (n7 2 (d2 gv (d2 gv (d2 iU (dC (.str " ")) (d2 hR (d2 gv (dV 1) (dV 3)) (dC (.int 4)))) (dV 4)) (d2 iU (dC (.str " ")) (d2 hR (d2 iE (dV 1) (dC (.int 5))) (dC (.int 2))))))
    (iA (b1 tB (d2 gW (d2 hR (d2 gv (dV 1) (dV 3)) (dC (.int 3))) (dC (.int 2)))) (n7 2 (d2 iU (dC (.str " ")) (d2 hR (d2 iE (dV 1) (dC (.int 3))) (dC (.int 3))))) iC))))
def DP(a:Ad):g0:=(gy (pP 2 (λρ=>(gk ρ).bind js))
    (gy (vx (λρ=>((gh (dA ih (gh (dV 0) gk)) gk) ρ).bind mL) (gV 3) (ug a))
    (λρ=>(g9 (dV 2)) (rL 2 ρ))))
def DH(a:Ad)(c:gw):g0:=(gy (gS 2 (dC (.int 0)))
    (gy (xW 3 (l0 a.iV a.NoText) (λρ=>((wI c (gh (jW "str" k4 (dC (.str "\n")) (gh (dV 0) gk)) gk)) ρ).bind λ_=>.ok ρ) (gS 2 (d1 (so a.NoText "row") (dV 3))))
    (g9 (qf (dA (jQ a.iV) (gh (dV 2) (gh (dC (.ty "int")) gk))) (qf (uo (dA (jQ a.iV) (gh (dV 2) (gh (dC (.ty "bool")) gk)))) (d2 gW (dV 2) (dV 1)))))))
def DD(a:Ad)(c:gw):g0:=(gy (iA (mj (b1 tB (d2 gW (d2 hR (dV 2) (dC (.int 4))) (dC (.int 1)))) (mj (b1 tB (d2 jX (dA ih (gh (d2 gK (dV 3) (dC (.int 0))) gk)) (dC (.int 0)))) (b1 tB (d2 jX (dV 1) (dC (.int 0)))))) (g9 (d2 gv (d2 gv (dC (.str "mark ")) (d2 gK (d2 gK (d2 gK (dV 3) (dC (.int 0))) (dC (.int 0))) (dC (.int 0)))) (dC (.str ": here < 1")))) iC)
    (gy (iA (mj (b1 tB (d2 gW (d2 hR (dV 2) (dC (.int 4))) (dC (.int 2)))) (mj (b1 tB (d2 gW (dA ih (gh (d2 gK (dV 3) (dC (.int 0))) gk)) (dC (.int 12)))) (b1 tB (d2 uM (dV 1) (dC (.int 12)))))) (g9 (dC (.str "mark zz: here < 1"))) iC)
    (gy (iA (mj (b1 tB (d2 gW (d2 hR (dV 2) (dC (.int 4))) (dC (.int 3)))) (mj (b1 tB (d2 oA (d2 gK (dV 3) (dC (.int 1))) (dC .non))) (b1 tB (d2 gW (dV 1) (dA ih (gh (dV 0) gk)))))) (g9 (d2 gK (je (λρ=>((gh (dC (.str "fill 1 1")) (gh (dC (.str "mark zz: here < 1")) gk)) ρ).bind js)) (d2 hR (d2 iE (dV 2) (dC (.int 4))) (dC (.int 2))))) iC)
    (g9 (dA c (gh (d2 iE (dV 2) (dC (.int 4))) gk))))))
def Di(a:Ad)(l c d f i j m k h:gw):g0:=(gy (FX (dA l (gh (dV 0) gk)) (gT 2 (gC (gV 1) (gC (gV 2) gN))))
    (gy (gS 3 (dA c (gh (dV 1) gk)))
    (gy (iA (lB (mF (b1 tT (dA (jQ a.iV) (gh (dV 3) (gh (dC (.ty "str")) gk))))) (lB (b1 tB (d2 ky (dV 3) (jW "str" k4 (dC (.str "\n")) (gh (dV 2) gk)))) (mF (b1 tT (dA f (gh (dA d (gh (dV 3) gk)) (gh (dV 1) gk))))))) (g9 (dC (.bl false))) iC)
    (gy (gS 4 (dA i (gh (dV 0) (gh (dC (.int 1)) gk))))
    (gy (gS 5 (dA j (gh (dV 2) (gh (d2 hR (d2 iE (dV 4) (dC (.int 7))) (dC (.int 1000))) gk))))
    (gy (iA (mF (b1 tT (dA f (gh (dA d (gh (jW "str" k4 (dC (.str "\n")) (gh (dV 5) gk)) gk)) (gh (dV 1) gk))))) (g9 (dC (.bl false))) iC)
    (gy (gS 6 (d2 hR (d2 iE (dV 4) (dC (.int 8))) (d2 gv (dA ih (gh (dV 2) gk)) (dC (.int 1)))))
    (gy (iA (b1 tB (d2 gW (d2 hR (d2 iE (dV 4) (dC (.int 5))) (dC (.int 3))) (dC (.int 1)))) (gS 6 (dA ih (gh (dV 2) gk))) iC)
    (gy (gS 7 (dA m (gh (dV 2) (gh (dV 6) (gh (d2 iE (dV 4) (dC (.int 11))) (gh (dV 1) gk))))))
    (gy (gS 8 (ot nH (dV 2) (λρ=>((dV 6) ρ).bind pI) (λ_=>.ok none)))
    (gy (iA (b1 tB (d2 gW (d2 hR (d2 iE (dV 4) (dC (.int 13))) (dC (.int 2))) (dC (.int 1)))) (gS 8 (d2 gv (dV 8) (je (λρ=>((gh (dA k (gh (d2 iE (dV 4) (dC (.int 17))) gk)) gk) ρ).bind js)))) iC)
    (gy (gS 9 (je (kS (λρ=>((gh (d2 hR (d2 iE (dV 4) (dC (.int 19))) (dC (.int 4))) gk) ρ).bind mL) 1 [] (gV 0) (λ_=>.ok true) (d2 iU (dC (.str " ")) (dV 0)))))
    (g9 (dA h (gh (d2 gv (d2 gv (d2 gv (ot nH (dV 2) (λ_=>.ok none) (λρ=>((dV 6) ρ).bind pI)) (dV 9)) (je (λρ=>((gh (dV 7) gk) ρ).bind js))) (dV 8)) (gh (d2 gv (d2 gv (dV 6) (dA ih (gh (dV 9) gk))) (dC (.int 1))) gk))))))))))))))))
end pG
namespace FM
def g(a b:Int):Int:=(Int.gcd a b:Int)
def Ku{a:Int}(c:0<=a):g a 0=a:=by unfold g;rw[Int.gcd_zero_right];lia
def Kt{a b:Int}(d:0<=a)(c:0<b):g b (a%b)=g a b:=by
 unfold g
 congr 1
 obtain⟨m,rfl⟩:=aO d;obtain⟨n,rfl⟩:=aO (fL c);show Nat.gcd n ((m:Int)%(n:Int)).natAbs=Nat.gcd m n;rw[show((m:Int)%(n:Int)).natAbs=m%n from by lia];rw[Nat.gcd_comm m n,Nat.gcd_rec n m,Nat.gcd_comm]
def T9(a b:Int):g (if a<0 then -a else a) (if b<0 then -b else b)=g a b:=by
 unfold g
 congr 1
 unfold Int.gcd
 congr 1
 ·split<;>simp
 ·split<;>simp
def Dl{a b:Int}(c:b≠0):0<g a b:=by unfold g;have h:=Int.gcd_pos_of_ne_zero_right a c;simp_all
def Kq(a b:Int):g a b∣a:=Int.gcd_dvd_left ..
def Kr(a b:Int):g a b∣b:=Int.gcd_dvd_right ..
def dv(t b:Int):Int:=if b<0 then -(g t b)else g t b
def top(t b:Int):Int:=t.fdiv (dv t b)
def bot(t b:Int):Int:=b.fdiv (dv t b)
def sS{t b:Int}(c:b≠0):dv t b≠0:=by have:=Dl (a:=t) c;unfold dv;split<;>lia
def Kd{a d q:Int}(c:d≠0)(h:a=d*q):a.fdiv d=q:=by subst h;rw[f9];exact Int.mul_fdiv_cancel q c
theorem split{t b:Int}(f:b≠0):t=dv t b*top t b/\b=dv t b*bot t b:=by
 have d:=sS (t:=t) f;have i:dv t b∣t:=by
  unfold dv;split;·exact Int.neg_dvd.mpr (Kq t b)
  ·exact Kq t b
 have h:dv t b∣b:=by
  unfold dv;split;·exact Int.neg_dvd.mpr (Kr t b)
  ·exact Kr t b
 obtain⟨p,c⟩:=i;obtain⟨q,a⟩:=h;constructor
 ·show t=dv t b*t.fdiv (dv t b);rw[Kd d c];exact c
 ·show b=dv t b*b.fdiv (dv t b);rw[Kd d a];exact a
structure sG(p q:Int):Prop where
 pos:0<q
 one:Int.gcd p q=1
def EI{t b:Int}(c:b≠0):sG (top t b) (bot t b):=by
 obtain⟨l,i⟩:=split (t:=t) c;have m:=sS (t:=t) c;have j:=Dl (a:=t) c;have f:(dv t b).natAbs=Int.gcd t b:=by unfold dv g;split<;>omega
 refine⟨?_,?_⟩
 ·rcases Int.lt_trichotomy b 0 with h|h|h
  ·have e:dv t b= -(g t b):=by unfold dv;rw[af h]
   rw[e]at i;refine Int.lt_of_not_ge λd=>?_;have:0<= -(g t b)*bot t b:=by have:=Int.mul_nonneg_of_nonpos_of_nonpos (show -(g t b)<=0 by omega) d;exact this
   omega
  ·exact absurd h c
  ·have e:dv t b=g t b:=by unfold dv;rw[ao<|by omega]
   rw[e]at i;refine Int.lt_of_not_ge λd=>?_;have:g t b*bot t b<=0:=Int.mul_nonpos_of_nonneg_of_nonpos (fL j) d;omega
 ·have e:Int.gcd (dv t b*top t b) (dv t b*bot t b)=(dv t b).natAbs*Int.gcd (top t b) (bot t b):=Int.gcd_mul_left ..;rw[<-l,<-i,f]at e;have k:0<Int.gcd t b:=by unfold g at j;omega
  exact(Nat.eq_of_mul_eq_mul_left k<|by rw[Nat.mul_one];exact e).symm
def Ra{t b:Int}(a:b≠0):top t b*b=t*bot t b:=by
 obtain⟨d,c⟩:=split (t:=t) a;have h:top t b*b=top t b*(dv t b*bot t b):=by rw[<-c]
 have f:t*bot t b=(dv t b*top t b)*bot t b:=by rw[<-d]
 rw[h,f];rw[<-fz,f9<|top t b]
def Jt{a b c:Int}(h:Int.gcd a b=1)(d:a∣b*c):a∣c:=by
 have f:Nat.Coprime a.natAbs b.natAbs:=h;have i:a.natAbs∣b.natAbs*c.natAbs:=by rw[<-fW];exact fT.mpr d
 exact fT.mp (f.dvd_of_dvd_mul_left i)
def WW{p q d c:Int}(a:sG p q)(b:sG d c)(h:p*c=d*q):p=d/\q=c:=by
 obtain⟨i,k⟩:=a;obtain⟨f,j⟩:=b;have d1:q∣c:=by
  have:q∣p*c:=by rw[h];exact Int.dvd_mul_left ..
  exact Jt (by rw[Int.gcd_comm];exact k) this
 have d2:c∣q:=by
  have:c∣d*q:=by rw[<-h];exact Int.dvd_mul_left ..
  exact Jt (by rw[Int.gcd_comm];exact j) this
 have e:q=c:=Int.dvd_antisymm (fL i) (fL f) d1 d2;subst e;exact⟨eW (by lia) h,rfl⟩
def scaled{p q k:Int}(L:sG p q)(a:k≠0):top (p*k) (q*k)=p/\bot (p*k) (q*k)=q:=by
 have f:q≠0:=by have:=L.pos;lia
 have d:q*k≠0:=Int.mul_ne_zero f a;refine WW (EI d) L ?_;have c:=Ra (t:=p*k) d
 refine eW a ?_;rw[fz,c,fz,fz,f9 k]
def JQ{t b:Int}(a:0<b):dv t b=g t b:=by unfold dv;rw[ao<|by lia]
def SK(t b:Int):(dv t b).natAbs=Int.gcd t b:=by unfold dv g;split<;>simp
def SM{t b:Int}(a:b≠0):(dv t b).natAbs<=b.natAbs:=by rw[SK];exact Nat.le_of_dvd (by simp_all) (Nat.gcd_dvd_right ..)
end FM
namespace T2
open PySem PySem.NumText TM
def i4(t:Int):gi Nat:=if t<0 then 45::num t.natAbs else num t.natAbs
def iw(t b:Int):gi Nat:=if b=1 then i4 t else i4 t++47::num b.natAbs
def y7(t:Int):gj (Str.ofString<|toString t)=i4 t:=by
 cases t with
 |ofNat n=>unfold i4;exact CB n
 |negSucc n=>
  unfold i4;rw[af<|Int.negSucc_lt_zero n];have e:gj (Str.ofString<|toString<|Int.negSucc n)=45::gj (Str.ofString<|toString (((n+1:Nat)):Int)):=by rfl
  rw[e,CB];rfl
def gO(c:Nat):gi Nat->gi (gi Nat)
 |[]=>[[]]
 |x::r=>if x=c then[]::gO c r else match gO c r with
  |p::a=>(x::p)::a
  |[]=>[[x]]
def qw:gO c (c::r)=[]::gO c r:=by show(if c=c then[]::gO c r else _)=_;rw[af rfl]
def q5(h:x≠c)(e:gO c r=p::ps):gO c (x::r)=(x::p)::ps:=by show(if x=c then[]::gO c r else match gO c r with|p::ps=>(x::p)::ps|[]=>[[x]])=_;rw[ao h,e]
theorem tK:∀{l},c∉l->gO c l=[l]
 |[],_=>rfl
 |x::r,h=>q5 (λz=>h<|by rw[z];exact bf ..) (tK λz=>h<|aQ _ z)
theorem AH:∀{l},c∉l->gO c (l++c::r)=l::gO c r
 |[],_=>qw
 |x::l,h=>q5 (λz=>h<|by rw[z];exact bf ..) (AH λz=>h<|aQ _ z)
def zS(c:Nat):gi (gi Nat)->gi Nat
 |[]=>[]
 |[p]=>p
 |p::q::r=>p++c::zS c (q::r)
theorem Oi:∀{a},a≠[]->(∀p∈a,c∉p)->gO c (zS c a)=a
 |[],h,_=>absurd rfl h
 |[p],_,h=>tK (h p<|by simp)
 |p::q::r,_,h=>by show gO c (p++c::zS c (q::r))=_;rw[AH<|h p<|by simp,Oi (by simp) λx d=>h x<|aQ _ d]
theorem sR(c):∀l:gi gp,gj (Str.join ⟨#[c]⟩ l)=zS c (l.map gj)
 |[]=>rfl
 |[p]=>rfl
 |p::q::r=>by show gj (p++⟨#[c]⟩++Str.join ⟨#[c]⟩ (q::r))=_;rw[mV,mV,sR c<|q::r];show gj p++[c]++_=gj p++c::_;simp
def F8(x c):(Txt.split x ⟨#[c]⟩).map gj=gO c (gj x):=by
 have d:=StrLaws.join_split x ⟨#[c]⟩;have j:=StrLaws.split_free x c;have i:Txt.split x ⟨#[c]⟩≠[]:=λz=>by
  have k:=aI gj d;unfold Txt.split at z;split at z;·cases z
  ·split at z;·cases z
   ·rw[StrLaws.partsBetween_eq]at z;obtain⟨p,r,e⟩:=StrLaws.partsFrom_ne x (Str.length ⟨#[c]⟩) 0 (Builtin.Str.occurrences x ⟨#[c]⟩ 0 x.length<|x.length+1);simp_all
 have a:=aI gj d;rw[sR]at a;rw[<-a];refine(Oi (by simpa using i) λp h=>?_).symm;obtain⟨q,f,rfl⟩:=bJ.mp h;exact j q f
def dg(c:Nat):gL:=decide (48<=c)&&decide (c<=57)
def qh(a:hZ):gL:=decide (a≠[])&&a.all dg
noncomputable def kz(a:hZ)(k:Nat):gL:=decide (a.length<=k)&&qh a&&(decide (a=[48])||!decide (a.head?=some 48))
def C6(h:qh cs=true):AllDigits cs/\cs≠[]:=by unfold qh at h;simp only[aq,aA]at h;refine⟨λc a=>?_,h.1⟩;have:=aZ.mp h.2 c a;unfold dg at this;simpa using this
def TC(h:AllDigits cs)(d:cs≠[]):qh cs=true:=by unfold qh;simp only[aq,aA];refine⟨d,aZ.mpr λc a=>?_⟩;have:=h c a;unfold dg;simpa using this
def E1{k}(h:kz cs k=true):cs.length<=k/\qh cs=true:=by unfold kz at h;simp_all
def E2{k}(h:(num m).length<=k):kz (num m) k=true:=by
 unfold kz;obtain⟨c,a,d⟩:=Yt m;simp only[aq,aA];refine⟨⟨h,TC c a⟩,?_⟩
 grind
def Mx(h:c<48\/57<c):c∉num m:=λz=>by have:=u7 m c z;lia
def ko(a:hZ):gL:=decide (a.head?=some 45)
def jL(a:hZ):gi Nat:=if ko a=true then a.drop 1 else a
abbrev _root_.mU:=gi (gi Nat)
def pS(a:gL)(c:mU):Int:=if a=true then -((digitsVal<|c.getD 0 []:Nat):Int)else((digitsVal<|c.getD 0 []:Nat):Int)
def nu(a:mU):Int:=if a.length=2 then((digitsVal<|a.getD 1 []:Nat):Int)else 1
def rV(a:mU):gL:=decide (a.length<=2)&&a.all (kz · 60)
noncomputable def n6(a:hZ):gH (Int×Int):=
 if rV (gO 47<|jL a)=true then
  if nu (gO 47<|jL a)=0 then none else
  if iw (FM.top (pS (ko a)<|gO 47<|jL a)<|nu<|gO 47<|jL a) (FM.bot (pS (ko a)<|gO 47<|jL a)<|nu<|gO 47<|jL a)=a then
   some (FM.top (pS (ko a)<|gO 47<|jL a)<|nu<|gO 47<|jL a,FM.bot (pS (ko a)<|gO 47<|jL a)<|nu<|gO 47<|jL a)
  else none
 else none
structure Ok(t b:Int):Prop where
 low:FM.sG t b
 ht:t.natAbs<10^60
 hb:b.natAbs<10^60
def LX{t b:Int}(L:FM.sG t b):FM.top t b=t/\FM.bot t b=b:=by have:=FM.scaled (k:=1) L (by decide);simp_all
def KS(m):(num m).head?≠some 45:=λz=>Mx (m:=m) (c:=45) (.inl<|by decide) (List.mem_of_mem_head? z)
def aab{t b:Int}(O:Ok t b):ko (iw t b)=decide (t<0)/\gO 47 (jL<|iw t b)=if b=1 then[num t.natAbs]else[num t.natAbs,num b.natAbs]:=by
 have a:∀m,47∉num m:=λm=>Mx (.inl<|by decide);have h:∀r,(num t.natAbs++r).head?≠some 45:=λr z=>by
  cases e:num t.natAbs with
  |nil=>exact tu _ e
  |cons c l=>rw[e]at z;have:=KS t.natAbs;rw[e]at this;exact this z
 by_cases d:t<0
 ·have f:ko (iw t b)=true:=by
   unfold ko iw i4;rw[af d];split<;>rfl
  refine⟨by rw[f];simp[d],?_⟩;unfold jL;rw[af f];unfold iw i4;rw[af d];split;·exact tK (a _)
  ·show gO 47 (num t.natAbs++47::num b.natAbs)=_;rw[AH<|a _,tK<|a _]
 ·have f:ko (iw t b)=false:=by
   unfold ko iw i4;rw[ao d];split;·exact az (KS _)
   ·exact az (h _)
  refine⟨by rw[f];simp[d],?_⟩;unfold jL;rw[ao<|by rw[f];simp];unfold iw i4;rw[ao d];split;·exact tK (a _)
  ·rw[AH<|a _,tK<|a _]
def acA{t b:Int}(O:Ok t b):n6 (iw t b)=some (t,b):=by
 obtain⟨f,a⟩:=aab O;have j:=O.low.pos;have lt:(num t.natAbs).length<=60:=nZ (k:=59) O.ht;have d:(num b.natAbs).length<=60:=nZ (k:=59) O.hb;have ok:rV (gO 47<|jL<|iw t b)=true:=by rw[a];unfold rV;split<;>simp[E2 lt,E2 d]
 have c:pS (ko<|iw t b) (gO 47<|jL<|iw t b)=t:=by
  rw[f,a];unfold pS;have e:digitsVal ((if b=1 then[num t.natAbs]else[num t.natAbs,num b.natAbs]).getD 0 [])=t.natAbs:=by split<;>exact u9 _
  grind
 have i:nu (gO 47<|jL<|iw t b)=b:=by
  rw[a];unfold nu;by_cases h:b=1;·rw[af h,ao<|by simp,h]
  ·rw[ao h,af<|show[num t.natAbs,num b.natAbs].length=2 from rfl];show((digitsVal<|num b.natAbs:Nat):Int)=b;rw[u9];grind
 unfold n6;rw[af ok,c,i,ao<|by lia,(LX O.low).1,(LX O.low).2,af rfl]
def aeH(t:Int){b:Int}(c:b≠0):(FM.top t b).natAbs<=t.natAbs/\(FM.bot t b).natAbs<=b.natAbs:=by
 obtain⟨f,d⟩:=FM.split (t:=t) c;have j:=FM.sS (t:=t) c;have a:1<=(FM.dv t b).natAbs:=by omega
 have i:t.natAbs=(FM.dv t b).natAbs*(FM.top t b).natAbs:=by rw[<-fW,<-f]
 have h:b.natAbs=(FM.dv t b).natAbs*(FM.bot t b).natAbs:=by rw[<-fW,<-d]
 rw[i,h];exact⟨fM _ a,fM _ a⟩
def OS(h:kz cs 60=true):digitsVal cs<10^60:=by obtain⟨c,a⟩:=E1 h;exact ak (OU _ (C6 a).1) (eD (by decide) c)
def vC(c):∀l,gO c l≠[]
 |[]=>by simp[gO]
 |x::r=>by
  show(if x=c then[]::gO c r else match gO c r with|p::a=>(x::p)::a|[]=>[[x]])≠[];split;·simp
  ·split<;>simp
def aeB(h:rV (gO 47<|jL cs)=true):(pS (ko cs)<|gO 47<|jL cs).natAbs<10^60/\(nu<|gO 47<|jL cs).natAbs<10^60/\0<=nu (gO 47<|jL cs):=by
 generalize d:gO 47 (jL cs)=ps at h;have c:ps≠[]:=d▸vC 47 _;unfold rV at h;simp only[aq,aA,aZ]at h;obtain⟨k,a⟩:=h;cases ps with
 |nil=>exact absurd rfl c
 |cons p r=>
  have j:=OS (a p<|by simp);refine⟨?_,?_⟩
  ·unfold pS
   grind
  ·unfold nu;split
   ·rename_i f;cases r with
    |nil=>simp at f
    |cons q r=>have i:=OS (a q<|by simp);simp_all
   ·exact⟨by decide,by decide⟩
end T2
namespace T4
open PySem PySem.NumText TM
def AG(t:Nat):gi Nat:=num (t/1440)++32::(two (t%1440/60)++58::two (t%1440%60))
def dg(c:Nat):gL:=decide (48<=c)&&decide (c<=57)
def WJ(h:t<=1000000000):(AG t).length<=12/\(AG t).length=(num<|t/1440).length+6:=by have:(num<|t/1440).length<=5+1:=nZ (by lia);unfold AG two;simp;omega
end T4
namespace TR
open PySem PySem.NumText TM T2
noncomputable def xa:gi (gi Nat):=[[109,97,114,107],[102,105,108,108],[104,101,114,101],[98,97,99,107],[111,110],[97,116],[97,103,111],[117,110,116,105,108],[97,98,115],[97,110,100],[111,114],[110,111,116]]
def qo(c:Nat):gL:=decide (97<=c)&&decide (c<=122)
noncomputable def ki(m:hZ):gL:=decide (m≠[])&&decide (m.length<=8)&&m.all qo&&!decide (m∈xa)
structure Ok(m:hZ)(t u:Nat)(n:Int):Prop where
 m:ki m=true
 t:t<=1000000000
 u:u<=1000000000
 n:n.natAbs<10^60
def G0(h:ki m=true):m≠[]/\m.length<=8/\(∀c∈m,97<=c/\c<=122)/\m∉xa:=by unfold ki at h;simp only[aq,aA,bW,cY,aZ]at h;refine⟨h.1.1.1,h.1.1.2,λc a=>?_,h.2⟩;have:=h.1.2 c a;unfold qo at this;simpa using this
end TR
set_option exponentiation.threshold 500
namespace P2
open PySem L2
def abS:pP i f ρ=toS (f ρ) λa=>if i<ρ.length then .nx (ρ.set i<|.ow a)else .bad:=rfl
def abT{fs}:acW i j fs ρ=toS (fs ρ) λa=>match a with
 |[d1,d2]=>if i<ρ.length/\j<ρ.length then .nx ((ρ.set i<|.sh d1).set j (.sh d2))else .bad
 |_=>.bad:=rfl
def abm:n7 3 f (s0::s1::s2::.ow ds::r)=toS (f<|s0::s1::s2::.ow ds::r) λd=>if ds.length<sizeLine then .nx (s0::s1::s2::.ow (ds++[d])::r)else .bad:=rfl
end P2
set_option hygiene false in
local macro_rules|`(tactic|walk_at "d")=>do let l:="P2.gM,P2.vn,P2.lN,P2.ab3,P2.Ny,P2.FH,P2.abV,P2.ab4,P2.xM,P2.abu,P2.Nw,P2.abU,P2.abR,P2.FG,P2.Nx,P2.pO,P2.lM,P2.vo,P2.oF,P2.tG,P2.Nk,P2.FA,P2.Av,P2.Nl,P2.abp,P2.Nn,P2.Nm,P2.mK,P2.kF,P2.jZ,P2.Fz,P2.r4,P2.abr,P2.Aw,P2.FF,P2.abT,P2.ab2,P2.abz,P2.q4,P2.NB,P2.As,P2.ab1,P2.abt,P2.r6,P2.Ay,P2.xN,P2.abA,P2.abP,P2.FC,P2.xK,P2.Nv,P2.FE,P2.Nr,P2.xO,P2.Nu,P2.abH,P2.abQ,P2.abK,P2.vp,P2.abi,P2.abL,P2.abB,P2.Nj,P2.NA,P2.acb,P2.Nq,P2.abw,P2.abl,P2.xP,P2.abn,P2.abo,P2.aby,P2.abJ,P2.abI,P2.abD,P2.abC,P2.abE,P2.abW,P2.abX,P2.abF,P2.abG,P2.oG,P2.o6,P2.vq,P2.tH,P2.ab5,P2.ab6,P2.ab7,P2.ab8,P2.ab9,P2.aca,P2.gJ,aF,c8,ag,bj,Nat.sub_self,Nat.reduceAdd,Nat.reduceSub,List.replicate_zero,eK,aP,bq,cu,List.set_cons_zero,List.set_cons_succ,b8,cL,Nat.reduceLT,Nat.zero_lt_succ,fA,eX,Bool.false_eq_true,bD,bz,Int.reduceLT,Int.reduceEq,Int.reduceNeg,Int.reduceSub,Int.reduceAdd".splitOn ","|>.toArray.map fun x=>Lean.mkIdent x.toName;`(tactic|try simp(disch:=first|assumption|decide|exact bP rfl)only[$[$l:ident],*])
namespace WP
open PySem L2 P2 TM T2 PySem.NumText
def RQ(c):Txt.contains (Str.ofString "0123456789") ⟨#[c]⟩=dg c:=by
 rw[Ec];have e:gj (Str.ofString "0123456789")=[48,49,50,51,52,53,54,55,56,57]:=by decide
 rw[e];exact TM.ER (by decide+kernel) (by decide+kernel) (λc h=>by rw[cT];unfold dg;simp only[ne_eq,aq,aA];lia) c
def zf(z):(z=Str.ofString "")↔gj z=[]:=by
 constructor;·rintro rfl;decide
 ·intro h;exact ext (by rw[h];decide)
variable{a:Ad}
def Xo(z:gp)(i:z.length<=1000000):gB (Dj a<|gJ 1 [.str z])=.ok (.bl<|qh<|gj z):=by
 have l:kR (gV 0) (λ_=>.ok true) (d2 nB (dV 0)<|gs "0123456789") (lD 1 [] [iW z]) (signs z)=some ((gj z).map λc=>.bl<|dg c):=by
  have:=rJ (a:=gV 0) (c:=λ_=>.ok true) (e:=d2 nB (dV 0) (gs "0123456789")) (mR:=lD 1 [] [iW z]) (λd=>[.sh d]) (λd=>match d with|.str y=>.bl (Txt.contains "0123456789" y)|_=>.non) (signs z) λd k=>by obtain⟨c,_,rfl⟩:=bJ.mp k;exact⟨rfl,rfl,rfl⟩
  rw[this];unfold signs;rw[bu]
  congr 1
  refine dI λc _=>?_;show D.bl (Txt.contains "0123456789" ⟨#[c]⟩)=_;rw[RQ]
 have j:(signs z).length<=sizeLine:=by unfold signs;rw[ae];exact size_of (show(gj z).length<=_ by rw[<-la];exact i)
 unfold Dj;walk_at "d"
 simp only[j,b8,l,Nw,gM,Nj,yY];unfold qh;by_cases f:z=Str.ofString ""
 ·have h:=(zf z).mp f;rw[h];simp[f,lN,xM]
 ·have h:gj z≠[]:=λw=>f ((zf z).mpr w);simp[f,h,lN,xM,gb];try rfl
def Xb{F:gw}(l:∀z:gp,z.length<=1000000->F [.str z]=.ok (.bl<|qh<|gj z))(z:gp)(k:Nat)(d:z.length<=1000000):gB (Dg a F<|gJ 2 [.str z,.int k])=.ok (.bl<|kz (gj z) k):=by
 unfold Dg;have j:=size_of d;walk_at "d"
 simp only[j,l z d,b8,Ol,gM,xN,q4,NB];have n:decide (z=Str.ofString "0")=decide (gj z=[48]):=by rw[bx];simp only[aA];exact⟨λh=>by rw[h];decide,λh=>ext<|by rw[h];decide⟩
 unfold kz;have o:z.length=(gj z).length:=la z;by_cases i:(k:Int)<z.length
 ·have c:¬(gj z).length<=k:=by simp_all
  simp[i,c,lN,FH,xM]
 ·have c:(gj z).length<=k:=by simp_all
  cases m:qh (gj z)<;>by_cases f:gj z=[48]<;>simp[i,c,m,f,n,lN,FH,Ny,xM,FG,abq,oF,oG,lM,gM,xK,q4,Nn,r4,Nq,jZ,kF,NA,Ol];rw[f]at c;exact c
def gm(c:hZ):gp:=⟨c.toArray⟩
def lL(cs):gj (gm cs)=cs:=rfl
def mq(z):gm (gj z)=z:=ext (lL _)
def rO(cs):(gm cs).length=cs.length:=by rw[la,lL]
def XF(i:Int):gB (Ks a<|gJ 1 [.int i])=.ok (.bl true):=by rfl
theorem O2:∀(n:Nat) (x y:Int) (s2:Sl),0<=x->0<=y->y<n->
 ∃s,pV (b1 tB<|d2 ky (dV 1)<|gq 0) (B8 a) n [il x,il y,s2]=.nx [il<|FM.g x y,il 0,s]
 |0,x,y,s2,c,f,h=>by lia
 |n+1,x,y,s2,c,f,h=>by
  rw[NC];by_cases z:y=0
  ·subst z;refine⟨s2,?_⟩;walk_at "d"
   rw[FM.Ku c]
  ·have d:0<y:=by lia
   have i:=cM x d;obtain⟨s,e⟩:=O2 n y (x%y) (il<|x%y) f (c9 x z) (by lia);refine⟨s,?_⟩;unfold B8;iterate 4 (walk_at "d";try simp only[z,r6 d])
   rw[<-FM.Kt c d];exact e
def W9(x y:Int)(d:0<=x)(c:0<=y)(h:y.natAbs<10^400):gB (De a<|gJ 3 [.int x,.int y])=.ok (.int<|FM.g x y):=by
 obtain⟨s,e⟩:=O2 (a:=a) wC x y .no d c (by lia);unfold De;walk_at "d"
 rw[e];walk_at "d"
def ze{t b:Int}(c:b≠0)(h:b.natAbs<10^400):(FM.dv t b).natAbs<10^400:=by have:=FM.SM (t:=t) (b:=b) c;walk_at "l"
abbrev fr(t b:Int):D:=.tup [.int<|FM.top t b,.int<|FM.bot t b]
def W7{j Fg:gw}(f:∀i:Int,j [.int i]=.ok (.bl true))(k:∀x y:Int,0<=x->0<=y->y.natAbs<10^400->Fg [.int x,.int y]=.ok (.int<|FM.g x y))(t b:Int)(c:b≠0)(h:b.natAbs<10^400):
    gB (Df a j Fg<|gJ 3 [.int t,.int b])=.ok (fr t b):=by
 have d:=k (if t<0 then -t else t) (if b<0 then -b else b) (by split<;>lia) (by split<;>grind) (by split<;>simp_all);rw[FM.T9 t b]at d;have d1:=Ax (i:=t) (FM.sS (t:=t) (b:=b) c) (ze c h);have d2:=Ax (i:=b) (FM.sS (t:=t) (b:=b) c) (ze c h);unfold Df;by_cases b1:b<0
 ·have e:FM.dv t b= -(FM.g t b):=by unfold FM.dv;rw[af b1]
  rw[af b1]at d;rw[e]at d1 d2;iterate 8 (walk_at "d";try simp only[f,c,b1,d,d1,d2,bz,bD])
  unfold fr FM.top FM.bot;rw[e]
 ·have e:FM.dv t b=FM.g t b:=by unfold FM.dv;rw[ao b1]
  rw[ao b1]at d;rw[e]at d1 d2;iterate 8 (walk_at "d";try simp only[f,c,b1,d,d1,d2,bz,bD])
  unfold fr FM.top FM.bot;rw[e]
def WI{t:Int}(h:t.natAbs<10^400):(i4 t).length<=402:=by
 have:=nZ (k:=399) (m:=t.natAbs) h;unfold i4;split;·rw[ag];walk_at "l"
 ·walk_at "l"
def len_str{t:Int}(h:t.natAbs<10^400):(Str.ofString<|toString t).length<=402:=by rw[la,y7];exact WI h
def EN(t b:Int)(F:0<b)(f:t.natAbs<10^400)(l:b.natAbs<10^400):gB (zo a<|gJ 3 [.tup [.int t,.int b]])=.ok (.str<|gm<|iw t b):=by
 have k:L2.hI [D.int t,D.int b] 0=some (.int t):=rfl;have j:L2.hI [D.int t,D.int b] 1=some (.int b):=rfl;have o:=FJ f;have f1:=FD f;have p:=FD l;have v:=len_str f;have r:=len_str l;have m:=y7 t;have q:=y7 b;generalize C:Str.ofString (toString t)=x at*;generalize z:Str.ofString (toString b)=y at*;have d:gj Str.empty=[]:=rfl;have i:gj (Str.ofString "/")=[47]:=by decide
 have z1:(Str.empty++x).length<=sizeLine:=size_of (by rw[la,mV,d,bq,<-la];walk_at "l");have z2:(Str.empty++x++Str.ofString "/").length<=sizeLine:=size_of (by rw[la,mV,mV,d,i,bq,aa,<-la,bH];walk_at "l");have n:(Str.empty++x++Str.ofString "/"++y).length<=sizeLine:=size_of (by rw[la,mV,mV,mV,d,i,bq,aa,aa,<-la,<-la,bH];lia);unfold zo;by_cases c:b=1
 ·have h:x=gm (iw t b):=ext (by rw[lL,m];unfold iw;rw[af c]);subst c;rw[<-h];iterate 6 (walk_at "d";try simp only[k,j,o,bD])
 ·have h:Str.empty++x++Str.ofString "/"++y=gm (iw t b):=ext (by
   rw[lL];simp only[mV,d,i,m,q];unfold iw;rw[ao c];have:i4 b=num b.natAbs:=by unfold i4;rw[ao<|by lia]
   rw[this];simp)
  iterate 8 (walk_at "d";try simp only[k,j,c,f1,p,af z1,af z2,af n,bz])
  rw[<-h]
variable{a:Ad}
def adA(x):Txt.startswith x (Str.ofString "-")=ko (gj x):=by
 obtain⟨⟨l⟩⟩:=x;unfold Txt.startswith Builtin.Str.subAt ko;cases l with
 |nil=>rfl
 |cons c r=>
  have f:(Str.ofString "-").length=1:=by decide
  have d:(Str.ofString "-").cps=#[45]:=by decide
  rw[f,d];show(decide (0+1<=(c::r).length)&&((c::r).toArray.extract 0 (0+1)==#[45]))=_;have:((c::r).toArray.extract 0 (0+1))=#[c]:=by simp
  rw[this,bx];simp[gj]
def QT(z):gj (Txt.slice z (some 1) none)=(gj z).drop 1:=by
 rw[QU];have d:sx (gj z).length 0 (some 1)=min 1 (gj z).length:=rfl;have c:sx (gj z).length (gj z).length none=(gj z).length:=rfl;rw[d,c];by_cases h:1<=(gj z).length
 ·rw[eH h];exact bY (by rw[dF];simp)
 ·have:gj z=[]:=d6.mp (by simp_all);rw[this];rfl
def AQ(a:Ad)(d f c:gw):g0:=
    (gy (iA (lB (b1 tB (d2 jX (dA ih (gh (dV 2) gk)) (gq 2))) (mF (b1 tT (dA rH (gh (je (kS (λρ=>((dV 2) ρ).bind mi) 1 [] (gV 0) (λ_=>.ok true) (dA d (gh (dV 0) (gh (gq 60) gk))))) gk))))) (λρ=>toS ((gh (gq 1) gk) ρ) λh=>.ex a.NoText ["row"] h) iC)
    (gy (gS 3 (nR (b1 tT (dV 1)) (d1 u6 (dA intD (gh (i6 2 0) gk))) (dA intD (gh (i6 2 0) gk))))
    (gy (gS 4 (nR (b1 tB (d2 gW (dA ih (gh (dV 2) gk)) (gq 2))) (dA intD (gh (i6 2 1) gk)) (gq 1)))
    (gy (iA (b1 tB (d2 gW (dV 4) (gq 0))) (λρ=>toS ((gh (gq 1) gk) ρ) λh=>.ex a.NoText ["row"] h) iC)
    (gy (gS 5 (dA f (gh (dV 3) (gh (dV 4) gk))))
    (gy (iA (b1 tB (d2 ky (dA c (gh (dV 5) gk)) (dV 0))) (λρ=>toS ((gh (gq 1) gk) ρ) λh=>.ex a.NoText ["row"] h) iC)
    (g9 (dV 5))))))))
def acB:D0 a Py Px Pz=gy (gS 1<|jW "str" vE (dV 0)<|gh (gs "-") gk)
    (gy (gS 2 (nR (b1 tT (dV 1)) (jW "str" oH (ot nH (dV 0) (λρ=>((gq 1) ρ).bind pI) (λ_=>.ok none)) (gh (gs "/") gk)) (jW "str" oH (dV 0) (gh (gs "/") gk))))
    (AQ a Py Px Pz)):=rfl
noncomputable def outF(a:Ad)(o:gH<|Int×Int):R D:=match o with
 |some (t,b)=>.ok (.tup [.int t,.int b])
 |none=>.ex a.NoText ["row"] [.int 1]
def Lj(h:kz (gj p) 60=true):PySem.intText? p=some ((digitsVal<|gj p:Nat):Int)/\p.length<=640:=by
 obtain⟨j,i⟩:=E1 h;obtain⟨f,d⟩:=C6 i;have c:p.length<=640:=by rw[la];walk_at "l"
 exact⟨intText_of f d c,c⟩
section
variable{f m i:gw}(v:∀(z:gp) (k:Nat),z.length<=1000000->f [.str z,.int k]=.ok (.bl<|kz (gj z) k))
 (hf:∀t b:Int,b≠0->b.natAbs<10^400->m [.int t,.int b]=.ok (.tup [.int<|FM.top t b,.int<|FM.bot t b]))
 (s:∀t b:Int,0<b->t.natAbs<10^400->b.natAbs<10^400->i [.tup [.int t,.int b]]=.ok (.str<|gm<|iw t b))
include v hf s
theorem XE(z:gp)(n:iH)(hz:z.length<=1000000)(hl:∀p∈n,p.length<=1000000)(Z:n.length<=1000002)(M:n.map gj=gO 47 (jL<|gj z)):
 gB (AQ a f m i [iW z,.sh<|.bl<|ko<|gj z,iD<|n.map D.str,.no,.no,.no])=outF a (n6<|gj z):=by
 have o:kR (gV 0) (λ_=>.ok true) (dA f<|gh (dV 0)<|gh (gq 60) gk) (lD 1 [] [iW z,.sh<|.bl<|ko<|gj z,iD<|n.map D.str,.no,.no,.no]) (n.map D.str)=some (n.map λp=>.bl<|kz (gj p) 60):=by
  have:=rJ (a:=gV 0) (c:=λ_=>.ok true) (e:=dA f (gh (dV 0) (gh (gq 60) gk))) (mR:=lD 1 [] [iW z,.sh (.bl (ko (gj z))),iD (n.map D.str),.no,.no,.no]) (λd=>[.sh d]) (λd=>match d with|.str y=>.bl (kz (gj y) 60)|_=>.non) (n.map D.str) λd hd=>by obtain⟨p,M,rfl⟩:=bJ.mp hd;exact⟨rfl,rfl,v p 60<|hl p M⟩
  rw[this,bu];rfl
 have O:(n.map D.str).length<=sizeLine:=by rw[ae];exact av Z (by decide)
 have J:oS (n.map λp=>D.bl<|kz (gj p) 60)=some (n.map λp=>kz (gj p) 60):=yY _ n;have I:rV (gO 47<|jL<|gj z)=(decide (n.length<=2)&&(n.map λp=>kz (gj p) 60).all id):=by
  rw[<-M];unfold rV;rw[ae]
  congr 1
  simp[gb,Function.comp_def]
 have G:(decide<|(2:Int)<((n.map D.str).length:Nat))=!decide (n.length<=2):=by
  rw[ae,bx];simp only[aA,bW,cY]
  lia
 unfold AQ;cases ok:rV (gO 47<|jL<|gj z)with
 |false=>
  have er:n6 (gj z)=none:=by unfold n6;rw[ao<|by rw[ok];simp]
  rw[er];rw[ok]at I;iterate 3 (walk_at "d";try simp only[G,af O,o,J])
  by_cases V:n.length<=2
  ·have L:(n.map λp=>kz (gj p) 60).all id=false:=by simpa [V]using I.symm
   iterate 4 (walk_at "d";try simp only[V,L])
   rfl
  ·iterate 4 (walk_at "d";try simp only[V])
   rfl
 |true=>
  rw[ok]at I;have V:n.length<=2:=by
   by_cases h:n.length<=2;·exact h
   ·simp[h]at I
  have L:(n.map λp=>kz (gj p) 60).all id=true:=by simpa [V]using I.symm
  have ne:n≠[]:=λw=>by rw[w]at M;exact vC 47 _ M.symm
  obtain⟨v1,v2,v3⟩:=aeB ok;have er:∀T B,pS (ko<|gj z) (gO 47<|jL<|gj z)=T->nu (gO 47<|jL<|gj z)=B->n6 (gj z)=if B=0 then none else if iw (FM.top T B) (FM.bot T B)=gj z then some (FM.top T B,FM.bot T B)else none:=by intro T B U N;unfold n6;rw[af ok,U,N]
  have fin:∀(T B:Int) (ρ:Ev),pS (ko<|gj z) (gO 47<|jL<|gj z)=T->nu (gO 47<|jL<|gj z)=B->∀s1 s2,
   gB ((gy (iA (b1 tB (d2 gW (dV 4) (gq 0))) (λρ=>toS ((gh (gq 1) gk) ρ) λds=>.ex a.NoText ["row"] ds) iC)
  (gy (gS 5 (dA m (gh (dV 3) (gh (dV 4) gk))))
  (gy (iA (b1 tB (d2 ky (dA i (gh (dV 5) gk)) (dV 0))) (λρ=>toS ((gh (gq 1) gk) ρ) λds=>.ex a.NoText ["row"] ds) iC)
  (g9 (dV 5))))) [iW z,s1,s2,il T,il B,.no])=outF a (n6 (gj z)):=by
    intro T B ρ U N s1 s2;rw[U]at v1;rw[N]at v2 v3;rw[er T B U N];by_cases R:B=0
    ·subst R;iterate 4 (walk_at "d")
     rfl
    ·have hB0:0<B:=by omega
     have f1:=hf T B R (by omega);obtain⟨l1,l2⟩:=aeH T R;have low:=FM.EI (t:=T) R;have g1:=s (FM.top T B) (FM.bot T B) low.pos (by omega) (by omega);rw[ao R];by_cases e:iw (FM.top T B) (FM.bot T B)=gj z
     ·have ez:gm (iw (FM.top T B)<|FM.bot T B)=z:=by rw[e];exact mq z
      rw[af e];rw[ez]at g1;iterate 8 (walk_at "d";try simp only[R,f1,g1,bD,bz])
      rfl
     ·have ez:gm (iw (FM.top T B)<|FM.bot T B)≠z:=λw=>e (by rw[<-w];rfl);rw[ao e];iterate 8 (walk_at "d";try simp only[R,f1,g1,ez,bD,bz])
      rfl
  obtain⟨p,r,C⟩:=List.exists_cons_of_ne_nil ne;have np:kz (gj p) 60=true:=by rw[C]at L;simp only[aF,fY,aq]at L;exact L.1
  obtain⟨ip,jp⟩:=Lj np;have i0:L2.hI (n.map D.str) 0=some (.str p):=by rw[C];exact ud (j:=0) rfl
  have U:pS (ko<|gj z) (gO 47<|jL<|gj z)=if ko (gj z)=true then -((digitsVal<|gj p:Nat):Int)else((digitsVal<|gj p:Nat):Int):=by rw[<-M,C];rfl
  have n2:¬(!decide (n.length<=2))=true:=by simp[V]
  by_cases Y:n.length=2
  ·obtain⟨q,hr⟩:∃q,r=[q]:=by
    cases r with
    |nil=>rw[C]at Y;simp at Y
    |cons q l=>cases l with
     |nil=>exact⟨q,rfl⟩
     |cons _ _=>rw[C]at Y;simp at Y
   subst hr;have nq:kz (gj q) 60=true:=by rw[C]at L;simp only[aF,fY,aq]at L;exact L.2.1
   obtain⟨iq,jq⟩:=Lj nq;have i1:L2.hI (n.map D.str) 1=some (.str q):=by rw[C];exact ud (j:=1) rfl
   have N:nu (gO 47<|jL<|gj z)=((digitsVal<|gj q:Nat):Int):=by rw[<-M,C];rfl
   have P:(((n.map D.str).length:Nat):Int)=2:=by rw[ae];omega
   have F:=fin _ _ [] U N (.sh<|.bl<|ko<|gj z) (iD<|n.map D.str);rw[<-F];cases hN:ko (gj z)with
   |_=>
    rw[hN]at o;iterate 10 (walk_at "d";try simp only[G,af O,o,J,L,ip,iq,af jp,af jq,i0,i1,n2,P])
    try rfl
  ·have N:nu (gO 47<|jL<|gj z)=1:=by
    unfold nu;rw[<-M,ae,ao Y]
   have P:¬(((n.map D.str).length:Nat):Int)=2:=by rw[ae];omega
   have F:=fin _ _ [] U N (.sh<|.bl<|ko<|gj z) (iD<|n.map D.str);rw[<-F];cases hN:ko (gj z)with
   |_=>
    rw[hN]at o;iterate 10 (walk_at "d";try simp only[G,af O,o,J,L,ip,af jp,i0,n2,P])
    try rfl
end
section
variable{i j h:gw}(f:∀(z:gp) (k:Nat),z.length<=1000000->i [.str z,.int k]=.ok (.bl<|kz (gj z) k))
 (hf:∀t b:Int,b≠0->b.natAbs<10^400->j [.int t,.int b]=.ok (.tup [.int<|FM.top t b,.int<|FM.bot t b]))
 (c:∀t b:Int,0<b->t.natAbs<10^400->b.natAbs<10^400->h [.tup [.int t,.int b]]=.ok (.str<|gm<|iw t b))
include f hf c
theorem Nz{z:gp}(d:z.length<=1000):oH (.str z) [.str "/"]=.ok (.lst<|(Txt.split z ⟨#[47]⟩).map D.str):=by show(if((Str.ofString "/").length==0)=false/\z.length+2<=sizeLine then R.ok (D.lst<|(Txt.split z<|Str.ofString "/").map D.str)else .bad)=_;rw[af ⟨by decide,size_of<|by lia⟩];rfl
theorem Xq(z:gp)(l:z.length<=1000):gB (D0 a i j h<|gJ 6 [.str z])=outF a (n6<|gj z):=by
 have sz:z.length<=sizeLine:=size_of (by walk_at "l");rw[acB]
 have n:∀x:gp,x.length<=1000->gj x=jL (gj z)->gB (AQ a i j h [iW z,.sh<|.bl<|ko<|gj z,iD<|(Txt.split x ⟨#[47]⟩).map D.str,.no,.no,.no])=outF a (n6<|gj z):=λx q e=>XE f hf c z _ (by lia) (λp o=>av (PyProof.Rows.part_short o)<|by walk_at "l") (av (PyProof.Rows.split_le x _)<|by lia) (by rw[F8,e])
 have st:=adA z;cases hN:ko (gj z)with
 |true=>
  have m:(Txt.slice z (some 1) none).length<=1000:=av (eN z _ _) l;have G:=n (Txt.slice z (some 1) none) m (by rw[QT];unfold jL;rw[af hN]);have d:=Nz f hf c m;rw[hN]at st G;iterate 5 (walk_at "d";try simp only[st,af sz,d])
  exact G
 |false=>
  have G:=n z l (by unfold jL;rw[ao<|by rw[hN];simp]);have d:=Nz f hf c l;rw[hN]at st G;iterate 5 (walk_at "d";try simp only[st,af sz,d])
  exact G
end
open T4 (AG WJ)
variable{a:Ad}
variable{a:Ad}
def WY(c):Txt.contains (Str.ofString "abcdefghijklmnopqrstuvwxyz") ⟨#[c]⟩=TR.qo c:=by
 rw[Ec];have e:gj (Str.ofString "abcdefghijklmnopqrstuvwxyz")=[97,98,99,100,101,102,103,104,105,106,107,108,109,110,111,112,113,114,115,116,117,118,119,120,121,122]:=by decide
 rw[e];exact TM.ER (by decide+kernel) (by decide+kernel) (λc h=>by rw[cT];unfold TR.qo;simp only[ne_eq,aq,aA];lia) c
theorem Nh:∀c:gi gp,n4 (c.map D.str)=some (c.map PyData.str)
 |[]=>rfl
 |k::c=>by show((vm<|.str k).bind λp=>(n4<|c.map D.str).map (p:: ·))=_;rw[Nh c];rfl
theorem xf:∀c:gi gp,(∀k∈c,PyData.strOk k=true)->PyData.canLayAll0 (c.map PyData.str)=true
 |[],_=>rfl
 |k::c,h=>by show(PyData.canLay0 (.str k)&&PyData.canLayAll0 (c.map PyData.str))=true;rw[xf c λx d=>h x<|aQ _ d,Bool.and_true];exact h k (bf ..)
theorem wy(z):∀c:gi gp,((c.map PyData.str).any λy=>PyData.eqv y<|.str z)=decide (z∈c)
 |[]=>by simp
 |k::c=>by
  rw[aF,bF,wy z c,bx];have e:PyData.eqv (.str k) (.str z)=(k==z):=by simp[PyData.eqv]
  rw[e];simp only[ba,bK,aA,aT];exact⟨λh=>h.imp Eq.symm id,λh=>h.imp Eq.symm id⟩
def zH{z:gp}{c:iH}(f:PyData.strOk z=true)(h:∀k∈c,PyData.strOk k=true):mm (.str z) (c.map D.str)=some (decide<|z∈c):=by show((some<|PyData.str z).bind λp=>(n4<|c.map D.str).bind λd=>if(PyData.canLayAll0 d&&PyData.canLay0 p&&decide (p.depth<=63))=true then some (d.any λy=>PyData.eqv y p)else none)=_;rw[Nh,dH,dH,xf c h,wy,af];show(true&&PyData.strOk z&&decide (PyData.depth (.str z)<=63))=true;rw[f];rfl
noncomputable def uY:gi gp:=[Str.ofString "mark",Str.ofString "fill",Str.ofString "here",Str.ofString "back",Str.ofString "on",Str.ofString "at",Str.ofString "ago",Str.ofString "until",Str.ofString "abs",Str.ofString "and",Str.ofString "or",Str.ofString "not"]
def Wy:uY.map gj=TR.xa:=by decide
def Lz(z):(z∈uY)↔gj z∈TR.xa:=by rw[<-Wy,bJ];exact⟨λh=>⟨z,h,rfl⟩,λ⟨y,h,e⟩=>by rw[<-ext e];exact h⟩
def Xc(z:gp)(C:z.length<=1000000):gB (Dh a<|gJ 1 [.str z])=.ok (.bl<|TR.ki<|gj z):=by
 have q:=size_of C;have n:kR (gV 0) (λ_=>.ok true) (d2 nB (dV 0)<|gs "abcdefghijklmnopqrstuvwxyz") (lD 1 [] [iW z]) (signs z)=some ((gj z).map λc=>.bl<|TR.qo c):=by
  have:=rJ (a:=gV 0) (c:=λ_=>.ok true) (e:=d2 nB (dV 0) (gs "abcdefghijklmnopqrstuvwxyz")) (mR:=lD 1 [] [iW z]) (λd=>[.sh d]) (λd=>match d with|.str y=>.bl (Txt.contains "abcdefghijklmnopqrstuvwxyz" y)|_=>.non) (signs z) λd J=>by obtain⟨c,_,rfl⟩:=bJ.mp J;exact⟨rfl,rfl,rfl⟩
  rw[this];unfold signs;rw[bu]
  congr 1
  refine dI λc _=>?_;show D.bl (Txt.contains "abcdefghijklmnopqrstuvwxyz" ⟨#[c]⟩)=_;rw[WY]
 have F:(signs z).length<=sizeLine:=by unfold signs;rw[ae];exact size_of (show(gj z).length<=_ by rw[<-la];exact C)
 have N:=la z;have G:=yY TR.qo (gj z);have j:(((gj z).map TR.qo).all id)=(gj z).all TR.qo:=by rw[gb];rfl
 unfold Dh TR.ki;by_cases i:z=Str.ofString ""
 ·have h:=(zf z).mp i;iterate 5 (walk_at "d";try simp only[i,h,bD])
  have L:gj (Str.ofString "")=[]:=by decide
  simp[L]
 ·have h:gj z≠[]:=λw=>i ((zf z).mpr w);by_cases M:z.length<=8
  ·have m:¬((8:Int)<((z.length:Nat):Int)):=by lia
   have f:(gj z).length<=8:=by walk_at "l"
   cases v:(gj z).all TR.qo with
   |false=>
    iterate 9 (walk_at "d";try simp only[i,h,af q,m,af F,n,G,j,v,bz])
    simp
   |true=>
    have ok:PyData.strOk z=true:=by
     unfold PyData.strOk;rw[<-Array.all_toList];refine aZ.mpr λc n=>?_;have:=aZ.mp v c n;unfold TR.qo at this;simp only[aq,aA]at this⊢
     lia
    have p:∀k∈uY,PyData.strOk k=true:=by decide+kernel
    have I:=zH ok p;have o:tq (.str z) (.tup [(.str "mark"),(.str "fill"),(.str "here"),(.str "back"),(.str "on"),(.str "at"),(.str "ago"),(.str "until"),(.str "abs"),(.str "and"),(.str "or"),(.str "not")])=.ok (.bl<|!decide (z∈uY)):=by show(match mm (.str z) (uY.map D.str)with|some b=>R.ok (D.bl<|!b)|none=>.bad)=_;rw[I]
    iterate 9 (walk_at "d";try simp only[i,h,af q,m,af F,n,G,j,v,o,bz])
    by_cases l:z∈uY;·simp[l,(Lz z).mp l]
    ·have r:¬gj z∈TR.xa:=λw=>l ((Lz z).mpr w);simp[l,r,f,h]
  ·have m:(8:Int)<((z.length:Nat):Int):=by lia
   have f:¬(gj z).length<=8:=by walk_at "l"
   iterate 7 (walk_at "d";try simp only[i,h,af q,m,bD,bz])
   simp[f]
noncomputable def kB(c:hZ)(lo d:Nat):gH Nat:=if kz c (num d).length=true/\lo<=digitsVal c/\digitsVal c<=d then some (digitsVal c)else none
def mu(a:Ad)(o:gH Nat):R D:=match o with
 |some v=>.ok (.int (v:Nat))
 |none=>.ex a.NoText ["row"] [.int 1]
def Mb{o:gw}(F:∀(z:gp) (k:Nat),z.length<=1000000->o [.str z,.int k]=.ok (.bl<|kz (gj z) k))(z:gp)(lo c:Nat)(D:z.length<=1000000)(G:c<10^400):
    gB (D8 a o<|gJ 4 [.str z,.int lo,.int c])=mu a (kB (gj z) lo c):=by
 have j:lQ [.int (c:Nat)]=.ok (.str<|toString ((c:Nat):Int)):=FJ (by simp_all);have r:=CB c;have L:(num c).length<=400:=nZ (k:=399) G;generalize N:Str.ofString (toString ((c:Nat):Int))=w at r j;have q:w.length=(num c).length:=by rw[la,r]
 have f:w.length<=sizeLine:=size_of (by lia);have p:=F z (num c).length D;rw[<-q]at p;have d:o [.str z,.int ((w.length:Nat):Int)]=.ok (.bl<|kz (gj z) (num c).length):=by rw[p,q]
 unfold D8 kB;cases n:kz (gj z) (num c).length with
 |false=>
  rw[n]at d;iterate 6 (walk_at "d";try simp only[j,af f,d])
  simp[mu]
 |true=>
  rw[n]at d;obtain⟨M,C⟩:=E1 n;obtain⟨k3,v⟩:=C6 C;have l:z.length<=640:=by rw[la];lia
  have m:intText? z=some ((digitsVal<|gj z:Nat):Int):=intText_of k3 v l;by_cases P:digitsVal (gj z)<lo
  ·have h:((digitsVal<|gj z:Nat):Int)<(lo:Int):=by simp_all
   iterate 8 (walk_at "d";try simp only[j,af f,d,m,af l,h,bD])
   have:¬lo<=digitsVal (gj z):=by simp_all
   simp[mu,this]
  ·have h:¬((digitsVal<|gj z:Nat):Int)<(lo:Int):=by simp_all
   by_cases O:c<digitsVal (gj z)
   ·have i:(c:Int)<((digitsVal<|gj z:Nat):Int):=by simp_all
    iterate 8 (walk_at "d";try simp only[j,af f,d,m,af l,h,i,bD,bz])
    have:¬digitsVal (gj z)<=c:=by simp_all
    simp[mu,this]
   ·have i:¬(c:Int)<((digitsVal<|gj z:Nat):Int):=by simp_all
    iterate 9 (walk_at "d";try simp only[j,af f,d,m,af l,h,i,bD,bz])
    have J:lo<=digitsVal (gj z):=by simp_all
    have I:digitsVal (gj z)<=c:=by simp_all
    simp[J,I,mu]
def rX(a:Ad)(z:gp):R D:=if TR.ki (gj z)=true then .ok (.str z)else .ex a.NoText ["row"] [.int 1]
def Xv{c:gw}(f:∀z:gp,z.length<=1000000->c [.str z]=.ok (.bl<|TR.ki<|gj z))(z:gp)(d:z.length<=1000000):gB (D9 a c<|gJ 1 [.str z])=rX a z:=by
 have h:=f z d;unfold D9 rX;cases e:TR.ki (gj z)with
 |_=>
  rw[e]at h;iterate 5 (walk_at "d";try simp only[h])
  try rfl
end WP
set_option hygiene false in
local macro_rules|`(tactic|walk_at "zw")=>do let l:="oN,vR,kr,vM,mO,vQ,GR,GU,GV,GC,AX,GD,lj,vS,i9,ph,qy,pT,rf,oO,vT,rl,l8,lI,rj,GX,nc,vU,qz,qA,GW,mw,Gx,vL,Gy,yj,vN,vP,vO,GO,GF,GG,GH,GI,GP,GQ,GS,GL,GJ,Gz,GN,GK,GA,GB,lM,vo,oF,tG,mK,kF,jZ,gM,vn,q4,As,Ay,xN,vp,oG,o6,vq,x8,Gi,bB,bo,fA,eX,ae".splitOn ","|>.toArray.map fun x=>Lean.mkIdent x.toName;`(tactic|simp only[$[$l:ident],*])
namespace WR
open PySem L2 P2 WP TM T2 PySem.NumText
abbrev Tk:=gi Nat
inductive Pr where
 |ok(d:D)(r:List Tk)(k b:Nat)|no|bad
abbrev PF:=gi Tk->Nat->Nat->Pr
def gD:gi Nat->gi Nat->gL
 |[],[]=>true
 |x::c,y::a=>Nat.beq x y&&gD c a
 |_,_=>false
theorem nT:∀x y:gi Nat,gD x y=true↔x=y
 |[],[]=>by simp[gD]
 |[],_::_=>by simp[gD]
 |_::_,[]=>by simp[gD]
 |x::c,y::a=>by unfold gD;rw[aq,nT c a,Nat.beq_eq];simp
abbrev tS(t:Tk):D:=.str (gm t)
def CQ(t s):decide (gm t=s)=gD t (gj s):=by rw[bx,aA,nT];exact⟨λh=>by rw[<-h,lL],λh=>by rw[h,mq]⟩
def x8(t s):gW (tS t) (.str s)=.ok (.bl<|gD t<|gj s):=by rw[xK,CQ]
def Gi(t s):ky (tS t) (.str s)=.ok (.bl<|!gD t (gj s)):=by rw[FE,CQ]
theorem zd(t):∀a:gi gp,decide (gm t∈a)=(a.map gj).any (gD t)
 |[]=>by simp
 |k::a=>by rw[aF,bF,<-zd t a,<-CQ,bx];simp
def OB(t:Tk)(a:iH)(h:PyData.strOk (gm t)=true)(c:∀k∈a,PyData.strOk k=true):i7 (tS t) (.tup<|a.map D.str)=.ok (.bl<|(a.map gj).any (gD t)):=by show(match mm (.str<|gm t) (a.map D.str)with|some b=>R.ok (D.bl b)|none=>.bad)=_;rw[zH h c,zd]
def aew(t:Tk)(a:iH)(h:PyData.strOk (gm t)=true)(c:∀k∈a,PyData.strOk k=true):tq (tS t) (.tup<|a.map D.str)=.ok (.bl<|!(a.map gj).any (gD t)):=by show(match mm (.str<|gm t) (a.map D.str)with|some b=>R.ok (D.bl<|!b)|none=>.bad)=_;rw[zH h c,zd]
def jV(x:Pr)(f:D->PF):Pr:=match x with
 |.ok d r k b=>f d r k b
 |.no=>.no
 |.bad=>.bad
def lZ(f:D->D)(x:Pr):Pr:=jV x λd r k b=>.ok (f d) r k b
def nx:gi Tk->Tk
 |[]=>[]
 |t::_=>t
abbrev _root_.kC:=gi Tk
def tk(r:kC)(f:Tk->gi Tk->Pr):Pr:=match r with
 |[]=>.no
 |t::r=>f t r
def xp(c:Tk)(r:kC)(f:gi Tk->Pr):Pr:=tk r λx r=>bif gD x c then f r else .no
def bg(k:Nat)(f:Nat->Pr):Pr:=bif Nat.ble k 29 then f (k+1)else .no
def en(t:Tk)(r:kC)(b:Nat)(f:gi Tk->Nat->Pr):Pr:=tk r λx r=>bif gD x t then(bif Nat.ble b 15 then f r (b+1)else .no)else .no
def lv(t:Tk)(d:D)(r:kC)(k b:Nat):Pr:=tk r λx r=>bif gD x t then(match b with
 |b+1=>.ok d r k b
 |0=>.bad)else .no
noncomputable def o7(t:Tk):gH (Int×Int):=match n6 t with
 |some (p,q)=>if p.natAbs<1000000000/\q<1000000 then some (p,q)else none
 |none=>none
def opt{a:Type}(o:gH a)(f:a->Pr):Pr:=match o with
 |some v=>f v
 |none=>.no
def vk:gi Tk:=[[98,97,99,107],[111,110],[97,103,111],[117,110,116,105,108]]
def An(v:Int×Int):D:=.tup [.int v.1,.int v.2]
def vf(a:PF):PF:=λr k b=>en [40] r b λr b=>jV (a r k b) λd r k b=>lv [41] d r k b
def rY(a:PF):PF:=λr k b=>bif gD (nx r) [40]then a r k b else bg k λk=>tk r λw r=>
    bif gD w [104,101,114,101]then .ok (.tup [.str "here"]) r k b else
    bif vk.any (gD w)then tk r λt r=>opt (kB t 1 9) λn=>.ok (.tup [tS w,.int (n:Nat)]) r k b else
    bif gD w [97,116]then tk r λt r=>(bif TR.ki t then .ok (.tup [.str "at",tS t]) r k b else .no)else
    bif gD w [97,98,115]then lZ (λd=>.tup [.str "abs",d]) (a r k b)else
    opt (o7 w) λv=>.ok (.tup [.str "num",An v]) r k b
noncomputable def qY(a:PF):PF:=λr k b=>bif gD (nx r.tail) [42]then tk r λf r=>opt (o7 f) λv=>xp [42] r λr=>bg k λk=>lZ (λd=>.tup [.str "times",An v,d]) (a r k b)
 else a r k b
noncomputable def qu(a:PF):Nat->D->PF
 |0,_,_,_,_=>.bad
 |n+1,d,r,k,b=>bif [[43],[45]].any (gD<|nx r)then tk r λs r=>bg k λk=>jV (a r k b) λe r k b=>qu a n (.tup [tS s,d,e]) r k b else .ok d r k b
def vh(a:PF):PF:=λr k b=>jV (a r k b) λd r k b=>qu a 100 d r k b
noncomputable def vg(a:PF):PF:=λr k b=>bg k λk=>jV (a r k b) λd r k b=>tk r λs r=>bif [[60],[61]].any (gD s)then lZ (λe=>.tup [tS s,d,e]) (a r k b)else .no
noncomputable def tA(c a f:PF):PF:=λr k b=>
 bif gD (nx r) [110,111,116]then xp [110,111,116] r λr=>bg k λk=>lZ (λd=>.tup [.str "not",d]) (c r k b)else
 bif gD (nx r) [91]then en [91] r b λr b=>jV (a r k b) λd r k b=>lv [93] d r k b else f r k b
noncomputable def l4(w:Tk)(s:gp)(a:PF):Nat->D->PF
 |0,_,_,_,_=>.bad
 |n+1,d,r,k,b=>bif gD (nx r) w then xp w r λr=>bg k λk=>jV (a r k b) λe r k b=>l4 w s a n (.tup [.str s,d,e]) r k b else .ok d r k b
def o5(w:Tk)(s:gp)(a:PF):PF:=λr k b=>jV (a r k b) λd r k b=>l4 w s a 100 d r k b
structure PB where
 (su pr sg br:PF)
def f0:Nat->PB
 |0=>⟨λ_ _ _=>.bad,λ_ _ _=>.bad,λ_ _ _=>.bad,λ_ _ _=>.bad⟩
 |n+1=>⟨vh (f0 n).pr,qY (f0 n).sg,rY (f0 n).br,vf (f0 n).su⟩
structure PC where
 (or and not:PF)
def f1:Nat->PC
 |0=>⟨λ_ _ _=>.bad,λ_ _ _=>.bad,λ_ _ _=>.bad⟩
 |n+1=>⟨o5 [111,114] "or" (f1 n).and,o5 [97,110,100] "and" (f1 n).not,tA (f1 n).not (f1 n).or (vg (f0 75).su)⟩
def pEnd(x:Pr):Pr:=jV x λd r k b=>match r with
 |[]=>.ok d r k b
 |_::_=>.no
noncomputable def jz(c:Nat):gL:=(Nat.ble 97 c&&Nat.ble c 122)||(Nat.ble 47 c&&Nat.ble c 57)
def gI(a:hZ):gi Tk:=(gO 32<|a.flatMap λc=>bif jz c then[c]else[32,c,32]).filter λt=>!t.isEmpty
def parse(a:hZ):Pr:=pEnd ((f1 85).or (gI a) 0 0)
def gu(c:ic)(a:Ad)(T:kC)(p k b:Nat):ic:=c++[.ob a.Tokens [("tokens",.d<|.lst<|T.map tS),("place",.d<|.int p),("parts",.d<|.int k),("brackets",.d<|.int b)]]
def Rl(c:ic)(a:Ad)(T:kC)(x:RX Z):Pr->Prop
 |.ok d r k b=>∃p,T.drop p=r/\x=.ok (.d d) (gu c a T p k b)
 |.no=>∃S,x=.ex a.NoText ["row"] [.int 1] S
 |.bad=>True
def jB(c:ic)(a:Ad)(T:kC)(F:hL)(G:PF):Prop:=∀p k b,Rl c a T (F [.loc c.length]<|gu c a T p k b) (G (T.drop p) k b)
structure ke(T:kC):Prop where
 n:∀t∈T,t≠[]
 s:∀t∈T,PyData.strOk (gm t)=true
 l:T.length<=100000
section
variable{q:ic}{a:Ad}{T:kC}{p k b:Nat}{l:hU}{r s:Type}
def oN:toZ (.ok x S) f=f x S:=rfl
def vR:toZ (.ex c ns ds S) f=.ex c ns ds S:=rfl
def kr:(RX.ok x S).bind f=f x S:=rfl
def vM:(RX.ex c ns ds S).bind f=.ex c ns ds S:=rfl
def mO:lP (.nx l S) f=f l S:=rfl
def vQ:lP (.ex c ns ds S) f=.ex c ns ds S:=rfl
def GR:lP (.rt z S) f=.rt z S:=rfl
def GU:m4 (.nx l S) f=f l S:=rfl
def GV:m4 (.ex c ns ds S) f=.ex c ns ds S:=rfl
def GC:g7 (.rt z S)=.ok z S:=rfl
def AX:g7 (.nx l S)=.ok (.d .non) S:=rfl
def GD:g7 (.ex c ns ds S)=.ex c ns ds S:=rfl
def lj:kW (.ok x) S=.ok x S:=rfl
def vS:kW (.ex c ns ds:R r) S=.ex c ns ds S:=rfl
def i9{g}:gG f g l S=lP (f l S) g:=rfl
def ph:jD f l S=toZ (f l S) λ_ c=>.nx l c:=rfl
def qy:jE f l S=toZ (f l S) .rt:=rfl
def pT{y}:iy 1 f (z::y::l) S=toZ (f (z::y::l) S) λx c=>.nx (z::some x::l) c:=by rfl
def rf{y}:iy 2 f (z::y::x::l) S=toZ (f (z::y::x::l) S) λv c=>.nx (z::y::some v::l) c:=by rfl
def oO{g}:jg c f g l S=toZ (c l S) λk d=>bif k then f l d else g l d:=by
 unfold jg
 lia
def vT:j5 l S=.nx l S:=rfl
def rl:zZ F f l S=(f l S).bind F:=rfl
def l8:gA l S=.ok [] S:=rfl
def lI{g}:gx f g l S=(f l S).bind λx h=>(g l h).bind λc d=>.ok (x::c) d:=rfl
def rj:zV 0 (some z::l) S=.ok z S:=rfl
def GX{y}:zV 1 (y::some z::l) S=.ok z S:=rfl
def nc:zD f l S=(kW (f<|iO l) S).bind λd S=>.ok (.d d) S:=rfl
def vU:zB f l S=kW (f<|iO l) S:=rfl
def qz{g}:z2 g f h l S=(f l S).bind λx i=>(h l i).bind λy c=>match x,y with
 |.d x,.d y=>(kW (g x y) c).bind λd S=>.ok (.d d) S
 |_,_=>.bad:=rfl
def qA{g}:j6 g f l S=(f l S).bind λx c=>match x with
 |.d x=>kW (g x) c
 |_=>.bad:=rfl
def GW{g}:A2 c f g l S=(c l S).bind λk d=>bif k then f l d else g l d:=by
 unfold A2
 lia
def mw{g}:zF g f l S=(f l S).bind λc i=>match kI c with
 |some h=>(kW (g h) i).bind λd S=>.ok (.d d) S
 |none=>.bad:=rfl
def Gx:kI []=some []:=rfl
def vL:kI [.d x]=some [x]:=rfl
def Gy{y}:kI [.d x,.d y]=some [x,y]:=rfl
def yj{y}:kI [.d x,.d y,.d z]=some [x,y,z]:=rfl
def vN:iO []=[]:=rfl
def vP{n}:iO (gz n::l)=.no::iO l:=rfl
def vO:iO (ig x::l)=.sh x::iO l:=rfl
def GO:iO (none::l)=.no::iO l:=rfl
def GF{d}:gY [d]=.ok (.tup [d]):=xP (by simp)
def GG{d}:gY [d,e]=.ok (.tup [d,e]):=xP (by simp)
def GH{d}:gY [d,e,f]=.ok (.tup [d,e,f]):=xP (by simp)
def GI{d g}:gY [d,e,f,g]=.ok (.tup [d,e,f,g]):=xP (by simp)
def GP:leave ((λl=>toS ((gh (gq 1) gk) l) λc=>RT.ex a.NoText ["row"] c) (iO l)) S=.ex a.NoText ["row"] [.int 1] S:=rfl
def GQ:leave (toS (R.ok [D.int 1]) λc=>RT.ex a.NoText ["row"] c) S=.ex a.NoText ["row"] [.int 1] S:=rfl
def sY:(q++[c])[q.length]?=some c:=by simp
def Gb:(q++[c]).set q.length c'=q++[c']:=by simp
def Tt{fs n}{f:iM}(h:f l S=.ok (.loc n) S)(i:S[n]?=some (.ob C fs))(d:fs.lookup x=some z):oP C f x l S=.ok z S:=by
 unfold oP;rw[h]
 show(match S[n]? with
  |some (.ob c fs)=>if c=C then(match fs.lookup x with
   |some z=>RX.ok z S
   |none=>.bad)else .bad
  |_=>.bad)=_
 simp_all
def Ts{fs}{i j:Int}{g:sQ}{n}{f v:iM}(h:f l S=.ok (.loc n) S)(o:v l S=.ok (.d<|.int j) S)(D:S[n]?=some (.ob C fs))(z:fs.lookup x=jF i)(G:fs.length<1000):pj C f x g v l S=.nx l (S.set n<|.ob C<|nF x (.d<|.int<|g i j) fs):=by
 unfold pj;rw[h]
 show(match S[n]? with
  |some (.ob F fs)=>if F=C then(match fs.lookup x with
   |some (.d (.int i))=>toZ (v l S) λv m=>(match v,m[n]? with
    |.d (.int j),some (.ob d c)=>if d=C/\c.length<1000 then jK.nx l (m.set n<|.ob d<|nF x (.d<|.int<|g i j) c)else .bad
    |_,_=>.bad)
   |_=>.bad)else .bad
  |_=>.bad)=_
 rw[D];show(if C=C then _ else _)=_;rw[af rfl,z];rw[o]
 show(match Z.d (.int j),S[n]? with
      |.d (.int j),some (.ob d c)=>if d=C/\c.length<1000 then jK.nx l (S.set n<|.ob d<|nF x (.d<|.int<|g i j) c)else .bad
      |_,_=>.bad)=_
 simp_all
def Kb{n}{f:iM}{fs:mE}(h:f l S=.ok (.loc n) S)(i:S[n]?=some (.ob C us))(d:us.lookup m=none)(c:fs l S=.ok zs S):hY C m F dz f fs l S=F (.loc n::(zs++dz.map Z.d)) S:=by
 unfold hY;rw[h]
 show(match S[n]? with
  |some (.ob o us)=>if o=C/\us.lookup m=none then(fs l S).bind λzs j=>F (.loc n::(zs++dz.map Z.d)) j else .bad
  |_=>.bad)=_
 rw[i];show(if C=C/\us.lookup m=none then _ else _)=_;rw[af ⟨rfl,d⟩,c];rfl
def w_fld{fs:gi<|gp×Z}(h:fs.lookup x=some z):oP C (zV 0) x (gz q.length::l) (q++[.ob C fs])=.ok z (q++[.ob C fs]):=Tt rfl sY h
def AW{fs:gi<|gp×Z}{i:Int}{g:sQ}(h:fs.lookup x=jF i)(c:fs.length<1000):pj C (zV 0) x g (zD<|gq 1) (gz q.length::l) (q++[.ob C fs])=.nx (gz q.length::l) (q++[.ob C<|nF x (.d<|.int<|g i 1) fs]):=by rw[Ts (n:=q.length) (j:=1) rfl rfl sY h c,Gb]
def GS:oP a.Tokens (zV 0) "tokens" (gz q.length::l) (gu q a T p k b)=.ok (.d<|.lst<|T.map tS) (gu q a T p k b):=w_fld rfl
def GL:oP a.Tokens (zV 0) "place" (gz q.length::l) (gu q a T p k b)=.ok (.d<|.int p) (gu q a T p k b):=w_fld rfl
def GJ:oP a.Tokens (zV 0) "parts" (gz q.length::l) (gu q a T p k b)=.ok (.d<|.int k) (gu q a T p k b):=w_fld rfl
def Gz:oP a.Tokens (zV 0) "brackets" (gz q.length::l) (gu q a T p k b)=.ok (.d<|.int b) (gu q a T p k b):=w_fld rfl
def GN:pj a.Tokens (zV 0) "place" (λi j=>i+j) (zD<|gq 1) (gz q.length::l) (gu q a T p k b)=.nx (gz q.length::l) (gu q a T (p+1) k b):=(AW (fs:=[("tokens",.d<|.lst<|T.map tS),("place",.d<|.int p),("parts",.d<|.int k),("brackets",.d<|.int b)]) rfl<|show 4<1000 by decide).trans rfl
def GK:pj a.Tokens (zV 0) "parts" (λi j=>i+j) (zD<|gq 1) (gz q.length::l) (gu q a T p k b)=.nx (gz q.length::l) (gu q a T p (k+1) b):=(AW (fs:=[("tokens",.d<|.lst<|T.map tS),("place",.d<|.int p),("parts",.d<|.int k),("brackets",.d<|.int b)]) rfl<|show 4<1000 by decide).trans rfl
def GA:pj a.Tokens (zV 0) "brackets" (λi j=>i+j) (zD<|gq 1) (gz q.length::l) (gu q a T p k b)=.nx (gz q.length::l) (gu q a T p k<|b+1):=(AW (fs:=[("tokens",.d<|.lst<|T.map tS),("place",.d<|.int p),("parts",.d<|.int k),("brackets",.d<|.int b)]) rfl<|show 4<1000 by decide).trans rfl
def GB:pj a.Tokens (zV 0) "brackets" (λi j=>i - j) (zD<|gq 1) (gz q.length::l) (gu q a T p k<|b+1)=.nx (gz q.length::l) (gu q a T p k b):=by
 refine(AW (fs:=[("tokens",.d<|.lst<|T.map tS),("place",.d<|.int p),("parts",.d<|.int k),("brackets",.d<|.int (b+1:Nat))]) rfl<|show 4<1000 by decide).trans ?_;have e:(((b+1:Nat):Int) - 1)=(b:Nat):=by simp
 rw[e];rfl
def qx{m:gp}{F:hL}{c:ja}{fs:mE}{zs:gi Z}(d:(m=="tokens")=false/\(m=="place")=false/\(m=="parts")=false/\(m=="brackets")=false)(h:fs (gz q.length::l) (gu q a T p k b)=.ok zs (gu q a T p k b)):
    hY a.Tokens m F c (zV 0) fs (gz q.length::l) (gu q a T p k b)=F (.loc q.length::(zs++c.map .d)) (gu q a T p k b):=by
 obtain⟨n,j,i,f⟩:=d;exact Kb rfl sY (by rw[cJ,n,cJ,j,cJ,i,cJ,f];rfl) h
end
abbrev Za(a:Ad):hL:=λzs S=>g7 (zw a S.length (ij 3 zs) S)
abbrev Zt(a:Ad):hL:=λzs S=>g7 (uV a (Za a) S.length (ij 2 zs) S)
abbrev Ze(a:Ad):hL:=λzs S=>g7 (uU a (Zt a) S.length (ij 2 zs) S)
abbrev Zx(a:Ad):hL:=λzs S=>g7 (zA a (Za a) S.length (ij 1 zs) S)
abbrev Zb(a:Ad):hL:=λzs S=>g7 (zx a S.length (ij 1 zs) S)
abbrev Zn(a:Ad):hL:=λzs S=>g7 (zy a (Ze a) S.length (ij 2 zs) S)
abbrev Zl(a:Ad):hL:=λzs S=>g7 (zC a (Ze a) S.length (ij 2 zs) S)
def wH:gj (Str.ofString "")=[]:=by decide
def emp:(.str<|Str.ofString "":D)=tS []:=aI D.str (ext<|by decide)
section
variable{S0:ic}{a:Ad}{T:kC}{p k b:Nat}{ρ:hU}
def EK(j):Za a [.loc S0.length,.d<|.int (j:Nat)] (gu S0 a T p k b)=.ok (.d<|tS<|nx<|T.drop<|p+j) (gu S0 a T p k b):=by
 show g7 (zw a _ [gz S0.length,jF (j:Nat),none]<|gu S0 a T p k b)=_;unfold zw;by_cases h:p+j<T.length
 ·have d:((p:Nat):Int)+((j:Nat):Int)<((T.length:Nat):Int):=by lia
  have c:L2.hI (T.map tS) (((p:Nat):Int)+((j:Nat):Int))=some (tS<|nx<|T.drop<|p+j):=by refine ud ?_;rw[aN,bw h,b9 h];rfl
  (repeat(first|walk_at "zw"|simp only[aB d,xO,c]))
 ·have d:¬((p:Nat):Int)+((j:Nat):Int)<((T.length:Nat):Int):=by lia
  have c:T.drop (p+j)=[]:=bX (by simp_all)
  (repeat(first|walk_at "zw"|simp only[az d,c,emp]))
  rfl
def tR:hY a.Tokens "ahead" (Za a) [.int 0] (zV 0) gA (gz S0.length::ρ) (gu S0 a T p k b)=.ok (.d<|tS<|nx<|T.drop p) (gu S0 a T p k b):=by rw[qx (by decide) l8];exact EK 0
def O0:hY a.Tokens "ahead" (Za a) [] (zV 0) (gx (zD<|gq 1) gA) (gz S0.length::ρ) (gu S0 a T p k b)=.ok (.d<|tS<|nx (T.drop p).tail) (gu S0 a T p k b):=by rw[qx (zs:=[.d<|.int 1]) (by decide) rfl];have:=EK (S0:=S0) (a:=a) (T:=T) (p:=p) (k:=k) (b:=b) 1;simp_all
def eq_nil(h:t≠[]):gD t []=false:=by
 cases t with
 |nil=>lia
 |cons=>rfl
def pJ(h:T.drop p=t::r):T.drop (p+1)=r:=by rw[<-List.tail_drop,h];rfl
def mem_of(h:T.drop p=t::r):t∈T:=fX (by rw[h];exact bf ..)
def qW(h:T.drop p=[]):Zt a [.loc S0.length] (gu S0 a T p k b)=.ex a.NoText ["row"] [.int 1] (gu S0 a T p k b):=by
 show g7 (uV a (Za a) _ [gz S0.length,none]<|gu S0 a T p k b)=_;unfold uV
 (repeat(first|walk_at "zw"|simp only[tR,wH,h,nx,gD]))
def qV(O:ke T)(h:T.drop p=t::r):Zt a [.loc S0.length] (gu S0 a T p k b)=.ok (.d<|tS t) (gu S0 a T (p+1) k b):=by
 show g7 (uV a (Za a) _ [gz S0.length,none]<|gu S0 a T p k b)=_;unfold uV;have e:=eq_nil (O.n t<|mem_of h)
 (repeat(first|walk_at "zw"|simp only[tR,wH,h,nx,e]))
def m8:hY a.Tokens "take" (Zt a) [] (zV 0) gA (gz S0.length::ρ) (gu S0 a T p k b)=Zt a [.loc S0.length] (gu S0 a T p k b):=qx (m:="take") (by decide) l8
def EM(h:T.drop p=[]):Ze a [.loc S0.length,.d<|.str s] (gu S0 a T p k b)=.ex a.NoText ["row"] [.int 1] (gu S0 a T p k b):=by show g7 (uU a (Zt a) _ [gz S0.length,ig<|.str s]<|gu S0 a T p k b)=_;unfold uU;simp only[oO,qA,qz,m8];rw[qW h];rfl
def EL(O:ke T)(h:T.drop p=t::r):Ze a [.loc S0.length,.d<|.str s] (gu S0 a T p k b)=bif gD t (gj s)then .ok (.d .non) (gu S0 a T (p+1) k b)else .ex a.NoText ["row"] [.int 1] (gu S0 a T (p+1) k b):=by show g7 (uU a (Zt a) _ [gz S0.length,ig<|.str s]<|gu S0 a T p k b)=_;unfold uU;simp only[oO,qA,qz,m8];rw[qV O h];cases e:gD t (gj s)<;>(repeat(first|walk_at "zw"|simp only[e]))
def ae4:hY a.Tokens "expect" (Ze a) [] (zV 0) (gx (zD<|gs s) gA) (gz S0.length::ρ) (gu S0 a T p k b)=Ze a [.loc S0.length,.d<|.str s] (gu S0 a T p k b):=qx (m:="expect") (zs:=[.d<|.str s]) (by decide) rfl
def O1:hY a.Tokens "expect" (Ze a) [] (zV 0) (gx (zD<|dV 1) gA) (gz S0.length::ig (.str s)::ρ) (gu S0 a T p k b)=Ze a [.loc S0.length,.d<|.str s] (gu S0 a T p k b):=qx (m:="expect") (zs:=[.d<|.str s]) (by decide) rfl
def L8:Zx a [.loc S0.length] (gu S0 a T p k b)=bif gD (nx<|T.drop p) []then .ok (.d .non) (gu S0 a T p k b)else .ex a.NoText ["row"] [.int 1] (gu S0 a T p k b):=by show g7 (zA a (Za a) _ [gz S0.length]<|gu S0 a T p k b)=_;unfold zA;cases e:gD (nx<|T.drop p) []<;>(repeat(first|walk_at "zw"|simp only[tR,wH,e]))
def W0:Zb a [.loc S0.length] (gu S0 a T p k b)=bif Nat.ble k 29 then .ok (.d .non) (gu S0 a T p (k+1) b)else .ex a.NoText ["row"] [.int 1] (gu S0 a T p (k+1) b):=by
 show g7 (zx a _ [gz S0.length]<|gu S0 a T p k b)=_;unfold zx;cases e:Nat.ble k 29 with
 |true=>
  have h:¬(30:Int)<(((k+1:Nat):Nat):Int):=by have:=bP e;lia
  (repeat(first|walk_at "zw"|simp only[az h]))
 |false=>
  have h:(30:Int)<(((k+1:Nat):Nat):Int):=by
   have:¬k<=29:=λz=>by rw[cN z]at e;cases e
   lia
  (repeat(first|walk_at "zw"|simp only[aB h]))
def Rt(S0:ic)(a:Ad)(T:kC)(x:jK):Pr->Prop
 |.ok d r k b=>∃p,T.drop p=r/\x=.rt (.d d) (gu S0 a T p k b)
 |.no=>∃S,x=.ex a.NoText ["row"] [.int 1] S
 |.bad=>True
def Rt.fin(h:Rt S0 a T x P):Rl S0 a T (g7 x) P:=by
 cases P with
 |ok d r k b=>obtain⟨p,e,h⟩:=h;exact⟨p,e,by rw[h];rfl⟩
 |no=>obtain⟨S,h⟩:=h;exact⟨S,by rw[h];rfl⟩
 |bad=>trivial
def Rt.seq(h:Rt S0 a T x P):Rt S0 a T (lP x f) P:=by
 cases P with
 |ok d r k b=>obtain⟨p,e,h⟩:=h;exact⟨p,e,by rw[h];rfl⟩
 |no=>obtain⟨S,h⟩:=h;exact⟨S,by rw[h];rfl⟩
 |bad=>trivial
def uP{f:Nat->Pr}{rest:gZ}(H:Rt S0 a T (rest (gz S0.length::ρ)<|gu S0 a T p (k+1) b)<|f<|k+1):
    Rt S0 a T (gG (jD<|hY a.Tokens "begin_part" (Zb a) [] (zV 0) gA) rest (gz S0.length::ρ)<|gu S0 a T p k b) (bg k f):=by
 rw[i9,ph,qx (by decide) l8];show Rt S0 a T (lP (toZ (Zb a [.loc S0.length]<|gu S0 a T p k b) _) _) _;rw[W0];unfold bg;cases Nat.ble k 29 with
 |true=>exact H
 |false=>exact⟨_,rfl⟩
def uR{f:gi Tk->Pr}{rest:gZ}(O:ke T)(d:gj s=c)(H:Rt S0 a T (rest (gz S0.length::ρ)<|gu S0 a T (p+1) k b)<|f<|T.drop<|p+1):
    Rt S0 a T (gG (jD<|hY a.Tokens "expect" (Ze a) [] (zV 0)<|gx (zD<|gs s) gA) rest (gz S0.length::ρ)<|gu S0 a T p k b) (xp c (T.drop p) f):=by
 rw[i9,ph,ae4];subst d;unfold xp tk;cases h:T.drop p with
 |nil=>rw[EM h];exact⟨_,rfl⟩
 |cons t r=>
  rw[EL O h];rw[pJ h]at H;dsimp only;cases gD t (gj s)with
  |true=>exact H
  |false=>exact⟨_,rfl⟩
def L9{rest:gZ}{f:gi Tk->Nat->Pr}(O:ke T)(d:gj s=c)(H:Rt S0 a T (rest (gz S0.length::ρ)<|gu S0 a T (p+1) k<|b+1)<|f (T.drop<|p+1)<|b+1):
    Rt S0 a T (gG (jD<|hY a.Tokens "enter" (Zn a) [] (zV 0)<|gx (zD<|gs s) gA) rest (gz S0.length::ρ)<|gu S0 a T p k b) (en c (T.drop p) b f):=by
 rw[i9,ph,qx (zs:=[.d<|.str s]) (by decide) rfl];show Rt S0 a T (lP (toZ (g7<|zy a (Ze a) _ [gz S0.length,ig<|.str s]<|gu S0 a T p k b) _) _) _;unfold zy;rw[i9,ph,O1];subst d;unfold en tk;cases h:T.drop p with
 |nil=>rw[EM h];exact⟨_,rfl⟩
 |cons t r=>
  rw[EL O h];rw[pJ h]at H;dsimp only;cases gD t (gj s)with
  |false=>exact⟨_,rfl⟩
  |true=>
   cases e:Nat.ble b 15 with
   |true=>
    have h:¬(16:Int)<(((b+1:Nat):Nat):Int):=by have:=bP e;lia
    (repeat(first|walk_at "zw"|simp only[az h]))
    exact H
   |false=>
    have h:(16:Int)<(((b+1:Nat):Nat):Int):=by
     have:¬b<=15:=λz=>by rw[cN z]at e;cases e
     lia
    (repeat(first|walk_at "zw"|simp only[aB h]))
    exact⟨_,rfl⟩
def Kz{d}(O:ke T)(f:gj s=c):
    Rt S0 a T (gG (jD<|hY a.Tokens "leave" (Zl a) [] (zV 0)<|gx (zD<|gs s) gA) (jE<|zD<|dV 1) (gz S0.length::ig d::ρ)<|gu S0 a T p k b) (lv c d (T.drop p) k b):=by
 rw[i9,ph,qx (zs:=[.d<|.str s]) (by decide) rfl];show Rt S0 a T (lP (toZ (g7<|zC a (Ze a) _ [gz S0.length,ig<|.str s]<|gu S0 a T p k b) _) _) _;unfold zC;rw[i9,ph,O1];subst f;unfold lv tk;cases h:T.drop p with
 |nil=>rw[EM h];exact⟨_,rfl⟩
 |cons t r=>
  rw[EL O h];dsimp only;cases gD t (gj s)with
  |false=>exact⟨_,rfl⟩
  |true=>
   cases b with
   |zero=>trivial
   |succ b=>refine⟨p+1,pJ h,?_⟩;walk_at "zw"
def sW{G}(c:jB S0 a T F G){f:D->PF}{y}{rest:gZ}(H:∀d p k b,Rt S0 a T (rest (gz S0.length::ig d::ρ)<|gu S0 a T p k b)<|f d (T.drop p) k b):
    Rt S0 a T (gG (iy 1<|zZ F<|gx (zV 0) gA) rest (gz S0.length::y::ρ)<|gu S0 a T p k b) (jV (G (T.drop p) k b) f):=by
 have h:=c p k b;simp only[i9,pT,rl,lI,rj,l8,kr];cases e:G (T.drop p) k b with
 |bad=>trivial
 |no=>rw[e]at h;obtain⟨S,h⟩:=h;rw[h];exact⟨_,rfl⟩
 |ok d r l m=>rw[e]at h;obtain⟨j,i,h⟩:=h;rw[h];subst i;exact H _ _ _ _
def Ui{f:Tk->gi Tk->Pr}(O:ke T){y}{rest:gZ}(H:∀t r,T.drop p=t::r->Rt S0 a T (rest (gz S0.length::ig (tS t)::ρ)<|gu S0 a T (p+1) k b) (f t<|T.drop<|p+1)):
    Rt S0 a T (gG (iy 1<|hY a.Tokens "take" (Zt a) [] (zV 0) gA) rest (gz S0.length::y::ρ)<|gu S0 a T p k b) (tk (T.drop p) f):=by
 simp only[i9,pT,m8];unfold tk;cases h:T.drop p with
 |nil=>rw[qW h];exact⟨_,rfl⟩
 |cons t r=>rw[qV O h];have:=H t r h;rw[pJ h]at this;exact this
def KC{f:Tk->gi Tk->Pr}(O:ke T){y}{rest:gZ}(H:∀t r,T.drop p=t::r->Rt S0 a T (rest (gz S0.length::y::ig (tS t)::ρ)<|gu S0 a T (p+1) k b) (f t<|T.drop<|p+1)):
    Rt S0 a T (gG (iy 2<|hY a.Tokens "take" (Zt a) [] (zV 0) gA) rest (gz S0.length::y::z::ρ)<|gu S0 a T p k b) (tk (T.drop p) f):=by
 simp only[i9,rf,m8];unfold tk;cases h:T.drop p with
 |nil=>rw[qW h];exact⟨_,rfl⟩
 |cons t r=>rw[qV O h];have:=H t r h;rw[pJ h]at this;exact this
def DU{A rest:gZ}(d:gj s=c)(h:Rt S0 a T (A (gz S0.length::ρ)<|gu S0 a T p k b) P)(f:Rt S0 a T (rest (gz S0.length::ρ)<|gu S0 a T p k b) Q):
    Rt S0 a T (gG (jg (j6 tB<|z2 gW (hY a.Tokens "ahead" (Za a) [.int 0] (zV 0) gA)<|zD<|gs s) A j5) rest (gz S0.length::ρ)<|gu S0 a T p k b) (bif gD (nx<|T.drop p) c then P else Q):=by
 subst d;cases e:gD (nx<|T.drop p) (gj s)with
 |true=>(repeat(first|walk_at "zw"|simp only[tR,e]));exact h.seq
 |false=>(repeat(first|walk_at "zw"|simp only[tR,e]));exact f
def DR{A rest:gZ}(d:gj s=c)(h:Rt S0 a T (A (gz S0.length::ig (tS t)::ρ)<|gu S0 a T p k b) P)(f:Rt S0 a T (rest (gz S0.length::ig (tS t)::ρ)<|gu S0 a T p k b) Q):
    Rt S0 a T (gG (jg (zB<|b1 tB<|d2 gW (dV 1)<|gs s) A j5) rest (gz S0.length::ig (tS t)::ρ)<|gu S0 a T p k b) (bif gD t c then P else Q):=by
 subst d;cases e:gD t (gj s)with
 |true=>(repeat(first|walk_at "zw"|simp only[e]));exact h.seq
 |false=>(repeat(first|walk_at "zw"|simp only[e]));exact f
def FU{G}(f:jB S0 a T F G):Rt S0 a T (jE (zZ F<|gx (zV 0) gA) (gz S0.length::ρ)<|gu S0 a T p k b) (G (T.drop p) k b):=by
 have h:=f p k b;simp only[qy,rl,lI,rj,l8,kr];cases e:G (T.drop p) k b with
 |bad=>trivial
 |no=>rw[e]at h;obtain⟨S,h⟩:=h;rw[h];exact⟨_,rfl⟩
 |ok d r j l=>rw[e]at h;obtain⟨c,i,h⟩:=h;rw[h];exact⟨c,i,rfl⟩
def N0{G}(f:jB S0 a T F G){x:hP}{d0}(i:x (iO<|gz S0.length::ρ)=.ok d0):
    Rt S0 a T (jE (zF gY<|gx (zD x)<|gx (zZ F<|gx (zV 0) gA) gA) (gz S0.length::ρ)<|gu S0 a T p k b) (lZ (λd=>.tup [d0,d])<|G (T.drop p) k b):=by
 have h:=f p k b;simp only[qy,mw,nc,i,lj,rl,lI,rj,l8,kr];unfold lZ jV;cases e:G (T.drop p) k b with
 |bad=>trivial
 |no=>rw[e]at h;obtain⟨S,h⟩:=h;rw[h];exact⟨_,rfl⟩
 |ok d r l m=>rw[e]at h;obtain⟨c,j,h⟩:=h;rw[h];refine⟨c,j,?_⟩;walk_at "zw"
def NZ{G}(f:jB S0 a T F G){x y:hP}{d0 d1}(j:x (iO<|gz S0.length::ρ)=.ok d0)(i:y (iO<|gz S0.length::ρ)=.ok d1):
    Rt S0 a T (jE (zF gY<|gx (zD x)<|gx (zD y)<|gx (zZ F<|gx (zV 0) gA) gA) (gz S0.length::ρ)<|gu S0 a T p k b) (lZ (λd=>.tup [d0,d1,d])<|G (T.drop p) k b):=by
 have h:=f p k b;simp only[qy,mw,nc,j,i,lj,rl,lI,rj,l8,kr];unfold lZ jV;cases e:G (T.drop p) k b with
 |bad=>trivial
 |no=>rw[e]at h;obtain⟨S,h⟩:=h;rw[h];exact⟨_,rfl⟩
 |ok d r m n=>rw[e]at h;obtain⟨c,l,h⟩:=h;rw[h];refine⟨c,l,?_⟩;walk_at "zw"
def acY(O:ke T){G}(f:jB S0 a T F G):jB S0 a T (λc S=>g7<|DY a (Zn a) F (Zl a) S.length (ij 2 c) S) (vf G):=by intro p k b;refine Rt.fin ?_;unfold DY vf;refine L9 O (by decide) ?_;refine sW f λd p k b=>?_;exact Kz O (by decide)
def Ue{c:iH}{h:hP}{A rest:gZ}(f:∀e,h e=.ok (.tup<|c.map D.str))(i:PyData.strOk (gm t)=true)(j:∀k∈c,PyData.strOk k=true)(l:c.map gj=cs)
 (n:Rt S0 a T (A (gz S0.length::ig (tS t)::ρ)<|gu S0 a T p k b) P)(m:Rt S0 a T (rest (gz S0.length::ig (tS t)::ρ)<|gu S0 a T p k b) Q):
   Rt S0 a T (gG (jg (zB<|b1 tB<|d2 i7 (dV 1) h) A j5) rest (gz S0.length::ig (tS t)::ρ)<|gu S0 a T p k b) (bif cs.any (gD t)then P else Q):=by
  subst l;have d:=OB t c i j;cases e:(c.map gj).any (gD t)with
  |true=>rw[e]at d;(repeat(first|walk_at "zw"|simp only[f,d]));exact n.seq
  |false=>rw[e]at d;(repeat(first|walk_at "zw"|simp only[f,d]));exact m
def Uh{c:iH}{y}{i:hP}{rest:gZ}(h:∀e,i e=.ok (.tup<|c.map D.str))(l:PyData.strOk (gm t)=true)(m:∀k∈c,PyData.strOk k=true)(n:c.map gj=cs)
 (o:Rt S0 a T (rest (gz S0.length::y::ig (tS t)::ρ)<|gu S0 a T p k b) P)(j:∃d,y=ig d):
   Rt S0 a T (gG (jg (zB<|b1 tB<|d2 tq (dV 2) i) (λρ S=>leave ((λρ=>toS ((gh (gq 1) gk) ρ) λq=>.ex a.NoText ["row"] q) (iO ρ)) S) j5) rest (gz S0.length::y::ig (tS t)::ρ)<|gu S0 a T p k b) (bif cs.any (gD t)then P else .no):=by
  subst n;obtain⟨d,rfl⟩:=j;have f:=aew t c l m;cases e:(c.map gj).any (gD t)with
  |true=>rw[e]at f;(repeat(first|walk_at "zw"|simp only[h,f]));exact o
  |false=>rw[e]at f;(repeat(first|walk_at "zw"|simp only[h,f]));exact⟨_,rfl⟩
def Ug{A rest:gZ}(d:gj s=c)(h:Rt S0 a T (A (gz S0.length::ρ)<|gu S0 a T p k b) P)(f:Rt S0 a T (rest (gz S0.length::ρ)<|gu S0 a T p k b) Q):
    Rt S0 a T (gG (jg (j6 tB<|z2 ky (hY a.Tokens "ahead" (Za a) [] (zV 0)<|gx (zD<|gq 1) gA)<|zD<|gs s) A j5) rest (gz S0.length::ρ)<|gu S0 a T p k b) (bif gD (nx (T.drop p).tail) c then Q else P):=by
 subst d;cases e:gD (nx (T.drop p).tail) (gj s)with
 |true=>simp only[i9,oO,qA,qz,O0];(repeat(first|walk_at "zw"|simp only[e]));exact f
 |false=>simp only[i9,oO,qA,qz,O0];(repeat(first|walk_at "zw"|simp only[e]));exact h.seq
def adE(e):(dA gY<|gh (gs "back")<|gh (gs "on")<|gh (gs "ago")<|gh (gs "until") gk) e=.ok (.tup<|([Str.ofString "back",Str.ofString "on",Str.ofString "ago",Str.ofString "until"]:gi gp).map D.str):=by rfl
def Oq(x y e):(dA gY<|gh (gs x)<|gh (gs y) gk) e=.ok (.tup<|([x,y]:gi gp).map D.str):=by rfl
def YG(O:ke T):PyData.strOk (gm<|nx<|T.drop p)=true:=by
 cases h:T.drop p with
 |nil=>decide+kernel
 |cons t r=>exact O.s t (mem_of h)
def ac5(O:ke T){j m l:gw}(q:∀t∈T,j [tS t,.int 1,.int 9]=mu a (kB t 1 9))(C:∀t∈T,m [tS t]=rX a (gm t))(z:∀t∈T,l [tS t]=outF a (o7 t)){G}(i:jB S0 a T F G):
    jB S0 a T (λn S=>g7<|D4 a j m l (Za a) F (Zb a) (Zt a) S.length (ij 2 n) S) (rY G):=by
 intro p k b;refine Rt.fin ?_;unfold D4 rY;refine DU (by decide) (FU i) ?_;refine uP ?_;refine Ui O λw r h=>?_;have f:=mem_of h;refine DR (by decide) ⟨_,rfl,by walk_at "zw"⟩ ?_;refine Ue adE (O.s w f) (by decide+kernel) (by decide) ?_ ?_
 ·unfold tk;cases c:T.drop (p+1)with
  |nil=>simp only[qy,mw,lI,nc,vP,vO,vN,o6,lj,kr,m8];rw[qW c];exact⟨_,rfl⟩
  |cons t o=>
   simp only[qy,mw,lI,nc,vP,vO,vN,o6,lj,kr,m8];rw[qV O c];have e:=q t (mem_of c);unfold opt;cases d:kB t 1 9 with
   |none=>rw[d]at e;unfold mu at e;(repeat(first|walk_at "zw"|simp only[e]));exact⟨_,rfl⟩
   |some v=>rw[d]at e;unfold mu at e;(repeat(first|walk_at "zw"|simp only[e]));exact⟨_,pJ c,rfl⟩
 refine DR (by decide) ?_ ?_
 ·unfold tk;cases c:T.drop (p+1)with
  |nil=>simp only[qy,mw,lI,nc,lM,lj,kr,m8];rw[qW c];exact⟨_,rfl⟩
  |cons t o=>
   simp only[qy,mw,lI,nc,lM,lj,kr,m8];rw[qV O c];have e:=C t (mem_of c);unfold rX at e;rw[lL]at e;try dsimp only
   cases d:TR.ki t with
   |false=>rw[d,ao<|by simp]at e;(repeat(first|walk_at "zw"|simp only[e]));exact⟨_,rfl⟩
   |true=>rw[d,af rfl]at e;(repeat(first|walk_at "zw"|simp only[e]));exact⟨_,pJ c,rfl⟩
 refine DR (by decide) (N0 i rfl) ?_;have e:=z w f;unfold opt;cases d:o7 w with
 |none=>rw[d]at e;unfold outF at e;(repeat(first|walk_at "zw"|simp only[e]));exact⟨_,rfl⟩
 |some v=>rw[d]at e;unfold outF at e;(repeat(first|walk_at "zw"|simp only[e]));exact⟨_,rfl,rfl⟩
def ac3(O:ke T){c:gw}(j:∀t∈T,c [tS t]=outF a (o7 t)){G}(d:jB S0 a T F G):
    jB S0 a T (λi S=>g7<|zv a c (Za a) F (Zt a) (Ze a) (Zb a) S.length (ij 2 i) S) (qY G):=by
 intro p k b;refine Rt.fin ?_;show Rt S0 a T (zv a c (Za a) F (Zt a) (Ze a) (Zb a) _ [gz S0.length,none]<|gu S0 a T p k b) _;unfold zv qY;refine Ug (by decide) (FU d) ?_;unfold tk;cases h:T.drop p with
 |nil=>rw[i9];simp only[pT,mw,lI,m8];rw[qW h];exact⟨_,rfl⟩
 |cons t r=>
  rw[i9];simp only[pT,mw,lI,m8];rw[qV O h];have e:=j t (mem_of h);unfold opt;cases f:o7 t with
  |none=>rw[f]at e;unfold outF at e;simp only[kr,l8,vL,e,vS,vM,vR,vQ];exact⟨_,rfl⟩
  |some v=>rw[f]at e;unfold outF at e;simp only[kr,l8,vL,e,lj,oN,mO];rw[<-pJ h];refine uR O (by decide) ?_;refine uP ?_;exact NZ d rfl rfl
def Gs{R}:lP (m4 (gG (jD f) B ρ S) K) R=gG (jD f) (λρ S=>lP (m4 (B ρ S) K) R) ρ S:=by rw[i9,i9,ph];cases f ρ S<;>rfl
def aeQ{R y}:lP (m4 (gG (iy 2 f) B (x::y::z::ρ) S) K) R=gG (iy 2 f) (λρ S=>lP (m4 (B ρ S) K) R) (x::y::z::ρ) S:=by rw[i9,i9,rf];cases f (x::y::z::ρ) S<;>rfl
def OM{R y}:lP (m4 (iy 1 f (x::y::ρ) S) K) R=gG (iy 1 f) (λρ S=>lP (K ρ S) R) (x::y::ρ) S:=by rw[i9,pT];cases f (x::y::ρ) S<;>rfl
def KA{G}(c:jB S0 a T F G){f:D->PF}{x y:hP}{d0 d1}(j:x (iO<|gz S0.length::y0::ρ)=.ok d0)(i:y (iO<|gz S0.length::y0::ρ)=.ok d1){rest:gZ}
 (H:∀d p k b,Rt S0 a T (rest (gz S0.length::ig (.tup [d0,d1,d])::ρ)<|gu S0 a T p k b)<|f d (T.drop p) k b):
   Rt S0 a T (gG (iy 1<|zF gY<|gx (zD x)<|gx (zD y)<|gx (zZ F<|gx (zV 0) gA) gA) rest (gz S0.length::y0::ρ)<|gu S0 a T p k b) (jV (G (T.drop p) k b) f):=by
  have h:=c p k b;simp only[i9,pT,mw,nc,j,i,lj,rl,lI,rj,l8,kr];unfold jV;cases e:G (T.drop p) k b with
  |bad=>trivial
  |no=>rw[e]at h;obtain⟨S,h⟩:=h;rw[h];exact⟨_,rfl⟩
  |ok d r n o=>rw[e]at h;obtain⟨m,l,h⟩:=h;rw[h];subst l;exact H _ _ _ _
theorem LC(O:ke T){G}(c:jB S0 a T F G):∀n d x p k b,
 Rt S0 a T (lP (mx (j6 tB<|z2 i7 (hY a.Tokens "ahead" (Za a) [.int 0] (zV 0) gA)<|zD<|dA gY<|gh (gs "+")<|gh (gs "-") gk) (Ca a F (Za a) (Zt a)<|Zb a) n [gz S0.length,ig d,x]<|gu S0 a T p k b)<|jE<|zD<|dV 1) (qu G n d (T.drop p) k b)
 |0,_,_,_,_,_=>trivial
 |n+1,d,x,p,k,b=>by
  have f:=OB (nx<|T.drop p) [Str.ofString "+",Str.ofString "-"] (YG O) (by decide+kernel);rw[show([Str.ofString "+",Str.ofString "-"]:gi gp).map gj=[[43],[45]]by decide]at f;unfold mx qu;simp only[qA,qz,tR,nc,Oq,kr,lj,f,q4,oN];cases e:[[43],[45]].any (gD<|nx<|T.drop p)with
  |false=>
   rw[ao<|by simp];cases x with
   |none=>exact⟨_,rfl,by walk_at "zw"⟩
   |some x=>cases x<;>exact⟨_,rfl,by walk_at "zw"⟩
  |true=>
   rw[af rfl,bB];unfold Ca;rw[aeQ];refine KC O λt r h=>?_;try dsimp only
   rw[Gs];refine uP ?_;try dsimp only
   rw[OM];refine KA c rfl rfl λe p k b=>?_;exact LC O c n _ _ p k b
def ac6(O:ke T){G}(c:jB S0 a T F G):jB S0 a T (λf S=>g7<|D6 a F (Za a) (Zt a) (Zb a) S.length (ij 3 f) S) (vh G):=by intro p k b;refine Rt.fin ?_;unfold D6 vh;refine sW c λd p k b=>?_;exact LC O c 100 d none p k b
def acZ(O:ke T){G}(c:jB S0 a T F G):jB S0 a T (λf S=>g7<|DZ a (Zb a) F (Zt a) S.length (ij 3 f) S) (vg G):=by intro p k b;refine Rt.fin ?_;unfold DZ vg;refine uP ?_;refine sW c λd p k b=>?_;refine KC O λt r h=>?_;refine Uh (Oq _ _) (O.s t<|mem_of h) (by decide+kernel) (by decide) ?_ ⟨_,rfl⟩;exact NZ c rfl rfl
theorem EC(O:ke T)(f:gj s=c){G}(h:jB S0 a T F G):∀n d p k b,
 Rt S0 a T (lP (mx (j6 tB<|z2 gW (hY a.Tokens "ahead" (Za a) [.int 0] (zV 0) gA)<|zD<|gs s) (gG (jD<|hY a.Tokens "expect" (Ze a) [] (zV 0)<|gx (zD<|gs s) gA)<|gG (jD<|hY a.Tokens "begin_part" (Zb a) [] (zV 0) gA)<|iy 1<|zF gY<|gx (zD<|gs s)<|gx (zD<|dV 1)<|gx (zZ F<|gx (zV 0) gA) gA) n [gz S0.length,ig d]<|gu S0 a T p k b)<|jE<|zD<|dV 1) (l4 c s G n d (T.drop p) k b)
 |0,_,_,_,_=>trivial
 |n+1,d,p,k,b=>by
  unfold mx l4;simp only[qA,qz,tR,nc,lM,kr,lj,x8,f,q4,oN];cases e:gD (nx<|T.drop p) c with
  |false=>rw[ao<|by simp];exact⟨_,rfl,by walk_at "zw"⟩
  |true=>
   rw[af rfl,bB];rw[Gs];refine uR O f ?_;try dsimp only
   rw[Gs];refine uP ?_;try dsimp only
   rw[OM];refine KA h rfl rfl λe p k b=>?_;exact EC O f h n _ p k b
def acX(O:ke T){G}(c:jB S0 a T F G):jB S0 a T (λf S=>g7<|DV a F (Za a) (Ze a) (Zb a) S.length (ij 2 f) S) (o5 [97,110,100] "and" G):=by intro p k b;refine Rt.fin ?_;unfold DV o5 Iy;refine sW c λd p k b=>?_;exact EC O (by decide) c 100 d p k b
def ac2(O:ke T){G}(c:jB S0 a T F G):jB S0 a T (λf S=>g7<|D3 a F (Za a) (Ze a) (Zb a) S.length (ij 2 f) S) (o5 [111,114] "or" G):=by intro p k b;refine Rt.fin ?_;unfold D3 o5 Iz;refine sW c λd p k b=>?_;exact EC O (by decide) c 100 d p k b
def ac1(O:ke T)(h:jB S0 a T Fn Gn)(f:jB S0 a T Fo Go)(i:jB S0 a T Fc Gc):jB S0 a T (λc S=>g7<|D2 a (Za a) (Ze a) (Zb a) Fn (Zn a) Fo (Zl a) Fc S.length (ij 2 c) S) (tA Gn Go Gc):=by
 intro p k b;refine Rt.fin ?_;unfold D2 tA;refine DU (by decide) ?_ ?_
 ·refine uR O (by decide) ?_;refine uP ?_;exact N0 h rfl
 refine DU (by decide) ?_ ?_
 ·refine L9 O (by decide) ?_;refine sW f λd p k b=>?_;exact Kz O (by decide)
 exact FU i
def s_end(O:ke T){G}(f:jB S0 a T F G):jB S0 a T (λc S=>g7<|D7 a F (Zx a) S.length (ij 2 c) S) (λr k b=>pEnd<|G r k b):=by
 intro p k b;refine Rt.fin ?_;unfold D7 pEnd;refine sW f λd p k b=>?_;rw[i9,ph,qx (by decide) l8];show Rt S0 a T (lP (toZ (Zx a [.loc S0.length]<|gu S0 a T p k b) _) _) _;rw[L8];cases h:T.drop p with
 |nil=>exact⟨p,h,rfl⟩
 |cons t r=>have:gD (nx<|t::r) []=false:=eq_nil (O.n t<|mem_of h);rw[this];exact⟨_,rfl⟩
def Kc{fs n}{f v:iM}(d:v ρ S=.ok z S)(h:f ρ S=.ok (.loc n) S)(j:S[n]?=some (.ob C fs))(i:fs.length<1000):rn C f x v ρ S=.nx ρ (S.set n<|.ob C<|nF x z fs):=by
 unfold rn;rw[d];show toZ (f ρ S) _=_;rw[h]
 show(match S[n]? with
  |some (.ob c fs)=>if c=C/\fs.length<1000 then jK.nx ρ (S.set n<|.ob c<|nF x z fs)else .bad
  |_=>.bad)=_
 simp_all
def Xa{d:gw}(h:d [.str s]=.ok (.lst<|T.map tS))(c):g7 (uS a d c [gz S0.length,ig<|.str s]<|S0++[.ob a.Tokens []])=.ok (.d .non) (gu S0 a T 0 0 0):=by
 unfold uS;have f0:∀(f:gp) (v:D) (fs:gi<|gp×Z) (ρ:hU),fs.length<1000->rn a.Tokens (zV 0) f (zD<|dC v) (gz S0.length::ρ) (S0++[.ob a.Tokens fs])=.nx (gz S0.length::ρ) (S0++[.ob a.Tokens<|nF f (.d v) fs]):=λf v fs ρ i=>by rw[Kc (n:=S0.length) rfl rfl sY i,Gb]
 have f1:rn a.Tokens (zV 0) "tokens" (zD<|dA d<|gh (dV 1) gk) [gz S0.length,ig<|.str s] (S0++[.ob a.Tokens []])=.nx [gz S0.length,ig<|.str s] (S0++[.ob a.Tokens<|nF "tokens" (.d<|.lst<|T.map tS) []]):=by rw[Kc (n:=S0.length) (z:=.d<|.lst<|T.map tS) (fs:=[]) ?_ rfl sY (by decide),Gb];simp only[nc,vP,vO,vN,mK,jZ,kF,o6,gM,h,lj,kr]
 rw[i9,f1,mO,i9,f0 _ _ _ _<|bP rfl,mO,i9,f0 _ _ _ _<|bP rfl,mO,f0 _ _ _ _<|bP rfl,AX];rfl
def Xk{Fp:gw}(h:Fp [.str s]=.ok (.lst<|T.map tS)){fs:mE}(hf:fs ρ S0=.ok [.d<|.str s] S0):vX a.Tokens (λf S=>g7<|uS a Fp S.length (ij 2 f) S) fs ρ S0=.ok (.loc S0.length) (gu S0 a T 0 0 0):=by
 unfold vX;rw[hf]
 show(match g7 (uS a Fp (S0++[Cell.ob a.Tokens []]).length [gz S0.length,ig (.str s)] (S0++[.ob a.Tokens []]))with
  |.ok (.d .non) d=>RX.ok (Z.loc S0.length) d
  |.ex c ns ds d=>.ex c ns ds d
  |_=>.bad)=_
 rw[Xa h]
end
variable{a:Ad}
def XA{m:gw}(r:∀z:gp,z.length<=1000->m [.str z]=outF a (n6<|gj z))(t:Tk)(o:t.length<=1000):gB (D5 a m<|gJ 2 [tS t])=outF a (o7 t):=by
 have h:=r (gm t) (by rw[rO];exact o);rw[lL]at h;unfold D5 o7;cases e:n6 t with
 |none=>
  rw[e]at h;unfold outF at h;iterate 4 (walk_at "d";try simp only[h])
  rfl
 |some v=>
  obtain⟨p,q⟩:=v;rw[e]at h;unfold outF at h;dsimp only at h;have i:gK (.tup [D.int p,D.int q]) (.int 0)=.ok (.int p):=rfl;have f:gK (.tup [D.int p,D.int q]) (.int 1)=.ok (.int q):=rfl;generalize n:D.tup [D.int p,D.int q]=w at h i f;have j:(if p<0 then -p else p)=((p.natAbs:Nat):Int):=by split<;>grind
  by_cases l:p.natAbs<1000000000
  ·have c:¬(1000000000:Int)<=((p.natAbs:Nat):Int):=by lia
   by_cases k:q<1000000
   ·have d:¬(1000000:Int)<=q:=by simp_all
    iterate 7 (walk_at "d";try simp only[h,i,f,j,c,d,bz])
    rw[af ⟨l,k⟩];unfold outF;rw[<-n]
   ·have d:(1000000:Int)<=q:=by simp_all
    iterate 7 (walk_at "d";try simp only[h,i,f,j,c,d,bz,bD])
    rw[ao λz=>k z.2];rfl
  ·have c:(1000000000:Int)<=((p.natAbs:Nat):Int):=by lia
   iterate 7 (walk_at "d";try simp only[h,i,f,j,c,bD])
   rw[ao λz=>l z.1];rfl
def acP(c):Txt.contains (Str.ofString "abcdefghijklmnopqrstuvwxyz0123456789/") ⟨#[c]⟩=jz c:=by
 rw[Ec];have e:gj (Str.ofString "abcdefghijklmnopqrstuvwxyz0123456789/")=[97,98,99,100,101,102,103,104,105,106,107,108,109,110,111,112,113,114,115,116,117,118,119,120,121,122,48,49,50,51,52,53,54,55,56,57,47]:=by decide
 rw[e];exact TM.ER (by decide+kernel) (by decide+kernel) (λc h=>by rw[cT];unfold jz;simp only[ne_eq,ba,aq,bZ];lia) c
def iF(c:Nat):gi Nat:=bif jz c then[c]else[32,c,32]
def aba(c):(nR (b1 tB<|d2 nB (dV 0)<|dC<|.str "abcdefghijklmnopqrstuvwxyz0123456789/") (dV 0)<|(g8 (dC<|.str " ")<|g8 (d1 iI<|dV 0)<|g8 (dC<|.str " ") kn) Str.empty) [.sh<|.str ⟨#[c]⟩]=.ok (tS<|iF c):=by
 have h:=acP c;unfold iF;cases e:jz c with
 |true=>
  rw[e]at h;iterate 3 (walk_at "d";try simp only[h])
  try rfl
 |false=>
  rw[e]at h;have d:b1 tB (d2 nB (dV 0)<|dC<|.str "abcdefghijklmnopqrstuvwxyz0123456789/") [.sh<|.str ⟨#[c]⟩]=.ok false:=by rw[tG,oF,oG,gM,lM,gM,Nr,h];rfl
  rw[Nm,d,gM,ao<|by simp];rfl
theorem Jj:∀l:gi gp,gj (Str.join (Str.ofString "") l)=(l.map gj).flatten
 |[]=>rfl
 |[p]=>by simp[Str.join]
 |p::q::r=>by show gj (p++Str.ofString ""++Str.join (Str.ofString "") (q::r))=_;rw[mV,mV,Jj<|q::r,wH,aP];rfl
theorem strs_map{d:Type}(f:d->Tk):∀l:gi d,q7 (l.map λc=>tS<|f c)=some (l.map λc=>gm<|f c)
 |[]=>rfl
 |x::r=>by show(q7<|r.map λc=>tS<|f c).map (gm (f x):: ·)=_;rw[strs_map f r];rfl
theorem Jr(mR)(c:∀d,gV 0 d mR=some [.sh d]):∀L:gi Tk,kR (gV 0) (b1 tB<|d2 ky (dV 0)<|dC<|.str "") (dV 0) mR (L.map tS)=some ((L.filter λt=>!t.isEmpty).map tS)
 |[]=>rfl
 |t::r=>by
  have e:(b1 tB<|d2 ky (dV 0)<|dC<|.str "") [.sh<|tS t]=.ok (!t.isEmpty):=by cases t<;>rfl
  rw[aF];unfold kR;rw[c,dH,e,Jr mR c r];cases t<;>rfl
theorem LI:∀d:gi Nat,(d.map λc=>(gm<|iF c).length).sum<=3*d.length
 |[]=>by simp
 |c::r=>by
  have:=LI r;have l:(gm<|iF c).length<=3:=by rw[rO];unfold iF;cases jz c<;>simp
  rw[aF,List.sum_cons,ag]
  lia
theorem zX:∀d:gi Nat,(d.flatMap iF).length<=3*d.length
 |[]=>by simp
 |c::r=>by
  have:=zX r;have l:(iF c).length<=3:=by unfold iF;cases jz c<;>simp
  rw[fq,aa,ag]
  lia
theorem ED(c):∀l:gi Nat,(gO c l).length<=l.length+1
 |[]=>by simp[gO]
 |x::r=>by
  have:=ED c r;by_cases e:x=c;·subst e;rw[qw,ag,ag];walk_at "l"
  ·cases q:gO c r with
   |nil=>exact absurd q (vC c r)
   |cons p d=>rw[q]at this;rw[q5 e q];simp only[ag]at this⊢;walk_at "l"
theorem z8:∀{l t},t∈gO c l->(∀x∈t,x∈l)/\t.length<=l.length
 |[],t,h=>by rw[show gO c []=[[]]from rfl,aS]at h;subst h;simp
 |x::r,t,h=>by
  by_cases e:x=c
  ·subst e;rw[qw,aT]at h;rcases h with rfl|h;·simp
   ·obtain⟨f,j⟩:=z8 h;exact⟨λy d=>aQ _ (f y d),by rw[ag];walk_at "l"⟩
  ·cases q:gO c r with
   |nil=>exact absurd q (vC c r)
   |cons p k=>
    rw[q5 e q,aT]at h;have i:=z8 (c:=c) (l:=r) (t:=p) (by rw[q];exact bf ..);rcases h with rfl|h
    ·refine⟨λy d=>?_,by rw[ag,ag];simp_all⟩;rcases aT.mp d with rfl|d;·exact bf ..
     ·exact aQ _ (i.1 y d)
    ·obtain⟨f,j⟩:=z8 (c:=c) (l:=r) (t:=t) (by rw[q];exact aQ _ h);exact⟨λy d=>aQ _ (f y d),by rw[ag];walk_at "l"⟩
variable{a:Ad}
def Wo{l:iH}(h:(l.map (·.length)).sum<=100000):JoinOk (Str.ofString "") l=true:=fN (by
 have:(Str.ofString "").length=0:=by decide
 rw[this];walk_at "l")
def abZ{z:gp}(c:z.length<=100000):oH (.str z) [.str " "]=.ok (.lst<|(Txt.split z ⟨#[32]⟩).map D.str):=by show(if((Str.ofString " ").length==0)=false/\z.length+2<=sizeLine then R.ok (D.lst<|(Txt.split z<|Str.ofString " ").map D.str)else .bad)=_;rw[af ⟨by decide,size_of<|by lia⟩];rfl
def XB(f:hZ)(r:f.length<=30000):gB (Dq a<|gJ 2 [.str<|gm f])=.ok (.lst<|(gI f).map tS):=by
 have i:kR (gV 0) (λ_=>.ok true) (nR (b1 tB<|d2 nB (dV 0)<|gs "abcdefghijklmnopqrstuvwxyz0123456789/") (dV 0)<|(g8 (gs " ")<|g8 (d1 iI<|dV 0)<|g8 (gs " ") kn) Str.empty) (lD 1 [] [iW<|gm f,.no]) (signs<|gm f)=some (f.map λc=>tS<|iF c):=by
  have:=rJ (a:=gV 0) (c:=λ_=>.ok true) (e:=nR (b1 tB (d2 nB (dV 0) (gs "abcdefghijklmnopqrstuvwxyz0123456789/"))) (dV 0) ((g8 (gs " ") (g8 (d1 iI (dV 0)) (g8 (gs " ") kn))) Str.empty)) (mR:=lD 1 [] [iW (gm f),.no]) (λd=>[.sh d]) (λd=>match d with|.str ⟨y⟩=>tS (iF (y.toList.headD 0))|_=>.non) (signs (gm f)) λd q=>by obtain⟨c,_,rfl⟩:=bJ.mp q;exact⟨rfl,rfl,aba c⟩
  rw[this];unfold signs;rw[bu]
  congr 1
 have o:(signs<|gm f).length<=sizeLine:=by unfold signs;rw[ae];exact size_of (show(gj<|gm f).length<=_ by rw[lL];walk_at "l")
 have p:k4 (.str "") [.lst<|f.map λc=>tS<|iF c]=.ok (.str<|gm<|f.flatMap iF):=by
  show(match q7 (f.map λc=>tS (iF c))with
   |some j=>if JoinOk "" j=true then R.ok (D.str<|Txt.join "" j)else .bad
   |none=>.bad)=_
  rw[strs_map];dsimp only;rw[af<|Wo<|by rw[bu];exact av (LI f) (by lia)]
  congr 2
  refine ext ?_;rw[lL];show gj (Builtin.Str.glued _ _)=_;rw[dm,Jj,bu];rfl
 have n:(gm<|f.flatMap iF).length<=100000:=by rw[rO];exact av (zX f) (by lia)
 have k:=abZ n;have l:(Txt.split (gm<|f.flatMap iF) ⟨#[32]⟩).map D.str=(gO 32<|f.flatMap iF).map tS:=by have:=F8 (gm<|f.flatMap iF) 32;rw[lL]at this;rw[<-this,bu];refine dI λz _=>?_;show D.str z=D.str (gm<|gj z);rw[mq]
 rw[l]at k;have h:=Jr (lD 1 [] [iW<|gm f,iD<|f.map λc=>tS<|iF c]) (λ_=>rfl) (gO 32<|f.flatMap iF);have m:((gO 32<|f.flatMap iF).map tS).length<=sizeLine:=by rw[ae];have:=ED 32 (f.flatMap iF);have:=zX f;exact size_of (by lia)
 unfold Dq;iterate 7 (walk_at "d";try simp only[af o,i,p,k,af m,h])
 try rfl
def OJ{f:hZ}(q:f.length<=30000)(n:∀c∈f,c<=127):ke (gI f):=by
 have m:∀c∈f.flatMap iF,c<=127:=λc h=>by obtain⟨d,l,h⟩:=List.mem_flatMap.mp h;have:=n d l;unfold iF at h;cases e:jz d<;>rw[e]at h<;>simp at h<;>lia
 have p:=zX f;have j:∀t∈gI f,t∈gO 32 (f.flatMap iF)/\t≠[]:=λt i=>by have:=dN.mp (show t∈(gO 32<|f.flatMap iF).filter λt=>!t.isEmpty from i);simp_all
 refine⟨λt i=>(j t i).2,λt i=>?_,?_⟩
 ·unfold PyData.strOk;rw[<-Array.all_toList];refine aZ.mpr λc h=>?_;have:=m c ((z8 (j t i).1).1 c h);simp only[aA];walk_at "l"
 ·have k:=List.length_filter_le (λt:Tk=>!t.isEmpty) (gO 32<|f.flatMap iF);have o:=ED 32 (f.flatMap iF);exact av k (by lia)
def aeG{w}:∀{l:hZ},w∈gO 32 (l.flatMap iF)->w.length<=l.length+1:=by
 have f:∀l:gi Nat,((gO 32<|l.flatMap iF).headD []).length<=l.length+1/\∀w∈gO 32 (l.flatMap iF),w.length<=l.length+1:=by
  intro l;induction l with
  |nil=>exact⟨by simp[gO],λw d=>by simp[gO]at d;subst d;simp⟩
  |cons c r k=>
   obtain⟨n,i⟩:=k;rw[fq];unfold iF;cases m:jz c with
   |true=>
    show((gO 32<|c::r.flatMap iF).headD []).length<=_/\_;by_cases e:c=32;·subst e;exact absurd m (by decide)
    ·cases q:gO 32 (r.flatMap iF)with
     |nil=>exact absurd q (vC 32 _)
     |cons p j=>
      rw[q]at n i;have v:gO 32 (c::r.flatMap iF)=(c::p)::j:=q5 e q;show((gO 32<|c::r.flatMap iF).headD []).length<=_/\∀w∈gO 32 (c::r.flatMap iF),_
      grind
   |false=>
    have o:gO 32 ([32,c,32]++r.flatMap iF)=[]::gO 32 (c::32::r.flatMap iF):=qw ..;show((gO 32<|[32,c,32]++r.flatMap iF).headD []).length<=_/\∀w∈gO 32 ([32,c,32]++r.flatMap iF),_;rw[o];refine⟨by simp,λw d=>?_⟩;rcases aT.mp d with rfl|d;·simp
    ·by_cases e:c=32
     ·subst e;rw[qw,qw]at d;rcases aT.mp d with rfl|d;·simp
      ·rcases aT.mp d with rfl|d;·simp
       ·have:=i w d;rw[ag];walk_at "l"
     ·have q:gO 32 (32::r.flatMap iF)=[]::gO 32 (r.flatMap iF):=qw ..;rw[q5 e q]at d;rcases aT.mp d with rfl|d;·simp
      ·have:=i w d;rw[ag];walk_at "l"
 exact λ{l} h=>(f l).2 w h
end WR
namespace WC
open PySem L2 P2 WP TM T2 PySem.NumText
variable{a:Ad}
def Mh(x y):gm x++gm y=gm (x++y):=by apply TM.ext;rw[mV];rfl
def xu(x):(gm x).length=x.length:=by rw[la];rfl
def Mi(i:Int):Str.ofString (toString i)=gm (i4 i):=by apply TM.ext;rw[y7];rfl
def fits{n}(h:n<=100000):n<=sizeLine:=size_of (by walk_at "l")
def jU{x y:hZ}(d:x.length<=50000)(c:y.length<=50000):gv (.str<|gm x) (.str<|gm y)=.ok (.str<|gm<|x++y):=by show(if(gm x).length+(gm y).length<=sizeLine then R.ok (D.str<|gm x++gm y)else .bad)=_;rw[xu,xu,af<|fits<|by lia,Mh]
def qj{x:hZ}(h:x.length<=50000):iI (.str<|gm x)=.ok (.str<|gm x):=by show(if(gm x).length<=sizeLine then R.ok (D.str<|gm x)else .bad)=_;rw[xu,af<|fits<|by walk_at "l"]
def C8{i:Int}(h:i.natAbs<10^400):iI (.int i)=.ok (.str<|gm<|i4 i):=by rw[FD h,Mi]
def x5{i:Int}(h:i.natAbs<10^400):lQ [.int i]=.ok (.str<|gm<|i4 i):=by rw[FJ h,Mi]
def jC{f:hP}{x:hZ}{y}(h:f ρ=.ok (.str<|gm y))(c:x.length+y.length<=100000):g8 f fj (gm x) ρ=fj (gm<|x++y) ρ:=by show(f ρ).bind (λz=>match z with|.str y=>if(gm x++y).length<=sizeLine then fj (gm x++y) ρ else .bad|_=>.bad)=_;rw[h];show(if(gm x++gm y).length<=sizeLine then fj (gm x++gm y) ρ else .bad)=_;rw[Mh,xu,aa,af<|fits c]
def jN{x:hZ}(c:x.length<=100000):kn (gm x) ρ=.ok (.str<|gm x):=by show(if(gm x).length<=sizeLine then R.ok (D.str<|gm x)else .bad)=_;rw[xu,af<|fits c]
def em:Str.empty=gm []:=rfl
def xo{x y z:hZ}(j:x.length<=30000)(i:y.length<=100)(h:z.length<=30000):gB (zl a<|gJ 3 [.str<|gm x,.str<|gm y,.str<|gm z])=.ok (.str<|gm<|x++32::(y++32::z)):=by have s:(gs<|Str.ofString " ") [iW<|gm x,iW<|gm y,iW<|gm z]=.ok (.str<|gm [32]):=rfl;have f:(d1 iI<|dV 0) [iW<|gm x,iW<|gm y,iW<|gm z]=.ok (.str<|gm x):=qj (by walk_at "l");have d:(d1 iI<|dV 1) [iW<|gm x,iW<|gm y,iW<|gm z]=.ok (.str<|gm y):=qj (by walk_at "l");have c:(d1 iI<|dV 2) [iW<|gm x,iW<|gm y,iW<|gm z]=.ok (.str<|gm z):=qj (by walk_at "l");show gB (toS ((g8 (d1 iI<|dV 0)<|g8 (gs " ")<|g8 (d1 iI<|dV 1)<|g8 (gs " ")<|g8 (d1 iI<|dV 2) kn) (gm []) [iW<|gm x,iW<|gm y,iW<|gm z]) RT.rt)=_;rw[jC f<|by simp;walk_at "l",jC s<|by simp;walk_at "l",jC d<|by simp;lia,jC s<|by simp;lia,jC c<|by simp;lia,jN<|by simp;lia];show R.ok (D.str _)=_;simp
abbrev pr(p q:Int):D:=.tup [.int p,.int q]
inductive Tm where
 |num(p q:Int)|here|kM(w:Nat)(n:Int)|at(m:List Nat)|bin(s:Bool)(x y:Tm)|times(p q:Int)(x:Tm)|abs(x:Tm)
noncomputable def wd(w:Nat):gp:=if w=0 then"back" else if w=1 then"on" else if w=2 then"ago" else"until"
def sg(s:gL):gp:=if s=true then"+" else"-"
noncomputable def Tm.k:Tm->gp
 |.num _ _=>"num"
 |.here=>"here"
 |.kM w _=>wd w
 |.at _=>"at"
 |.bin s _ _=>sg s
 |.times _ _ _=>"times"
 |.abs _=>"abs"
noncomputable def Tm.d:Tm->D
 |.num p q=>.tup [.str "num",pr p q]
 |.here=>.tup [.str "here"]
 |.kM w n=>.tup [.str<|wd w,.int n]
 |.at m=>.tup [.str "at",.str<|gm m]
 |.bin s x y=>.tup [.str<|sg s,x.d,y.d]
 |.times p q x=>.tup [.str "times",pr p q,x.d]
 |.abs x=>.tup [.str "abs",x.d]
def Tm.rk:Tm->Int
 |.bin _ _ _=>1
 |.times _ _ _=>2
 |_=>3
def brk(o c:Nat)(b:gL)(x:hZ):gi Nat:=if b=true then o::(x++[c])else x
noncomputable def Tm.tx:Tm->gi Nat
 |.num p q=>iw p q
 |.here=>gj "here"
 |.kM w n=>gj (wd w)++32::i4 n
 |.at m=>gj "at"++32::m
 |.bin s x y=>x.tx++32::(gj (sg s)++32::brk 40 41 (decide<|y.rk<2) y.tx)
 |.times p q x=>iw p q++32::([42]++32::brk 40 41 (decide<|x.rk<3) x.tx)
 |.abs x=>[97,98,115,40]++(x.tx++[41])
def Tm.sz:Tm->Nat
 |.bin _ x y=>x.sz+y.sz+1
 |.times _ _ x=>x.sz+1
 |.abs x=>x.sz+1
 |_=>1
structure Fq(p q:Int):Prop where
 nn:0<=p
 low:FM.sG p q
 p:p.natAbs<10^9
 q:0<q/\q.natAbs<10^6
def Tm.Ok:Tm->Prop
 |.num p q=>Fq p q
 |.kM _ n=>1<=n/\n<=9
 |.at m=>m.length<=8/\m≠[]/\(∀c∈m,97<=c/\c<=122)/\TR.ki m=true
 |.bin _ x y=>x.Ok/\y.Ok
 |.times p q x=>Fq p q/\x.Ok
 |.abs x=>x.Ok
 |.here=>True
def tr{i:Int}(h:i.natAbs<10^9):(i4 i).length<=10:=by
 have:=nZ (k:=8) (m:=i.natAbs) h;unfold i4
 grind
def vA{p q:Int}(h:Fq p q):(iw p q).length<=20:=by
 have d:=tr h.p;have c:=nZ (k:=8) (m:=q.natAbs) (ak h.q.2<|by decide);unfold iw
 grind
def GY(w):(gj<|wd w).length<=5:=by
 unfold wd;split;·decide
 ·split;·decide
  ·split<;>decide
def F1(s):(gj<|sg s).length=1:=by cases s<;>decide
def lC(o c b x):(brk o c b x).length<=x.length+2:=by
 unfold brk
 grind
theorem Tm.len:∀{t:Tm},t.Ok->t.tx.length<=40*t.sz
 |.num p q,h=>by have:=vA h;show(iw p q).length<=40*1;walk_at "l"
 |.here,_=>by decide
 |.kM w n,h=>by have d:=GY w;have j:1<=n/\n<=9:=h;have c:=tr (i:=n) (by omega);show(gj (wd w)++32::i4 n).length<=40*1;rw[aa,ag];lia
 |.at m,h=>by have j:m.length<=8:=h.1;show(gj "at"++32::m).length<=40*1;rw[aa,ag,show(gj "at").length=2 by decide];lia
 |.bin s x y,h=>by have d:=Tm.len h.1;have c:=Tm.len h.2;have k:=F1 s;have f:=lC 40 41 (decide<|y.rk<2) y.tx;show(x.tx++32::(gj (sg s)++32::brk 40 41 (decide<|y.rk<2) y.tx)).length<=40*(x.sz+y.sz+1);rw[aa,ag,aa,ag];lia
 |.times p q x,h=>by have d:=vA h.1;have c:=Tm.len h.2;have f:=lC 40 41 (decide<|x.rk<3) x.tx;show(iw p q++32::([42]++32::brk 40 41 (decide<|x.rk<3) x.tx)).length<=40*(x.sz+1);simp only[aa,ag,bj];lia
 |.abs x,h=>by have c:=Tm.len (t:=x) h;show([97,98,115,40]++(x.tx++[41])).length<=40*(x.sz+1);simp;lia
def Tm.pos(t:Tm):1<=t.sz:=by cases t<;>simp[Tm.sz]
def Tm.d0(t:Tm):∃r,t.d=.tup (.str t.k::r):=by cases t<;>exact⟨_,rfl⟩
def Mc{f:gw}{t:Tm}(h:f [t.d]=.ok (.str<|gm t.tx))(o:t.tx.length<=20000)(n:i7 (.str t.k) L=.ok (.bl b)):
    gB (zp a f<|gJ 3 [t.d,L])=.ok (.str<|gm<|brk 40 41 b t.tx):=by
 obtain⟨r,e⟩:=t.d0;rw[e]at h⊢;have d:L2.hI (D.str t.k::r) ((0:Nat):Int)=some (.str t.k):=ud rfl;have m:L2.hI (D.str t.k::r) 0=some (.str t.k):=d;have l:(gs<|Str.ofString "(") [.sh<|.tup<|.str t.k::r,.sh L,iW<|gm t.tx]=.ok (.str<|gm [40]):=rfl;have k:(gs<|Str.ofString ")") [.sh<|.tup<|.str t.k::r,.sh L,iW<|gm t.tx]=.ok (.str<|gm [41]):=rfl;have i:(d1 iI<|dV 2) [.sh<|.tup<|.str t.k::r,.sh L,iW<|gm t.tx]=.ok (.str<|gm t.tx):=qj (by walk_at "l");have c:(P2.b1 tB (d2 i7 (i6 0 0) (dV 1))) [.sh (.tup (.str t.k::r)),.sh L,iW (gm t.tx)]=.ok b:=by iterate 4 (walk_at "d";try simp only[m,n])
 unfold zp;generalize(P2.b1 tB<|d2 i7 (i6 0 0)<|dV 1)=tt at c⊢;have j:((g8 (gs "(")<|g8 (d1 iI<|dV 2)<|g8 (gs ")") kn) Str.empty) [.sh<|.tup<|.str t.k::r,.sh L,iW<|gm t.tx]=.ok (.str<|gm<|40::(t.tx++[41])):=by rw[em,jC l<|by simp,jC i<|by simp;lia,jC k<|by simp;walk_at "l",jN<|by simp;walk_at "l"];rfl
 generalize((g8 (gs "(")<|g8 (d1 iI<|dV 2)<|g8 (gs ")") kn) Str.empty)=jj at j⊢;cases b with
 |_=>iterate 7 (walk_at "d";try simp only[h,c,j]);try rfl
def Pu(a:Ad)(d:gw):gw:=λc=>gB (lX a (λc=>gB<|zp a d<|gJ 3 c) d (λc=>gB<|zl a<|gJ 3 c) (λc=>gB<|zo a<|gJ 3 c)<|gJ 4 c)
theorem Ni:∀c:gi gp,n4 (c.map D.str)=some (c.map PyData.str)
 |[]=>rfl
 |y::c=>by show(vm<|.str y).bind (λp=>(n4<|c.map D.str).map (p:: ·))=_;rw[Ni c];rfl
theorem xf:∀c:gi gp,(∀y∈c,PyData.strOk y=true)->PyData.canLayAll0 (c.map PyData.str)=true
 |[],_=>by simp[PyData.canLayAll0]
 |y::c,h=>by have:=xf c λz d=>h z (.tail _ d);simp[PyData.canLayAll0,PyData.canLay0,this,h y<|.head _]
theorem wy(x):∀c:gi gp,((c.map PyData.str).any λy=>PyData.eqv y<|.str x)=c.any λy=>y==x
 |[]=>rfl
 |y::c=>by rw[aF,bF,bF,wy x c];simp[PyData.eqv]
def UP{x:gp}{c:iH}(f:PyData.strOk x=true)(d:∀y∈c,PyData.strOk y=true):mm (.str x) (c.map D.str)=some (c.any λy=>y==x):=by unfold mm;rw[Ni];show(if(PyData.canLayAll0 (c.map PyData.str)&&PyData.canLay0 (.str x)&&decide ((PyData.str x).depth<=63))=true then some ((c.map PyData.str).any λy=>PyData.eqv y<|.str x)else none)=_;rw[xf c d,wy,af];simp[PyData.canLay0,f,PyData.depth]
def zO{x:gp}{ys:iH}(d:PyData.strOk x=true)(c:∀y∈ys,PyData.strOk y=true):i7 (.str x) (.tup<|ys.map D.str)=.ok (.bl<|ys.any λy=>y==x):=by unfold i7;dsimp only;rw[UP d c]
def k_is(t:Tm):(t.k,t.rk)∈([("+",1),("-",1),("times",2),("num",3),("here",3),("back",3),("on",3),("ago",3),("until",3),("at",3),("abs",3)]:gi<|gp×Int):=by
 cases t with
 |bin s x y=>cases s<;>repeat(first|exact List.Mem.head _|refine List.Mem.tail _ ?_)
 |kM w n=>
  simp only[Tm.k,Tm.rk];unfold wd;split;·simp
  ·split;·simp
   ·split<;>repeat(first|exact List.Mem.head _|refine List.Mem.tail _ ?_)
 |_=>repeat(first|exact List.Mem.head _|refine List.Mem.tail _ ?_)
def Lu(t:Tm):PyData.strOk t.k=true:=by
 have h:=k_is t;have al:∀p∈([("+",1),("-",1),("times",2),("num",3),("here",3),("back",3),("on",3),("ago",3),("until",3),("at",3),("abs",3)]:gi<|gp×Int),PyData.strOk p.1=true:=by decide+kernel
 exact al _ h
def tf(t:Tm):i7 (.str t.k) (.tup [.str "+",.str "-"])=.ok (.bl<|decide<|t.rk<2):=by
 have h:=zO (x:=t.k) (ys:=["+","-"]) (Lu t) (by decide+kernel);have al:∀p∈([("+",1),("-",1),("times",2),("num",3),("here",3),("back",3),("on",3),("ago",3),("until",3),("at",3),("abs",3)]:gi<|gp×Int),((["+","-"]:gi gp).any λy=>y==p.1)=decide (p.2<2):=by decide+kernel
 rw[al _<|k_is t]at h;exact h
def V4(t:Tm):i7 (.str t.k) (.tup [.str "+",.str "-",.str "times"])=.ok (.bl<|decide<|t.rk<3):=by
 have h:=zO (x:=t.k) (ys:=["+","-","times"]) (Lu t) (by decide+kernel);have al:∀p∈([("+",1),("-",1),("times",2),("num",3),("here",3),("back",3),("on",3),("ago",3),("until",3),("at",3),("abs",3)]:gi<|gp×Int),((["+","-","times"]:gi gp).any λy=>y==p.1)=decide (p.2<3):=by decide+kernel
 rw[al _<|k_is t]at h;exact h
noncomputable def Tm.dp:Tm->Nat
 |.bin _ x y=>max x.dp y.dp+1
 |.times _ _ x=>x.dp+1
 |.abs x=>x.dp+1
 |_=>1
def Tm.CV(t:Tm):t.dp<=t.sz:=by
 induction t with
 |bin s x y d c=>show max x.dp y.dp+1<=x.sz+y.sz+1;lia
 |times p q x f=>show x.dp+1<=x.sz+1;walk_at "l"
 |abs x f=>show x.dp+1<=x.sz+1;walk_at "l"
 |_=>exact au _
def zU(t:Tm):∀x:gp,(t.k==x)=false->decide (t.k=x)=false:=λx h=>by apply az;intro w;rw[w]at h;simp at h
variable{Ft l A B:gw}{z:hZ}
def aex{p q:Int}(f:B [pr p q]=.ok (.str<|gm z)):gB (lX a Ft l A B<|gJ 4 [(Tm.num p q).d])=.ok (.str<|gm z):=by
 have k:i7 (.str<|Str.ofString "num") (.tup [.str<|Str.ofString "+",.str<|Str.ofString "-"])=.ok (.bl false):=tf (.num p q);have h:L2.hI [D.str<|Str.ofString "num",pr p q] 0=some (.str<|Str.ofString "num"):=rfl;have d:L2.hI [D.str<|Str.ofString "num",pr p q] 1=some (pr p q):=rfl;have c:2<=sizeLine:=by decide
 have j:decide (Str.ofString "num"=Str.ofString "times")=false:=by decide+kernel
 have i:decide (Str.ofString "num"=Str.ofString "abs")=false:=by decide+kernel
 show gB (lX a Ft l A B<|gJ 4 [.tup [.str<|Str.ofString "num",pr p q]])=_;unfold lX;iterate 9 (walk_at "d";try simp only[h,d,k,j,i,f,af c])
def aev:gB (lX a Ft l A B<|gJ 4 [Tm.here.d])=.ok (.str<|gm<|Tm.here.tx):=by
 have k:i7 (.str<|Str.ofString "here") (.tup [.str<|Str.ofString "+",.str<|Str.ofString "-"])=.ok (.bl false):=tf .here;have d:L2.hI [D.str<|Str.ofString "here"] 0=some (.str<|Str.ofString "here"):=rfl;have c:2<=sizeLine:=by decide
 have i:decide (Str.ofString "here"=Str.ofString "times")=false:=by decide+kernel
 have h:decide (Str.ofString "here"=Str.ofString "abs")=false:=by decide+kernel
 have f:decide (Str.ofString "here"=Str.ofString "num")=false:=by decide+kernel
 show gB (lX a Ft l A B<|gJ 4 [.tup [.str<|Str.ofString "here"]])=_;unfold lX;iterate 9 (walk_at "d";try simp only[d,k,i,h,f,af c])
 rfl
def OC{t:Tm}{y w}(o:t.d=.tup [.str t.k,y])(q:¬t.rk<2)(c:∀x∈(["times","abs","num","here"]:gi gp),(t.k==x)=false)(f:iI y=.ok (.str<|gm w))(I:w.length<=1000):
    gB (lX a Ft l A B<|gJ 4 [t.d])=.ok (.str<|gm<|gj t.k++32::w):=by
 have k:i7 (.str t.k) (.tup [.str<|Str.ofString "+",.str<|Str.ofString "-"])=.ok (.bl<|decide<|t.rk<2):=tf t;rw[az q]at k;have F:decide (t.k=Str.ofString "times")=false:=zU t _ (c _<|by simp);have C:decide (t.k=Str.ofString "abs")=false:=zU t _ (c _<|by simp);have v:decide (t.k=Str.ofString "num")=false:=zU t _ (c _<|by simp);have r:decide (t.k=Str.ofString "here")=false:=zU t _ (c _<|by simp);have G:(gj t.k).length<=10:=by
  have al:∀p∈([("+",1),("-",1),("times",2),("num",3),("here",3),("back",3),("on",3),("ago",3),("until",3),("at",3),("abs",3)]:gi<|gp×Int),(gj p.1).length<=10:=by decide+kernel
  exact al _ (k_is t)
 have mk:t.k=gm (gj t.k):=(mq _).symm;rw[o];generalize t.k=kk at*;have n:L2.hI [D.str kk,y] 0=some (.str kk):=rfl;have m:L2.hI [D.str kk,y] 1=some y:=rfl;have i:2<=sizeLine:=by decide
 have s:∀ρ:Ev,(gs<|Str.ofString " ") ρ=.ok (.str<|gm [32]):=λ_=>rfl;have h:(d1 iI<|dV 1) [.sh<|.tup [.str kk,y],iW kk,.no,.sh y]=.ok (.str<|gm<|gj kk):=by rw[mk];exact qj (by omega)
 have d:(d1 iI<|dV 3) [.sh<|.tup [.str kk,y],iW kk,.no,.sh y]=.ok (.str<|gm w):=f;have j:((g8 (d1 iI<|dV 1)<|g8 (gs " ")<|g8 (d1 iI<|dV 3) kn) Str.empty) [.sh<|.tup [.str kk,y],iW kk,.no,.sh y]=.ok (.str<|gm<|gj kk++32::w):=by rw[em,jC h<|by simp;omega,jC (s _)<|by simp;omega,jC d<|by simp;omega,jN<|by simp;omega];simp
 unfold lX;generalize((g8 (d1 iI<|dV 1)<|g8 (gs " ")<|g8 (d1 iI<|dV 3) kn) Str.empty)=jj at j⊢;iterate 9 (walk_at "d";try simp only[n,m,k,F,C,v,r,j,af i])
def aeu{x y:Tm}{u}(f1:l [x.d]=.ok (.str<|gm u))(j:Ft [y.d,.tup [.str<|Str.ofString "+",.str<|Str.ofString "-"]]=.ok (.str<|gm v))(i:A [.str<|gm u,.str<|sg s,.str<|gm v]=.ok (.str<|gm z)):
    gB (lX a Ft l A B<|gJ 4 [(Tm.bin s x y).d])=.ok (.str<|gm z):=by
 have k:i7 (.str<|sg s) (.tup [.str<|Str.ofString "+",.str<|Str.ofString "-"])=.ok (.bl true):=tf (.bin s x y);have h:L2.hI [D.str<|sg s,x.d,y.d] 0=some (.str<|sg s):=rfl;have f:L2.hI [D.str<|sg s,x.d,y.d] 1=some x.d:=rfl;have d:L2.hI [D.str<|sg s,x.d,y.d] 2=some y.d:=rfl;have c:2<=sizeLine:=by decide
 show gB (lX a Ft l A B<|gJ 4 [.tup [.str<|sg s,x.d,y.d]])=_;unfold lX;iterate 9 (walk_at "d";try simp only[h,f,d,k,f1,j,i,af c])
def aey{p q:Int}{x:Tm}{u}(f1:B [pr p q]=.ok (.str<|gm u))(m:Ft [x.d,.tup [.str<|Str.ofString "+",.str<|Str.ofString "-",.str<|Str.ofString "times"]]=.ok (.str<|gm v))(j:A [.str<|gm u,.str<|Str.ofString "*",.str<|gm v]=.ok (.str<|gm z)):
    gB (lX a Ft l A B<|gJ 4 [(Tm.times p q x).d])=.ok (.str<|gm z):=by
 have k:i7 (.str<|Str.ofString "times") (.tup [.str<|Str.ofString "+",.str<|Str.ofString "-"])=.ok (.bl false):=tf (.times p q x);have i:L2.hI [D.str<|Str.ofString "times",pr p q,x.d] 0=some (.str<|Str.ofString "times"):=rfl;have h:L2.hI [D.str<|Str.ofString "times",pr p q,x.d] 1=some (pr p q):=rfl;have f:L2.hI [D.str<|Str.ofString "times",pr p q,x.d] 2=some x.d:=rfl;have d:2<=sizeLine:=by decide
 have c:3<=sizeLine:=by decide
 show gB (lX a Ft l A B<|gJ 4 [.tup [.str<|Str.ofString "times",pr p q,x.d]])=_;unfold lX;iterate 9 (walk_at "d";try simp only[i,h,f,k,f1,m,j,af d,af c])
def aet{x:Tm}(f1:l [x.d]=.ok (.str<|gm z))(o:z.length<=20000):
    gB (lX a Ft l A B<|gJ 4 [(Tm.abs x).d])=.ok (.str<|gm<|[97,98,115,40]++(z++[41])):=by
 have k:i7 (.str<|Str.ofString "abs") (.tup [.str<|Str.ofString "+",.str<|Str.ofString "-"])=.ok (.bl false):=tf (.abs x);have m:L2.hI [D.str<|Str.ofString "abs",x.d] 0=some (.str<|Str.ofString "abs"):=rfl;have i:L2.hI [D.str<|Str.ofString "abs",x.d] 1=some x.d:=rfl;have h:2<=sizeLine:=by decide
 have n:decide (Str.ofString "abs"=Str.ofString "times")=false:=by decide+kernel
 show gB (lX a Ft l A B<|gJ 4 [.tup [.str<|Str.ofString "abs",x.d]])=_;generalize x.d=xd at*;have f:∀ρ:Ev,(gs<|Str.ofString "abs(") ρ=.ok (.str<|gm [97,98,115,40]):=λ_=>rfl;have d:∀ρ:Ev,(gs<|Str.ofString ")") ρ=.ok (.str<|gm [41]):=λ_=>rfl;have c:(d1 iI<|dV 2) [.sh<|.tup [.str<|Str.ofString "abs",xd],iW<|Str.ofString "abs",iW<|gm z,.no]=.ok (.str<|gm z):=qj (by walk_at "l");have j:((g8 (gs "abs(")<|g8 (d1 iI<|dV 2)<|g8 (gs ")") kn) Str.empty) [.sh<|.tup [.str<|Str.ofString "abs",xd],iW<|Str.ofString "abs",iW<|gm z,.no]=.ok (.str<|gm<|[97,98,115,40]++(z++[41])):=by rw[em,jC (f _)<|by simp,jC c<|by simp;lia,jC (d _)<|by simp;walk_at "l",jN<|by simp;walk_at "l"];simp
 unfold lX;generalize((g8 (gs "abs(")<|g8 (d1 iI<|dV 2)<|g8 (gs ")") kn) Str.empty)=jj at j⊢;iterate 9 (walk_at "d";try simp only[m,i,k,n,f1,j,af h])
theorem xX:∀(t:Tm),t.Ok->t.sz<=300->∀n,t.dp<=n->qi (Pu a) n [t.d]=.ok (.str<|gm t.tx)
 |t,c,h,0,d=>by cases t<;>simp[Tm.dp]at d
 |.num p q,c,h,n+1,d=>by have c:Fq p q:=c;exact aex (EN (a:=a) p q c.q.1 (ak c.p<|by decide)<|ak c.q.2<|by decide)
 |.here,c,h,n+1,d=>aev
 |.kM w m,c,h,n+1,d=>by
  have v:1<=m/\m<=9:=c;have c:m.natAbs<10^9:=by grind
  refine OC (t:=.kM w m) (w:=i4 m) rfl (by show¬(3:Int)<2;decide) (λx i=>?_) (C8<|ak c<|by decide) (by have:=tr c;walk_at "l");have al:∀y∈(["back","on","ago","until"]:gi gp),∀x∈(["times","abs","num","here"]:gi gp),(y==x)=false:=by decide+kernel
  refine al (wd w) ?_ x i;unfold wd;split;·simp
  ·split;·simp
   ·split<;>simp
 |.at m,c,h,n+1,d=>by
  have c:m.length<=8:=c.1;refine OC (t:=.at m) (w:=m) rfl (by show¬(3:Int)<2;decide) (λx i=>?_) (qj<|by walk_at "l") (by walk_at "l");have al:∀x∈(["times","abs","num","here"]:gi gp),((Str.ofString "at")==x)=false:=by decide+kernel
  exact al x i
 |.bin s x y,c,h,n+1,d=>by have h:x.sz+y.sz+1<=300:=h;have d:max x.dp y.dp+1<=n+1:=d;have r:=Tm.len c.1;have o:=Tm.len c.2;have b:=lC 40 41 (decide<|y.rk<2) y.tx;have C:=xX x c.1 (by lia) n (by grind);have k:=xX y c.2 (by lia) n (by grind);refine aeu C (Mc k (by lia)<|tf y) ?_;have j:=xo (a:=a) (x:=x.tx) (y:=gj<|sg s) (z:=brk 40 41 (decide<|y.rk<2) y.tx) (by lia) (by rw[F1];simp) (by lia);rw[mq]at j;exact j
 |.times p q x,c,h,n+1,d=>by have h:x.sz+1<=300:=h;have d:x.dp+1<=n+1:=d;have r:=vA c.1;have o:=Tm.len c.2;have b:=lC 40 41 (decide<|x.rk<3) x.tx;have k:=xX x c.2 (by walk_at "l") n (by walk_at "l");have f:=EN (a:=a) p q c.1.q.1 (ak c.1.p<|by decide) (ak c.1.q.2<|by decide);exact aey f (Mc k (by lia)<|V4 x) (xo (a:=a) (x:=iw p q) (y:=[42]) (z:=brk 40 41 (decide<|x.rk<3) x.tx) (by walk_at "l") (by simp)<|by lia)
 |.abs x,c,h,n+1,d=>by have h:x.sz+1<=300:=h;have d:x.dp+1<=n+1:=d;have o:=Tm.len (t:=x) c;exact aet (xX x c (by walk_at "l") n<|by walk_at "l") (by lia)
inductive Cn where
 |cmp(s:Bool)(x y:Tm)|not(c:Cn)|two(s:Bool)(c d:Cn)
def cg(s:gL):gp:=if s=true then"<" else"="
def cw(s:gL):gp:=if s=true then"and" else"or"
def Cn.k:Cn->gp
 |.cmp s _ _=>cg s
 |.not _=>"not"
 |.two s _ _=>cw s
noncomputable def Cn.d:Cn->D
 |.cmp s x y=>.tup [.str<|cg s,x.d,y.d]
 |.not c=>.tup [.str "not",c.d]
 |.two s c e=>.tup [.str<|cw s,c.d,e.d]
def Cn.rk:Cn->Int
 |.cmp _ _ _=>4
 |.not _=>3
 |.two s _ _=>if s=true then 2 else 1
noncomputable def Cn.tx:Cn->gi Nat
 |.cmp s x y=>x.tx++32::(gj (cg s)++32::y.tx)
 |.not c=>[110,111,116,32]++brk 91 93 (decide<|c.rk<3) c.tx
 |.two s c e=>brk 91 93 (decide<|c.rk<if s=true then 2 else 1) c.tx++32::(gj (cw s)++32::brk 91 93 (decide<|e.rk<if s=true then 3 else 2) e.tx)
def Cn.sz:Cn->Nat
 |.cmp _ x y=>x.sz+y.sz+1
 |.not c=>c.sz+1
 |.two _ c e=>c.sz+e.sz+1
def Cn.dp:Cn->Nat
 |.cmp _ _ _=>1
 |.not c=>c.dp+1
 |.two _ c e=>max c.dp e.dp+1
def Cn.tm:Cn->Nat
 |.cmp _ x y=>max x.sz y.sz
 |.not c=>c.tm
 |.two _ c e=>max c.tm e.tm
def Cn.Ok:Cn->Prop
 |.cmp _ x y=>x.Ok/\y.Ok
 |.not c=>c.Ok
 |.two _ c e=>c.Ok/\e.Ok
def y9(s):(gj<|cg s).length=1:=by cases s<;>decide
def CM(s):(gj<|cw s).length<=3:=by cases s<;>decide
theorem Cn.len:∀{c:Cn},c.Ok->c.tx.length<=40*c.sz
 |.cmp s x y,h=>by have f:=Tm.len h.1;have d:=Tm.len h.2;have i:=y9 s;show(x.tx++32::(gj (cg s)++32::y.tx)).length<=40*(x.sz+y.sz+1);simp only[aa,ag];lia
 |.not c,h=>by have f:=Cn.len (c:=c) h;have d:=lC 91 93 (decide<|c.rk<3) c.tx;show([110,111,116,32]++brk 91 93 (decide<|c.rk<3) c.tx).length<=40*(c.sz+1);simp only[aa,ag,bj];lia
 |.two s c e,h=>by have f:=Cn.len h.1;have d:=Cn.len h.2;have i:=CM s;have k:=lC 91 93 (decide<|c.rk<if s=true then 2 else 1) c.tx;have j:=lC 91 93 (decide<|e.rk<if s=true then 3 else 2) e.tx;show(brk 91 93 (decide<|c.rk<if s=true then 2 else 1) c.tx++32::(gj (cw s)++32::brk 91 93 (decide<|e.rk<if s=true then 3 else 2) e.tx)).length<=40*(c.sz+e.sz+1);simp only[aa,ag];lia
def Cn.d0(c:Cn):∃r,c.d=.tup (.str c.k::r):=by cases c<;>exact⟨_,rfl⟩
def Cn.CV(c:Cn):c.dp<=c.sz:=by
 induction c with
 |cmp s x y=>show 1<=x.sz+y.sz+1;simp
 |not c h=>show c.dp+1<=c.sz+1;walk_at "l"
 |two s c e f d=>show max c.dp e.dp+1<=c.sz+e.sz+1;lia
def Cn.aeD(c:Cn):c.tm<=c.sz:=by
 induction c with
 |cmp s x y=>show max x.sz y.sz<=x.sz+y.sz+1;lia
 |not c h=>show c.tm<=c.sz+1;walk_at "l"
 |two s c e f d=>show max c.tm e.tm<=c.sz+e.sz+1;lia
def z5{l:gw}{c:Cn}(h:l [c.d]=.ok (.str<|gm c.tx))(p:c.tx.length<=20000)(o:i7 (.str c.k) L=.ok (.bl b)):
    gB (zm a l<|gJ 3 [c.d,L])=.ok (.str<|gm<|brk 91 93 b c.tx):=by
 obtain⟨r,e⟩:=c.d0;rw[e]at h⊢;generalize c.tx=tx at*;generalize c.k=ck at*;have f:L2.hI (D.str ck::r) ((0:Nat):Int)=some (.str ck):=ud rfl;have n:L2.hI (D.str ck::r) 0=some (.str ck):=f;have m:(gs<|Str.ofString "[") [.sh<|.tup<|.str ck::r,.sh L,iW<|gm tx]=.ok (.str<|gm [91]):=rfl;have k:(gs<|Str.ofString "]") [.sh<|.tup<|.str ck::r,.sh L,iW<|gm tx]=.ok (.str<|gm [93]):=rfl;have i:(d1 iI<|dV 2) [.sh<|.tup<|.str ck::r,.sh L,iW<|gm tx]=.ok (.str<|gm tx):=qj (by walk_at "l");have d:(P2.b1 tB (d2 i7 (i6 0 0) (dV 1))) [.sh (.tup (.str ck::r)),.sh L,iW (gm tx)]=.ok b:=by iterate 4 (walk_at "d";try simp only[n,o])
 unfold zm;generalize(P2.b1 tB<|d2 i7 (i6 0 0)<|dV 1)=tt at d⊢;have j:((g8 (gs "[")<|g8 (d1 iI<|dV 2)<|g8 (gs "]") kn) Str.empty) [.sh<|.tup<|.str ck::r,.sh L,iW<|gm tx]=.ok (.str<|gm<|91::(tx++[93])):=by rw[em,jC m<|by simp,jC i<|by simp;lia,jC k<|by simp;walk_at "l",jN<|by simp;walk_at "l"];rfl
 generalize((g8 (gs "[")<|g8 (d1 iI<|dV 2)<|g8 (gs "]") kn) Str.empty)=jj at j⊢;cases b with
 |_=>iterate 7 (walk_at "d";try simp only[h,d,j]);try rfl
def Eu(c:Cn):(c.k,c.rk)∈([("<",4),("=",4),("not",3),("and",2),("or",1)]:gi<|gp×Int):=by
 cases c with
 |cmp s x y=>cases s<;>simp[Cn.k,Cn.rk,cg]
 |not c=>simp[Cn.k,Cn.rk]
 |two s x y=>cases s<;>simp[Cn.k,Cn.rk,cw]
def Lv(c:Cn):PyData.strOk c.k=true:=by
 have al:∀p∈([("<",4),("=",4),("not",3),("and",2),("or",1)]:gi<|gp×Int),PyData.strOk p.1=true:=by decide+kernel
 exact al _ (Eu c)
def Li(c:Cn):i7 (.str c.k) (.tup [.str "or"])=.ok (.bl<|decide<|c.rk<2):=by
 have h:=zO (x:=c.k) (ys:=["or"]) (Lv c) (by decide+kernel);have al:∀p∈([("<",4),("=",4),("not",3),("and",2),("or",1)]:gi<|gp×Int),((["or"]:gi gp).any λy=>y==p.1)=decide (p.2<2):=by decide+kernel
 rw[al _<|Eu c]at h;exact h
def Lh(c:Cn):i7 (.str c.k) (.tup [.str "or",.str "and"])=.ok (.bl<|decide<|c.rk<3):=by
 have h:=zO (x:=c.k) (ys:=["or","and"]) (Lv c) (by decide+kernel);have al:∀p∈([("<",4),("=",4),("not",3),("and",2),("or",1)]:gi<|gp×Int),((["or","and"]:gi gp).any λy=>y==p.1)=decide (p.2<3):=by decide+kernel
 rw[al _<|Eu c]at h;exact h
def acH(c:Cn):¬c.rk<1:=by
 cases c with
 |cmp s x y=>show¬(4:Int)<1;decide
 |not c=>show¬(3:Int)<1;decide
 |two s x y=>show¬(if s=true then(2:Int)else 1)<1;split<;>decide
variable{C:gw}
def QC{c e:Cn}{u}(f1:l [c.d]=.ok (.str<|gm u))(k:C [e.d,.tup [.str<|Str.ofString "or"]]=.ok (.str<|gm v))(j:A [.str<|gm u,.str<|Str.ofString "or",.str<|gm v]=.ok (.str<|gm z)):
    gB (nX a C l A Ft<|gJ 2 [(Cn.two false c e).d])=.ok (.str<|gm z):=by
 have i:L2.hI [D.str<|Str.ofString "or",c.d,e.d] 0=some (.str<|Str.ofString "or"):=rfl;have h:L2.hI [D.str<|Str.ofString "or",c.d,e.d] 1=some c.d:=rfl;have f:L2.hI [D.str<|Str.ofString "or",c.d,e.d] 2=some e.d:=rfl;have d:1<=sizeLine:=by decide
 show gB (nX a C l A Ft<|gJ 2 [.tup [.str<|Str.ofString "or",c.d,e.d]])=_;unfold nX;iterate 9 (walk_at "d";try simp only[i,h,f,f1,k,j,af d])
def Qz{c e:Cn}{u}(f1:C [c.d,.tup [.str<|Str.ofString "or"]]=.ok (.str<|gm u))(m:C [e.d,.tup [.str<|Str.ofString "or",.str<|Str.ofString "and"]]=.ok (.str<|gm v))(k:A [.str<|gm u,.str<|Str.ofString "and",.str<|gm v]=.ok (.str<|gm z)):
    gB (nX a C l A Ft<|gJ 2 [(Cn.two true c e).d])=.ok (.str<|gm z):=by
 have j:L2.hI [D.str<|Str.ofString "and",c.d,e.d] 0=some (.str<|Str.ofString "and"):=rfl;have i:L2.hI [D.str<|Str.ofString "and",c.d,e.d] 1=some c.d:=rfl;have h:L2.hI [D.str<|Str.ofString "and",c.d,e.d] 2=some e.d:=rfl;have f:1<=sizeLine:=by decide
 have d:2<=sizeLine:=by decide
 have n:decide (Str.ofString "and"=Str.ofString "or")=false:=by decide+kernel
 show gB (nX a C l A Ft<|gJ 2 [.tup [.str<|Str.ofString "and",c.d,e.d]])=_;unfold nX;iterate 9 (walk_at "d";try simp only[j,i,h,n,f1,m,k,af f,af d])
def QB{c:Cn}{u}(f1:C [c.d,.tup [.str<|Str.ofString "or",.str<|Str.ofString "and"]]=.ok (.str<|gm u))(m:u.length<=30000):
    gB (nX a C l A Ft<|gJ 2 [(Cn.not c).d])=.ok (.str<|gm<|[110,111,116,32]++u):=by
 have h:L2.hI [D.str<|Str.ofString "not",c.d] 0=some (.str<|Str.ofString "not"):=rfl;have f:L2.hI [D.str<|Str.ofString "not",c.d] 1=some c.d:=rfl;have d:2<=sizeLine:=by decide
 have j:decide (Str.ofString "not"=Str.ofString "or")=false:=by decide+kernel
 have i:decide (Str.ofString "not"=Str.ofString "and")=false:=by decide+kernel
 have k:gv (.str<|Str.ofString "not ") (.str<|gm u)=.ok (.str<|gm<|[110,111,116,32]++u):=jU (x:=[110,111,116,32]) (by simp) (by walk_at "l");show gB (nX a C l A Ft<|gJ 2 [.tup [.str<|Str.ofString "not",c.d]])=_;unfold nX;iterate 9 (walk_at "d";try simp only[h,f,j,i,f1,k,af d])
def QA{x y:Tm}{u}(f1:Ft [x.d]=.ok (.str<|gm u))(i:Ft [y.d]=.ok (.str<|gm v))(h:A [.str<|gm u,.str<|cg s,.str<|gm v]=.ok (.str<|gm z)):
    gB (nX a C l A Ft<|gJ 2 [(Cn.cmp s x y).d])=.ok (.str<|gm z):=by
 have f:L2.hI [D.str<|cg s,x.d,y.d] 0=some (.str<|cg s):=rfl;have d:L2.hI [D.str<|cg s,x.d,y.d] 1=some x.d:=rfl;have c:L2.hI [D.str<|cg s,x.d,y.d] 2=some y.d:=rfl;have m:decide (cg s=Str.ofString "or")=false:=by cases s<;>decide+kernel
 have k:decide (cg s=Str.ofString "and")=false:=by cases s<;>decide+kernel
 have j:decide (cg s=Str.ofString "not")=false:=by cases s<;>decide+kernel
 show gB (nX a C l A Ft<|gJ 2 [.tup [.str<|cg s,x.d,y.d]])=_;unfold nX;iterate 9 (walk_at "d";try simp only[f,d,c,m,k,j,f1,i,h])
def F0C(a:Ad)(Ft l:gw):gw:=λc=>gB (nX a (λc=>gB<|zm a l<|gJ 3 c) l (λc=>gB<|zl a<|gJ 3 c) Ft<|gJ 2 c)
theorem vB{Ft:gw}(hT:∀t:Tm,t.Ok->t.sz<=m->Ft [t.d]=.ok (.str<|gm t.tx)):∀(c:Cn),c.Ok->c.sz<=300->c.tm<=m->∀n,c.dp<=n->qi (F0C a Ft) n [c.d]=.ok (.str<|gm c.tx)
 |c,d,f,i,0,h=>by cases c<;>simp[Cn.dp]at h
 |.cmp s x y,d,f,i,n+1,h=>by have f:x.sz+y.sz+1<=300:=f;have i:max x.sz y.sz<=m:=i;have k:=Tm.len d.1;have o:=Tm.len d.2;refine QA (hT x d.1<|by grind) (hT y d.2<|by grind) ?_;have j:=xo (a:=a) (x:=x.tx) (y:=gj<|cg s) (z:=y.tx) (by lia) (by rw[y9];simp) (by lia);rw[mq]at j;exact j
 |.not c,d,f,i,n+1,h=>by have f:c.sz+1<=300:=f;have h:c.dp+1<=n+1:=h;have k:=Cn.len (c:=c) d;have b:=lC 91 93 (decide<|c.rk<3) c.tx;exact QB (z5 (vB hT c d (by walk_at "l") i n<|by walk_at "l") (by lia)<|Lh c) (by lia)
 |.two true c e,d,f,i,n+1,h=>by have f:c.sz+e.sz+1<=300:=f;have h:max c.dp e.dp+1<=n+1:=h;have i:max c.tm e.tm<=m:=i;have k:=Cn.len d.1;have o:=Cn.len d.2;have b1:=lC 91 93 (decide<|c.rk<2) c.tx;have q:=lC 91 93 (decide<|e.rk<3) e.tx;exact Qz (z5 (vB hT c d.1 (by lia) (by grind) n<|by grind) (by lia)<|Li c) (z5 (vB hT e d.2 (by lia) (by grind) n<|by grind) (by lia)<|Lh e) (xo (a:=a) (x:=brk 91 93 (decide<|c.rk<2) c.tx) (y:=gj<|Str.ofString "and") (z:=brk 91 93 (decide<|e.rk<3) e.tx) (by lia) (by decide)<|by lia)
 |.two false c e,d,f,i,n+1,h=>by
  have f:c.sz+e.sz+1<=300:=f;have h:max c.dp e.dp+1<=n+1:=h;have i:max c.tm e.tm<=m:=i;have k:=Cn.len d.1;have o:=Cn.len d.2;have q:=lC 91 93 (decide<|e.rk<2) e.tx;have r:=acH c;have p:brk 91 93 (decide<|c.rk<1) c.tx=c.tx:=by unfold brk;rw[az r];rfl
  have j:=xo (a:=a) (x:=c.tx) (y:=gj<|Str.ofString "or") (z:=brk 91 93 (decide<|e.rk<2) e.tx) (by lia) (by decide) (by lia);have tx:(Cn.two false c e).tx=c.tx++32::(gj (Str.ofString "or")++32::brk 91 93 (decide<|e.rk<2) e.tx):=by show brk 91 93 (decide<|c.rk<1) c.tx++_=_;rw[p];rfl
  rw[tx];exact QC (vB hT c d.1 (by lia) (by grind) n<|by grind) (z5 (vB hT e d.2 (by lia) (by grind) n<|by grind) (by lia)<|Li e) j
def lH:Tm->Nat
 |.bin _ x y=>lH x+lH y
 |.times _ _ x=>lH x+1
 |.abs x=>lH x+1
 |_=>0
def kh:Cn->Nat
 |.cmp _ x y=>lH x+lH y
 |.not c=>kh c
 |.two _ c e=>kh c+kh e
def ZH{t:Tm}(h:t.sz=1):lH t=0:=by
 cases t with
 |bin s x y=>have:=x.pos;have:=y.pos;have c:x.sz+y.sz+1=1:=h;simp_all
 |times p q x=>have:=x.pos;have c:x.sz+1=1:=h;simp_all
 |abs x=>have:=x.pos;have c:x.sz+1=1:=h;simp_all
 |_=>rfl
end WC
namespace WS
open PySem L2 P2 WP TM T2 PySem.NumText WR WC
def jb(o c:Tk)(b:gL)(x:kC):gi Tk:=if b=true then o::(x++[c])else x
noncomputable def ir:Tm->gi Tk
 |.num p q=>[iw p q]
 |.here=>[gj "here"]
 |.kM w n=>[gj<|wd w,i4 n]
 |.at m=>[gj "at",m]
 |.bin s x y=>ir x++gj (sg s)::jb [40] [41] (decide<|y.rk<2) (ir y)
 |.times p q x=>iw p q::[42]::jb [40] [41] (decide<|x.rk<3) (ir x)
 |.abs x=>gj "abs"::[40]::(ir x++[[41]])
noncomputable def jH:Tm->Nat
 |.bin _ x y=>max (jH x) (jH y+if y.rk<2 then 1 else 0)
 |.times _ _ x=>jH x+if x.rk<3 then 1 else 0
 |.abs x=>jH x+1
 |_=>0
def mn:Tm->Prop
 |.at m=>TR.ki m=true
 |.bin _ x y=>mn x/\mn y
 |.times _ _ x=>mn x
 |.abs x=>mn x
 |_=>True
def oC:Tm->Nat
 |.bin _ x _=>oC x+1
 |_=>0
def WM(t):oC t<=t.sz:=by
 induction t with
 |bin s x y c a=>show oC x+1<=x.sz+y.sz+1;lia
 |_=>exact cy _
def Yu(n):∃c r,num n=c::r/\48<=c/\c<=57:=by
 cases e:num n with
 |nil=>exact absurd e (tu n)
 |cons c r=>exact⟨c,r,rfl,u7 n c<|by rw[e];exact bf ..⟩
def vz{p q:Int}(h:Fq p q):∃c r,iw p q=c::r/\48<=c/\c<=57:=by
 have a:i4 p=num p.natAbs:=by unfold i4;rw[ao (by have:=h.nn;simp_all)]
 obtain⟨c,r,e,d⟩:=Yu p.natAbs;unfold iw
 grind
def J1{d}(h:c≠d):gD (c::r) (d::s)=false:=by unfold gD;simp_all
def mX{d}(e:t=c::r)(f:48<=c/\c<=57)(a:d<48\/57<d):gD t (d::s)=false:=by subst e;exact J1 (by lia)
def Og{p q:Int}(h:Fq p q):o7 (iw p q)=some (p,q):=by
 unfold o7;rw[acA ⟨h.low,ak h.p<|by decide,ak h.q.2<|by decide⟩];have c:=h.p;have a:=h.q
 grind
def afc{n:Int}(h:1<=n/\n<=9):kB (i4 n) 1 9=some n.toNat:=by
 have:n=1\/n=2\/n=3\/n=4\/n=5\/n=6\/n=7\/n=8\/n=9:=by lia
 rcases this with rfl|rfl|rfl|rfl|rfl|rfl|rfl|rfl|rfl<;>decide+kernel
def wN(t):gD t t=true:=(nT t t).mpr rfl
def ae7(w):vk.any (gD<|gj<|wd w)=true/\gD (gj<|wd w) [104,101,114,101]=false/\gD (gj<|wd w) [40]=false:=by
 unfold wd;split;·decide
 ·split;·decide
  ·split<;>decide
def nS(r:kC):Prop:=gD (nx r) [42]=false
def nM(r:kC):Prop:=gD (nx r) [42]=false/\[[43],[45]].any (gD<|nx r)=false
def qd{k}(h:k<=29):bg k f=f (k+1):=by unfold bg;rw[cN h];rfl
def JV(h:b<=15):en t (t::r) b f=f r (b+1):=by unfold en tk;show(bif gD t t then(bif Nat.ble b 15 then f r (b+1)else .no)else .no)=_;rw[wN,cN h];rfl
def L7{d k}:lv t d (t::r) k (b+1)=.ok d r k b:=by unfold lv tk;show(bif gD t t then Pr.ok d r k b else .no)=_;rw[wN];rfl
def ua{a:Type}(x:gi a)(c:a)(r:gi a):x++[c]++r=x++c::r:=by simp
def OE{t:Tm}(h:t.Ok)(f:mn t)(r):gD (nx<|ir t++r) [42]=false/\(t.rk=3->nS r->gD (nx (ir t++r).tail) [42]=false)/\gD (nx<|ir t++r) [41]=false:=by
 induction t generalizing r with
 |num p q=>obtain⟨c,s,e,a⟩:=vz h;exact⟨mX e a<|.inl<|by decide,λ_ z=>z,mX e a<|.inl<|by decide⟩
 |here=>exact⟨(show gD (gj "here") [42]=false by decide),λ_ z=>z,(show gD (gj "here") [41]=false by decide)⟩
 |kM w n=>
  have D:1<=n/\n<=9:=h;refine⟨?_,λ_ _=>?_,?_⟩
  ·show gD (gj<|wd w) [42]=false;unfold wd;split;·decide
   ·split;·decide
    ·split<;>decide
  ·show gD (i4 n) [42]=false;have:n=1\/n=2\/n=3\/n=4\/n=5\/n=6\/n=7\/n=8\/n=9:=by lia
   rcases this with rfl|rfl|rfl|rfl|rfl|rfl|rfl|rfl|rfl<;>decide+kernel
  ·show gD (gj<|wd w) [41]=false;unfold wd;split;·decide
   ·split;·decide
    ·split<;>decide
 |«at» m=>
  have k:TR.ki m=true:=f;obtain⟨o,C,l,v⟩:=TR.G0 k;refine⟨(show gD (gj "at") [42]=false by decide),λ_ _=>?_,(show gD (gj "at") [41]=false by decide)⟩;cases m with
  |nil=>exact absurd rfl o
  |cons c s=>exact J1 (by have:=l c<|bf ..;lia)
 |bin s x y d i=>
  have:=d h.1 f.1 (gj (sg s)::jb [40] [41] (decide<|y.rk<2) (ir y)++r);have e:ir (.bin s x y)++r=ir x++(gj (sg s)::jb [40] [41] (decide<|y.rk<2) (ir y)++r):=by show(ir x++gj (sg s)::jb [40] [41] (decide<|y.rk<2) (ir y))++r=_;simp
  rw[e];exact⟨this.1,λz=>(by cases z),this.2.2⟩
 |times p q x j=>obtain⟨c,s,e,a⟩:=vz h.1;exact⟨mX e a<|.inl<|by decide,λz=>(by cases z),mX e a<|.inl<|by decide⟩
 |abs x j=>exact⟨(show gD (gj "abs") [42]=false by decide),λ_ _=>(show gD [40] [42]=false by decide),(show gD (gj "abs") [41]=false by decide)⟩
def F2(s):[[43],[45]].any (gD<|gj<|sg s)=true/\gD (gj<|sg s) [42]=false/\tS (gj<|sg s)=.str (sg s):=by
 cases s;·exact⟨by decide,by decide,aI D.str<|mq _⟩
 ·exact⟨by decide,by decide,aI D.str<|mq _⟩
def qe{d k}:jV (.ok d r k b) f=f d r k b:=rfl
def To(n):(f0<|n+1).pr=qY (f0 n).sg:=rfl
def Tp(n):(f0<|n+1).sg=rY (f0 n).br:=rfl
def Tn(n):(f0<|n+1).br=vf (f0 n).su:=rfl
def MM{n d k}(a:b<=15)(h:(f0 n).su (x++[41]::r) k (b+1)=.ok d ([41]::r) k' (b+1)):(f0<|n+1).br ([40]::(x++[[41]])++r) k b=.ok d r k' b:=by rw[Tn];unfold vf;rw[show[40]::(x++[[41]])++r=[40]::(x++[41]::r)by simp,JV a,h,qe,L7]
def MN{n d k}(a:b<=15)(h:(f0 n).su (x++[41]::r) k (b+1)=.ok d ([41]::r) k' (b+1)):(f0<|n+2).sg ([40]::(x++[[41]])++r) k b=.ok d r k' b:=by rw[show n+2=(n+1)+1 from rfl,Tp];unfold rY;rw[show gD (nx<|[40]::(x++[[41]])++r) [40]=true from rfl,bB,MM a h]
def SG(t:Tm):Prop:=∀r k b n,t.rk=3->k+t.sz<=30->b+jH t<=16->4*jH t+1<=n->(f0 n).sg (ir t++r) k b=.ok t.d r (k+t.sz) b
def PR(t:Tm):Prop:=∀r k b n,2<=t.rk->k+t.sz<=30->b+jH t<=16->4*jH t+2<=n->nS r->(f0 n).pr (ir t++r) k b=.ok t.d r (k+t.sz) b
def LP(t:Tm):Prop:=∀r k b n m,k+t.sz<=30->b+jH t<=16->4*jH t+2<=n->nS r->
    jV ((f0 n).pr (ir t++r) k b) (λd r k b=>qu (f0 n).pr (m+oC t) d r k b)=qu (f0 n).pr m t.d r (k+t.sz) b
def SU(t:Tm):Prop:=∀r k b n,k+t.sz<=30->b+jH t<=16->4*jH t+3<=n->nM r->(f0 n).su (ir t++r) k b=.ok t.d r (k+t.sz) b
def adi{t:Tm}(h:t.Ok)(o:mn t)(R:∀x:Tm,x.sz<t.sz->x.Ok->mn x->SU x):SG t:=by
 intro r k b n z J M F;obtain⟨n,rfl⟩:∃m,n=m+1:=⟨n - 1,by lia⟩;show rY (f0 n).br (ir t++r) k b=_;unfold rY;have f:k<=29:=by have:=t.pos;lia
 cases t with
 |bin s x y=>exact absurd (show(1:Int)=3 from z) (by decide)
 |times p q x=>exact absurd (show(2:Int)=3 from z) (by decide)
 |num p q=>
  obtain⟨c,s,e,a⟩:=vz h;have l:gD (nx<|ir (.num p q)++r) [40]=false:=mX e a (.inl<|by decide);have j:gD (iw p q) [104,101,114,101]=false:=mX e a (.inr<|by decide);have i:vk.any (gD<|iw p q)=false:=by unfold vk;simp only[bF,fO,mX e a<|.inr<|show 57<98 by decide,mX e a<|.inr<|show 57<111 by decide,mX e a<|.inr<|show 57<97 by decide,mX e a<|.inr<|show 57<117 by decide,dh]
  have P:gD (iw p q) [97,116]=false:=mX e a (.inr<|by decide);have O:gD (iw p q) [97,98,115]=false:=mX e a (.inr<|by decide);rw[l,bo,qd f];show(bif gD (iw p q) [104,101,114,101]then _ else _)=_;rw[j,bo,i,bo,P,bo,O,bo,Og h];rfl
 |here=>rw[show gD (nx<|ir .here++r) [40]=false from(show gD (gj "here") [40]=false by decide),bo,qd f];rfl
 |kM w v=>
  obtain⟨l,j,i⟩:=ae7 w;have N:1<=v/\v<=9:=h;rw[show gD (nx<|ir (.kM w v)++r) [40]=false from i,bo,qd f];show(bif gD (gj<|wd w) [104,101,114,101]then _ else _)=_;rw[j,bo,l,bB];show opt (kB (i4 v) 1 9) _=_;rw[afc N];have:((v.toNat:Nat):Int)=v:=by lia
  show Pr.ok (.tup [.str<|gm<|gj<|wd w,.int ((v.toNat:Nat):Int)]) r (k+1) b=_;rw[this,mq];rfl
 |«at» m=>
  have G:TR.ki m=true:=o;have e:(bif TR.ki m then Pr.ok (.tup [.str "at",tS m]) r (k+1) b else .no)=.ok (Tm.at m).d r (k+(Tm.at m).sz) b:=by rw[G];rfl
  rw[show gD (nx<|ir (.at m)++r) [40]=false from(show gD (gj "at") [40]=false by decide),bo,qd f];exact e
 |abs x=>
  have I:k+(x.sz+1)<=30:=J;have L:b+(jH x+1)<=16:=M;have D:4*(jH x+1)+1<=n+1:=F;obtain⟨n,rfl⟩:∃m,n=m+1:=⟨n - 1,by lia⟩;have C:=R x (bL _) h o ([41]::r) (k+1) (b+1) n (by lia) (by lia) (by lia) ⟨rfl,rfl⟩;have e:lZ (λd=>.tup [.str "abs",d]) ((f0<|n+1).br ([40]::(ir x++[[41]])++r) (k+1) b)=.ok (Tm.abs x).d r (k+(Tm.abs x).sz) b:=by rw[MM (by lia) C];show Pr.ok _ r (k+1+x.sz) b=Pr.ok _ r (k+(x.sz+1)) b;rw[show k+1+x.sz=k+(x.sz+1)by lia];rfl
  rw[show gD (nx<|ir (.abs x)++r) [40]=false from(show gD (gj "abs") [40]=false by decide),bo,qd f];exact e
def aaX{t:Tm}(h:t.Ok)(i:mn t)(F:SG t)(o:∀x:Tm,x.sz<t.sz->x.Ok->mn x->SU x/\SG x):PR t:=by
 intro r k b n D l f j z;obtain⟨n,rfl⟩:∃m,n=m+1:=⟨n - 1,by lia⟩;show qY (f0 n).sg (ir t++r) k b=_;unfold qY;by_cases c:t.rk=3
 ·rw[(OE h i r).2.1 c z,bo];exact F r k b n c l f (by walk_at "l")
 ·cases t with
  |bin s x y=>exact absurd (show(2:Int)<=1 from D) (by decide)
  |times p q x=>
   have C:k+(x.sz+1)<=30:=l;have J:=x.pos;have fin:(f0 n).sg (jb [40] [41] (decide<|x.rk<3) (ir x)++r) (k+1) b=.ok x.d r (k+1+x.sz) b:=by
    by_cases a:x.rk<3
    ·have G:jH (.times p q x)=jH x+1:=by show jH x+(if x.rk<3 then 1 else 0)=_;rw[af a]
     rw[G]at f j;rw[aB a];obtain⟨n,rfl⟩:∃m,n=m+2:=⟨n - 2,by lia⟩;exact MN (by lia) ((o x (bL _) h.2 i).1 ([41]::r) (k+1) (b+1) n (by lia) (by lia) (by lia) ⟨rfl,rfl⟩)
    ·have I:jH (.times p q x)=jH x:=by show jH x+(if x.rk<3 then 1 else 0)=_;rw[ao a];rfl
     rw[I]at f j;rw[az a];have c:x.rk=3:=by cases x<;>first|rfl|exact absurd (show(1:Int)<3 by decide) a|exact absurd (show(2:Int)<3 by decide) a
     exact(o x (bL _) h.2 i).2 r (k+1) b n c (by lia) f (by walk_at "l")
   have e:opt (o7<|iw p q) (λv=>xp [42] ([42]::(jb [40] [41] (decide<|x.rk<3) (ir x)++r)) λr=>bg k λk=>lZ (λd=>.tup [.str "times",An v,d])<|(f0 n).sg r k b)=.ok (Tm.times p q x).d r (k+(Tm.times p q x).sz) b:=by rw[Og h.1];show bg k (λk=>lZ (λd=>.tup [.str "times",An (p,q),d])<|(f0 n).sg (jb [40] [41] (decide<|x.rk<3) (ir x)++r) k b)=_;rw[qd<|by lia,fin];rw[show k+1+x.sz=k+(x.sz+1)by lia];rfl
   exact e
  |_=>exact absurd rfl c
def WX{t:Tm}(h:t.Ok)(c:mn t)(R:PR t)(l:∀x:Tm,x.sz<t.sz->x.Ok->mn x->SU x/\PR x/\LP x):LP t:=by
 intro r k b n m z P L v;by_cases i:2<=t.rk
 ·rw[R r k b n i z P L v,qe];have:oC t=0:=by
   cases t<;>first|rfl|exact absurd (show(2:Int)<=1 from i) (by decide)
  rw[this];rfl
 ·cases t with
  |times p q x=>exact absurd (show(2:Int)<=2 by decide) i
  |bin s x y=>
   have M:k+(x.sz+y.sz+1)<=30:=z;have T:=y.pos;have G:x.sz<(Tm.bin s x y).sz:=by show x.sz<x.sz+y.sz+1;lia
   have o:y.sz<(Tm.bin s x y).sz:=by show y.sz<x.sz+y.sz+1;walk_at "l"
   have O:jH x<=jH (.bin s x y):=dc ..;have a:jH y+(if y.rk<2 then 1 else 0)<=jH (.bin s x y):=c0 ..;obtain⟨F,D,C⟩:=F2 s;have e:ir (.bin s x y)++r=ir x++(gj (sg s)::(jb [40] [41] (decide<|y.rk<2) (ir y)++r)):=by show(ir x++gj (sg s)::jb [40] [41] (decide<|y.rk<2) (ir y))++r=_;rw[aV];rfl
   have I:=(l x G h.1 c.1).2.2 (gj (sg s)::(jb [40] [41] (decide<|y.rk<2) (ir y)++r)) k b n (m+1) (by lia) (by lia) (by lia) D;rw[e];show jV _ (λd r k b=>qu (f0 n).pr (m+(oC x+1)) d r k b)=_;rw[show m+(oC x+1)=m+1+oC x by lia,I];show(bif [[43],[45]].any (gD<|gj<|sg s)then bg (k+x.sz) (λk=>jV ((f0 n).pr (jb [40] [41] (decide<|y.rk<2) (ir y)++r) k b) λe r k b=>qu (f0 n).pr m (.tup [tS<|gj<|sg s,x.d,e]) r k b)else _)=_;rw[F,bB,qd<|by lia,C];have fin:(f0 n).pr (jb [40] [41] (decide<|y.rk<2) (ir y)++r) (k+x.sz+1) b=.ok y.d r (k+x.sz+1+y.sz) b:=by
    by_cases f:y.rk<2
    ·rw[af f]at a;rw[aB f];obtain⟨n,rfl⟩:∃j,n=j+3:=⟨n - 3,by lia⟩;rw[show n+3=(n+2)+1 from rfl,To];show qY (f0<|n+2).sg ([40]::(ir y++[[41]])++r) (k+x.sz+1) b=_;unfold qY;have N:=(OE h.2 c.2<|[41]::r).1;have J:([40]::(ir y++[[41]])++r).tail=ir y++[41]::r:=by simp
     rw[J,N,bo];exact MN (by lia) ((l y o h.2 c.2).1 ([41]::r) (k+x.sz+1) (b+1) n (by lia) (by lia) (by lia) ⟨rfl,rfl⟩)
    ·rw[ao f]at a;rw[az f];exact(l y o h.2 c.2).2.1 r (k+x.sz+1) b n (by simp_all) (by lia) (by lia) (by lia) v
   rw[fin,qe];rw[show k+x.sz+1+y.sz=k+(x.sz+y.sz+1)by lia];rfl
  |_=>exact absurd (show(2:Int)<=3 by decide) i
def adH(f:LP t):SU t:=by intro r k b n c d h a;obtain⟨n,rfl⟩:∃m,n=m+1:=⟨n - 1,by lia⟩;show vh (f0 n).pr (ir t++r) k b=_;unfold vh;have i:=WM t;have:=f r k b n (100 - oC t) c d (by walk_at "l") a.1;rw[show 100 - oC t+oC t=100 by lia]at this;rw[this];obtain⟨m,e⟩:∃m,100 - oC t=m+1:=⟨99 - oC t,by grind⟩;rw[e];unfold qu;rw[a.2,bo]
theorem ML:∀s (t:Tm),t.sz<s->t.Ok->mn t->SU t/\SG t/\PR t/\LP t
 |0,t,l,_,_=>absurd l (fQ _)
 |s+1,t,l,h,k=>by have j:∀x:Tm,x.sz<t.sz->x.Ok->mn x->SU x/\SG x/\PR x/\LP x:=λx i d f=>ML s x (by lia) d f;have a:=adi h k λx i d f=>(j x i d f).1;have b:=aaX h k a λx i d f=>⟨(j x i d f).1,(j x i d f).2.1⟩;have c:=WX h k b λx i d f=>⟨(j x i d f).1,(j x i d f).2.2.1,(j x i d f).2.2.2⟩;exact⟨adH c,a,b,c⟩
def MO{t:Tm}(h:t.Ok)(a:mn t):SU t:=(ML (t.sz+1) t (bL _) h a).1
def bl(s:gL):Int:=if s=true then 2 else 1
def mG(s:gL):Int:=if s=true then 3 else 2
noncomputable def jf:Cn->gi Tk
 |.cmp s x y=>ir x++gj (cg s)::ir y
 |.not c=>gj "not"::jb [91] [93] (decide<|c.rk<3) (jf c)
 |.two s c e=>jb [91] [93] (decide<|c.rk<bl s) (jf c)++gj (cw s)::jb [91] [93] (decide<|e.rk<mG s) (jf e)
noncomputable def km:Cn->Nat
 |.cmp _ x y=>max (jH x) (jH y)
 |.not c=>km c+if c.rk<3 then 1 else 0
 |.two s c e=>max (km c+if c.rk<bl s then 1 else 0) (km e+if e.rk<mG s then 1 else 0)
noncomputable def kK:Cn->Nat
 |.cmp _ _ _=>0
 |.not c=>kK c+if c.rk<3 then 4 else 1
 |.two s c e=>max (kK c+if c.rk<bl s then 3 else 0) (kK e+if e.rk<mG s then 3 else 0)
def nY:Cn->Prop
 |.cmp _ x y=>mn x/\mn y
 |.not c=>nY c
 |.two _ c e=>nY c/\nY e
noncomputable def kb(s:gL):Cn->Nat
 |.two a c _=>if a=s then(if c.rk<bl s then 0 else kb s c)+1 else 0
 |_=>0
def LQ(s c):kb s c<=c.sz:=by
 induction c with
 |two a x y f d=>
  show(if a=s then(if x.rk<bl s then 0 else kb s x)+1 else 0)<=x.sz+y.sz+1
  lia
 |_=>exact cy _
def Cn.three(c:Cn):3<=c.sz:=by
 induction c with
 |cmp s x y=>have:=x.pos;have:=y.pos;show 3<=x.sz+y.sz+1;lia
 |not c f=>show 3<=c.sz+1;walk_at "l"
 |two s c e d a=>show 3<=c.sz+e.sz+1;lia
def T5(c):kK c+6<=2*c.sz/\(c.rk<3->kK c+11<=2*c.sz):=by
 induction c with
 |cmp s x y=>have:=x.pos;have:=y.pos;exact⟨by show 0+6<=2*(x.sz+y.sz+1);lia,λh=>absurd h<|by show¬(4:Int)<3;decide⟩
 |not c f=>
  refine⟨?_,λh=>absurd h<|by show¬(3:Int)<3;decide⟩;show(kK c+if c.rk<3 then 4 else 1)+6<=2*(c.sz+1)
  lia
 |two s c e d a=>
  have k:max (kK c+if c.rk<bl s then 3 else 0) (kK e+if e.rk<mG s then 3 else 0)+11<=2*(c.sz+e.sz+1):=by lia
  exact⟨by show max _ _+6<=2*(c.sz+e.sz+1);omega,λ_=>k⟩
def ae8(w):gD (gj<|wd w) [110,111,116]=false/\gD (gj<|wd w) [91]=false:=by
 unfold wd;split;·decide
 ·split;·decide
  ·split<;>decide
def aeC{t:Tm}(h:t.Ok)(r):gD (nx<|ir t++r) [110,111,116]=false/\gD (nx<|ir t++r) [91]=false:=by
 induction t generalizing r with
 |num p q=>obtain⟨c,s,e,a⟩:=vz h;exact⟨mX e a<|.inr<|by decide,mX e a<|.inr<|by decide⟩
 |here=>exact⟨(show gD (gj "here") [110,111,116]=false by decide),(show gD (gj "here") [91]=false by decide)⟩
 |kM w n=>exact ae8 w
 |«at» m=>exact⟨(show gD (gj "at") [110,111,116]=false by decide),(show gD (gj "at") [91]=false by decide)⟩
 |bin s x y d f=>
  have:=d h.1 (gj (sg s)::jb [40] [41] (decide<|y.rk<2) (ir y)++r);have e:ir (.bin s x y)++r=ir x++(gj (sg s)::jb [40] [41] (decide<|y.rk<2) (ir y)++r):=by show(ir x++gj (sg s)::jb [40] [41] (decide<|y.rk<2) (ir y))++r=_;simp
  simp_all
 |times p q x i=>obtain⟨c,s,e,a⟩:=vz h.1;exact⟨mX e a<|.inr<|by decide,mX e a<|.inr<|by decide⟩
 |abs x i=>exact⟨(show gD (gj "abs") [110,111,116]=false by decide),(show gD (gj "abs") [91]=false by decide)⟩
def CC(s):[[60],[61]].any (gD<|gj<|cg s)=true/\gD (gj<|cg s) [42]=false/\[[43],[45]].any (gD<|gj<|cg s)=false/\tS (gj<|cg s)=.str (cg s):=by
 cases s;·exact⟨by decide,by decide,by decide,aI D.str<|mq _⟩
 ·exact⟨by decide,by decide,by decide,aI D.str<|mq _⟩
def wL(s:gL):Tk:=if s=true then[97,110,100]else[111,114]
def OZ(s r):nM (wL s::r):=by
 cases s;·exact⟨(show gD [111,114] [42]=false by decide),(show[[43],[45]].any (gD [111,114])=false by decide)⟩
 ·exact⟨(show gD [97,110,100] [42]=false by decide),(show[[43],[45]].any (gD [97,110,100])=false by decide)⟩
def nW(s:gL)(r:kC):Prop:=gD (nx r) (wL s)=false
def Tr(n):(f1<|n+1).or=o5 [111,114] "or" (f1 n).and:=rfl
def J4(n):(f1<|n+1).and=o5 [97,110,100] "and" (f1 n).not:=rfl
def Ka(n):(f1<|n+1).not=tA (f1 n).not (f1 n).or (vg (f0 75).su):=rfl
def Cw{n d k}(a:b<=15)(h:(f1 n).or (x++[93]::r) k (b+1)=.ok d ([93]::r) k' (b+1)):(f1<|n+1).not ([91]::(x++[[93]])++r) k b=.ok d r k' b:=by rw[Ka];unfold tA;rw[show[91]::(x++[[93]])++r=[91]::(x++[93]::r)by simp];rw[show gD (nx<|[91]::(x++[93]::r)) [110,111,116]=false from rfl,bo,show gD (nx<|[91]::(x++[93]::r)) [91]=true from rfl,bB,JV a,h,qe,L7]
def NT(c:Cn):Prop:=∀r k b n,3<=c.rk->k+c.sz<=30->b+km c<=16->kK c+1<=n->nM r->(f1 n).not (jf c++r) k b=.ok c.d r (k+c.sz) b
def AL(c:Cn):Prop:=∀r k b n m,2<=c.rk->k+c.sz<=30->b+km c<=16->kK c+1<=n->nM r->
    jV ((f1 n).not (jf c++r) k b) (λd r k b=>l4 [97,110,100] "and" (f1 n).not (m+kb true c) d r k b)=l4 [97,110,100] "and" (f1 n).not m c.d r (k+c.sz) b
def AN(c:Cn):Prop:=∀r k b n,2<=c.rk->k+c.sz<=30->b+km c<=16->kK c+2<=n->nM r->nW true r->(f1 n).and (jf c++r) k b=.ok c.d r (k+c.sz) b
def OL(c:Cn):Prop:=∀r k b n m,k+c.sz<=30->b+km c<=16->kK c+2<=n->nM r->nW true r->
    jV ((f1 n).and (jf c++r) k b) (λd r k b=>l4 [111,114] "or" (f1 n).and (m+kb false c) d r k b)=l4 [111,114] "or" (f1 n).and m c.d r (k+c.sz) b
def OR(c:Cn):Prop:=∀r k b n,k+c.sz<=30->b+km c<=16->kK c+3<=n->nM r->nW true r->nW false r->(f1 n).or (jf c++r) k b=.ok c.d r (k+c.sz) b
def C3(r):nM ([93]::r)/\nW true ([93]::r)/\nW false ([93]::r):=⟨⟨rfl,rfl⟩,rfl,rfl⟩
def Iv{q:Int}(no:NT c)(j:OR c)(z:q<=3)(a:¬c.rk<q->3<=c.rk)(r k b n)(f:k+c.sz<=30)(i:b+(km c+if c.rk<q then 1 else 0)<=16)(d:(kK c+if c.rk<q then 3 else 0)+1<=n)(v:nM r):
    (f1 n).not (jb [91] [93] (decide<|c.rk<q) (jf c)++r) k b=.ok c.d r (k+c.sz) b:=by
 by_cases h:c.rk<q
 ·rw[af h]at i d;rw[aB h];obtain⟨n,rfl⟩:∃m,n=m+1:=⟨n - 1,by lia⟩;obtain⟨p,o,l⟩:=C3 r;exact Cw (by lia) (j ([93]::r) k (b+1) n f (by lia) (by simp_all) p o l)
 ·rw[ao h]at i d;rw[az h];exact no r k b n (a h) f (by omega) (by omega) v
def Yr{c:Cn}(h:c.Ok)(f:nY c)(N:∀x:Cn,x.sz<c.sz->x.Ok->nY x->NT x/\OR x):NT c:=by
 intro r k b n G p D C o;obtain⟨n,rfl⟩:∃m,n=m+1:=⟨n - 1,by lia⟩;have l:k<=29:=by have:=Cn.three c;lia
 rw[Ka];unfold tA;cases c with
 |two s x y=>
  exfalso;have F:(3:Int)<=if s=true then 2 else 1:=G
  lia
 |cmp s x y=>
  have i:k+(x.sz+y.sz+1)<=30:=p;have P:=x.pos;have O:=y.pos;have b1:jH x<=km (.cmp s x y):=dc ..;have R:jH y<=km (.cmp s x y):=c0 ..;obtain⟨M,L,J,I⟩:=CC s;have e:jf (.cmp s x y)++r=ir x++(gj (cg s)::(ir y++r)):=by show(ir x++gj (cg s)::ir y)++r=_;rw[aV];rfl
  obtain⟨d1,d2⟩:=aeC h.1 (gj (cg s)::(ir y++r));rw[e,d1,bo,d2,bo];unfold vg;rw[qd l,MO h.1 f.1 (gj (cg s)::(ir y++r)) (k+1) b 75 (by lia) (by lia) (by lia) ⟨L,J⟩,qe];show(bif [[60],[61]].any (gD<|gj<|cg s)then lZ (λe=>.tup [tS<|gj<|cg s,x.d,e]) ((f0 75).su (ir y++r) (k+1+x.sz) b)else _)=_;rw[M,bB,MO h.2 f.2 r (k+1+x.sz) b 75 (by lia) (by lia) (by lia) o,I];show Pr.ok _ r (k+1+x.sz+y.sz) b=Pr.ok _ r (k+(x.sz+y.sz+1)) b;rw[show k+1+x.sz+y.sz=k+(x.sz+y.sz+1)by lia];rfl
 |not c=>
  have i:k+(c.sz+1)<=30:=p;obtain⟨no,v⟩:=N c (bL _) h f;have j:b+(km c+if c.rk<3 then 1 else 0)<=16:=D;have a:(kK c+if c.rk<3 then 4 else 1)+1<=n+1:=C;have g:(kK c+if c.rk<3 then 3 else 0)+1<=n:=by
   by_cases z:c.rk<3;·rw[af z]at a⊢;simp_all
   ·rw[ao z]at a⊢;simp_all
  have fin:=Iv (q:=3) no v (by decide) (λz=>by simp_all) r (k+1) b n (by lia) j g o;have e:xp [110,111,116] (gj "not"::(jb [91] [93] (decide<|c.rk<3) (jf c)++r)) (λr=>bg k λk=>lZ (λd=>.tup [.str "not",d])<|(f1 n).not r k b)=.ok (Cn.not c).d r (k+(Cn.not c).sz) b:=by show(bif gD (gj "not") [110,111,116]then bg k (λk=>lZ (λd=>.tup [.str "not",d])<|(f1 n).not (jb [91] [93] (decide<|c.rk<3) (jf c)++r) k b)else .no)=_;rw[show gD (gj "not") [110,111,116]=true by decide,bB,qd l,fin];show Pr.ok _ r (k+1+c.sz) b=Pr.ok _ r (k+(c.sz+1)) b;rw[show k+1+c.sz=k+(c.sz+1)by lia];rfl
  exact e
def ID{w}{a:PF}{d k}(c:k<=29)(h:a r (k+1) b=.ok e r' k' b):l4 w s a (m+1) d (w::r) k b=l4 w s a m (.tup [.str s,d,e]) r' k' b:=by show(bif gD w w then xp w (w::r) (λr=>bg k λk=>jV (a r k b) λe r k b=>l4 w s a m (.tup [.str s,d,e]) r k b)else .ok d (w::r) k b)=_;rw[wN,bB];show(bif gD w w then bg k (λk=>jV (a r k b) λe r k b=>l4 w s a m (.tup [.str s,d,e]) r k b)else .no)=_;rw[wN,bB,qd c,h,qe]
def Cd{w d k}(h:gD (nx r) w=false):l4 w s pp (m+1) d r k b=.ok d r k b:=by unfold l4;simp_all
def acG(c:Cn):1<=c.rk:=by
 cases c with
 |cmp s x y=>show(1:Int)<=4;decide
 |not c=>show(1:Int)<=3;decide
 |two s x y=>show(1:Int)<=if s=true then 2 else 1;split<;>decide
def Qb{c:Cn}(h:c.Ok)(f:nY c)(no:NT c)(v:∀x:Cn,x.sz<c.sz->x.Ok->nY x->NT x/\AL x/\OR x):AL c:=by
 intro r k b n m Y l U P i;by_cases d:3<=c.rk
 ·rw[no r k b n d l U P i,qe];have:kb true c=0:=by
   cases c with
   |two s x y=>
    exfalso;have V:(3:Int)<=if s=true then 2 else 1:=d
    lia
   |_=>rfl
  rw[this];rfl
 ·cases c with
  |cmp s x y=>exact absurd (show(3:Int)<=4 by decide) d
  |not c=>exact absurd (show(3:Int)<=3 by decide) d
  |two s x y=>
   cases s with
   |false=>exact absurd (show(2:Int)<=1 from Y) (by decide)
   |true=>
    have T:k+(x.sz+y.sz+1)<=30:=l;have y3:=Cn.three y;have N:x.sz<(Cn.two true x y).sz:=by show x.sz<x.sz+y.sz+1;lia
    have M:y.sz<(Cn.two true x y).sz:=by show y.sz<x.sz+y.sz+1;walk_at "l"
    obtain⟨G,ax,D⟩:=v x N h.1 f.1;obtain⟨F,ay,C⟩:=v y M h.2 f.2;have p:km x+(if x.rk<2 then 1 else 0)<=km (.two true x y):=dc ..;have Z:km y+(if y.rk<3 then 1 else 0)<=km (.two true x y):=c0 ..;have o:kK x+(if x.rk<2 then 3 else 0)<=kK (.two true x y):=dc ..;have fy:kK y+(if y.rk<3 then 3 else 0)<=kK (.two true x y):=c0 ..;have e:jf (.two true x y)++r=jb [91] [93] (decide<|x.rk<2) (jf x)++([97,110,100]::(jb [91] [93] (decide<|y.rk<3) (jf y)++r)):=by show(jb [91] [93] (decide<|x.rk<2) (jf x)++gj (cw true)::jb [91] [93] (decide<|y.rk<3) (jf y))++r=_;rw[aV,show gj (cw true)=[97,110,100]by decide];rfl
    have fin:=Iv (q:=3) F C (by decide) (λz=>by simp_all) r (k+x.sz+1) b n (by lia) (by lia) (by walk_at "l") i;have st:∀m:Nat,l4 [97,110,100] "and" (f1 n).not (m+1) x.d ([97,110,100]::(jb [91] [93] (decide<|y.rk<3) (jf y)++r)) (k+x.sz) b=l4 [97,110,100] "and" (f1 n).not m (Cn.two true x y).d r (k+(Cn.two true x y).sz) b:=λm=>by rw[ID (by lia) fin];show l4 _ _ _ m _ r (k+x.sz+1+y.sz) b=l4 _ _ _ m _ r (k+(x.sz+y.sz+1)) b;rw[show k+x.sz+1+y.sz=k+(x.sz+y.sz+1)by lia];rfl
    have R:nM ([97,110,100]::(jb [91] [93] (decide<|y.rk<3) (jf y)++r)):=OZ true _;rw[e];by_cases a:x.rk<2
    ·rw[af a]at p o;rw[aB a,show kb true (.two true x y)=0+1 by show(if true=true then(if x.rk<2 then 0 else kb true x)+1 else 0)=_;rw[af rfl,af a]];obtain⟨n,rfl⟩:∃j,n=j+1:=⟨n - 1,by lia⟩;obtain⟨L,J,I⟩:=C3 ([97,110,100]::(jb [91] [93] (decide<|y.rk<3) (jf y)++r));have:=Cw (r:=[97,110,100]::(jb [91] [93] (decide<|y.rk<3) (jf y)++r)) (by lia) (D _ k (b+1) n (by lia) (by lia) (by lia) L J I);show jV ((f1<|n+1).not ([91]::(jf x++[[93]])++_) k b) _=_;rw[this,qe];exact st m
    ·rw[ao a]at p o;rw[az a,show kb true (.two true x y)=kb true x+1 by show(if true=true then(if x.rk<2 then 0 else kb true x)+1 else 0)=_;rw[af rfl,ao a]];have O:=ax ([97,110,100]::(jb [91] [93] (decide<|y.rk<3) (jf y)++r)) k b n (m+1) (by simp_all) (by lia) (by lia) (by walk_at "l") R;show jV ((f1 n).not (jf x++_) k b) _=_;rw[show m+(kb true x+1)=m+1+kb true x by lia,O];exact st m
def Qf(al:AL c):AN c:=by intro r k b n i f h l d a;obtain⟨n,rfl⟩:∃j,n=j+1:=⟨n - 1,by lia⟩;have o:=LQ true c;rw[J4];unfold o5;have:=al r k b n (100 - kb true c) i f h (by walk_at "l") d;rw[show 100 - kb true c+kb true c=100 by lia]at this;rw[this];obtain⟨m,e⟩:∃m,100 - kb true c=m+1:=⟨99 - kb true c,by grind⟩;rw[e];exact Cd a
def YI{c:Cn}(h:c.Ok)(o:nY c)(V:AN c)(z:∀x:Cn,x.sz<c.sz->x.Ok->nY x->AN x/\OL x/\OR x):OL c:=by
 intro r k b n m q P N p l;by_cases a:2<=c.rk
 ·rw[V r k b n a q P N p l,qe];have:kb false c=0:=by
   cases c with
   |two s x y=>
    cases s with
    |false=>exact absurd (show(2:Int)<=1 from a) (by decide)
    |true=>rfl
   |_=>rfl
  rw[this];rfl
 ·cases c with
  |cmp s x y=>exact absurd (show(2:Int)<=4 by decide) a
  |not c=>exact absurd (show(2:Int)<=3 by decide) a
  |two s x y=>
   cases s with
   |true=>exact absurd (show(2:Int)<=2 by decide) a
   |false=>
    have O:k+(x.sz+y.sz+1)<=30:=q;have Y:=Cn.three y;have L:x.sz<(Cn.two false x y).sz:=by show x.sz<x.sz+y.sz+1;lia
    have J:y.sz<(Cn.two false x y).sz:=by show y.sz<x.sz+y.sz+1;walk_at "l"
    obtain⟨ax,I,Z⟩:=z x L h.1 o.1;obtain⟨U,ly,C⟩:=z y J h.2 o.2;have i:¬x.rk<1:=by have:=acG x;simp_all
    have T:km x+(if x.rk<1 then 1 else 0)<=km (.two false x y):=dc ..;have d:km y+(if y.rk<2 then 1 else 0)<=km (.two false x y):=c0 ..;have R:kK x+(if x.rk<1 then 3 else 0)<=kK (.two false x y):=dc ..;have v:kK y+(if y.rk<2 then 3 else 0)<=kK (.two false x y):=c0 ..;rw[ao i]at T R;have e:jf (.two false x y)++r=jf x++([111,114]::(jb [91] [93] (decide<|y.rk<2) (jf y)++r)):=by show(jb [91] [93] (decide<|x.rk<1) (jf x)++gj (cw false)::jb [91] [93] (decide<|y.rk<2) (jf y))++r=_;rw[aV,show gj (cw false)=[111,114]by decide,az i];rfl
    have fin:(f1 n).and (jb [91] [93] (decide<|y.rk<2) (jf y)++r) (k+x.sz+1) b=.ok y.d r (k+x.sz+1+y.sz) b:=by
     by_cases f:y.rk<2
     ·rw[af f]at d v;rw[aB f];obtain⟨n,rfl⟩:∃j,n=j+2:=⟨n - 2,by lia⟩;obtain⟨G,F,D⟩:=C3 r;have:=Cw (r:=r) (by lia) (C ([93]::r) (k+x.sz+1) (b+1) n (by lia) (by lia) (by lia) G F D);rw[show n+2=(n+1)+1 from rfl,J4];unfold o5;show jV ((f1<|n+1).not ([91]::(jf y++[[93]])++r) (k+x.sz+1) b) _=_;rw[this,qe];exact Cd (m:=99) l
     ·rw[ao f]at d v;rw[az f];exact U r (k+x.sz+1) b n (by simp_all) (by lia) (by lia) (by lia) p l
    have M:=I ([111,114]::(jb [91] [93] (decide<|y.rk<2) (jf y)++r)) k b n (m+1) (by lia) (by lia) (by lia) (OZ false _) rfl;rw[e,show kb false (.two false x y)=kb false x+1 by show(if false=false then(if x.rk<1 then 0 else kb false x)+1 else 0)=_;rw[af rfl,ao i],show m+(kb false x+1)=m+1+kb false x by lia,M,ID (by lia) fin];rw[show k+x.sz+1+y.sz=k+(x.sz+y.sz+1)by lia];rfl
def ZD(a:OL c):OR c:=by intro r k b n i l o h d f;obtain⟨n,rfl⟩:∃j,n=j+1:=⟨n - 1,by lia⟩;have p:=LQ false c;rw[Tr];unfold o5;have:=a r k b n (100 - kb false c) i l (by walk_at "l") h d;rw[show 100 - kb false c+kb false c=100 by lia]at this;rw[this];obtain⟨m,e⟩:∃m,100 - kb false c=m+1:=⟨99 - kb false c,by grind⟩;rw[e];exact Cd f
theorem IV:∀s (c:Cn),c.sz<s->c.Ok->nY c->NT c/\AL c/\AN c/\OL c/\OR c
 |0,c,m,_,_=>absurd m (fQ _)
 |s+1,c,m,h,l=>by have k:∀x:Cn,x.sz<c.sz->x.Ok->nY x->NT x/\AL x/\AN x/\OL x/\OR x:=λx j f i=>IV s x (by lia) f i;have a:=Yr h l λx j f i=>⟨(k x j f i).1,(k x j f i).2.2.2.2⟩;have b:=Qb h l a λx j f i=>⟨(k x j f i).1,(k x j f i).2.1,(k x j f i).2.2.2.2⟩;have n:=Qf b;have d:=YI h l n λx j f i=>⟨(k x j f i).2.2.1,(k x j f i).2.2.2.1,(k x j f i).2.2.2.2⟩;exact⟨a,b,n,d,ZD d⟩
def acy{c:Cn}(h:c.Ok)(a:nY c)(d:c.sz<=30)(f:km c<=16):pEnd ((f1 85).or (jf c) 0 0)=.ok c.d [] c.sz 0:=by have hf:=(T5 c).1;have:=(IV (c.sz+1) c (bL _) h a).2.2.2.2 [] 0 0 85 (by simp_all) (by simp_all) (by lia) ⟨rfl,rfl⟩ rfl rfl;rw[aP,Nat.zero_add]at this;rw[this];rfl
theorem F7(c y):∀x:gi Nat,gO c (x++c::y)=gO c x++gO c y
 |[]=>by rw[bq,qw];rfl
 |a::x=>by
  have d:=F7 c y x;by_cases h:a=c
  ·subst h;rw[cu,qw,qw,d];rfl
  ·cases e:gO c x with
   |nil=>exact absurd e (vC c x)
   |cons p f=>rw[e]at d;rw[cu,q5 h d,q5 h e];rfl
def pR(l:hZ):gi Tk:=(gO 32 l).filter λt=>!t.isEmpty
def Gm(x y):pR (x++32::y)=pR x++pR y:=by unfold pR;rw[F7,dY]
def OH(y):pR (32::y)=pR y:=by rfl
def OI{w}(h:32∉w)(a:w≠[]):pR w=[w]:=by
 unfold pR;rw[tK h];cases w with
 |nil=>lia
 |cons c r=>rfl
def Gj(cs):gI cs=pR (cs.flatMap iF):=rfl
def Nb(x c y):(x++c::y).flatMap iF=x.flatMap iF++(iF c++y.flatMap iF):=by simp
def l7(x y):gI (x++32::y)=gI x++gI y:=by rw[Gj,Nb,show iF 32=[32,32,32]from rfl];show pR (x.flatMap iF++32::(32::(32::y.flatMap iF)))=_;rw[Gm,OH,OH];rfl
def sj(a:jz c=false)(d:c≠32)(x y):gI (x++c::y)=gI x++[c]::gI y:=by rw[Gj,Nb,show iF c=[32,c,32]by unfold iF;rw[a];rfl];show pR (x.flatMap iF++32::([c]++32::y.flatMap iF))=_;rw[Gm,Gm,OI (w:=[c]) (by simp;lia)<|by simp];rfl
theorem N1:∀{w:hZ},(∀c∈w,jz c=true)->w.flatMap iF=w
 |[],_=>rfl
 |c::r,h=>by rw[fq,N1 λx a=>h x<|aQ _ a,show iF c=[c]by unfold iF;rw[h c<|bf ..];rfl];rfl
def tP{w:hZ}(h:∀c∈w,jz c=true)(a:w≠[]):gI w=[w]:=by rw[Gj,N1 h];exact OI (λz=>absurd (h 32 z)<|by decide) a
def tN:gI []=[]:=rfl
def qv(n):∀c∈num n,jz c=true:=λc a=>by
 have:=u7 n c a;unfold jz;rw[ba,aq,aq,bZ,bZ,bZ,bZ]
 lia
def rS{n:Int}(h:0<=n):i4 n=num n.natAbs:=by unfold i4;simp_all
def xV{p q:Int}(h:Fq p q):∀c∈iw p q,jz c=true:=by
 unfold iw;rw[rS h.nn];split;·exact qv _
 ·intro c a;rcases a9.mp a with a|a;·exact qv _ c a
  ·rcases aT.mp a with rfl|a;·decide
   ·exact qv _ c a
def OK{p q:Int}(h:Fq p q):gI (iw p q)=[iw p q]:=tP (xV h) (by obtain⟨c,r,e,_⟩:=vz h;rw[e];simp)
def yb{o}(a:jz o=false/\o≠32)(d:jz c=false/\c≠32)(b)(h:gI x=ts):gI (brk o c b x)=jb [o] [c] b ts:=by
 subst h;unfold brk jb;cases b with
 |false=>rfl
 |true=>have f:=sj a.1 a.2 [] (x++[c]);have i:=sj d.1 d.2 x [];rw[bq,tN,bq,i,tN]at f;exact f
def afb(w):gI (gj<|wd w)=[gj<|wd w]:=by
 unfold wd;split;·decide
 ·split;·decide
  ·split<;>decide
theorem vG:∀{t:Tm},t.Ok->mn t->gI t.tx=ir t
 |.num p q,h,_=>OK h
 |.here,_,_=>by show gI (gj "here")=[gj "here"];decide
 |.kM w n,h,_=>by have l:1<=n/\n<=9:=h;show gI (gj (wd w)++32::i4 n)=[gj<|wd w,i4 n];rw[l7,afb,rS<|by lia,tP (qv _)<|tu _];rfl
 |.at m,_,kw=>by
  have a:TR.ki m=true:=kw;obtain⟨i,k,f,j⟩:=TR.G0 a;show gI (gj "at"++32::m)=[gj "at",m];rw[l7,show gI (gj "at")=[gj "at"]by decide,tP (w:=m) (λc d=>by have:=f c d;unfold jz;rw[ba,aq,aq,bZ,bZ,bZ,bZ];simp_all) i]
  rfl
 |.bin s x y,h,kw=>by show gI (x.tx++32::(gj (sg s)++32::brk 40 41 (decide<|y.rk<2) y.tx))=ir x++gj (sg s)::jb [40] [41] (decide<|y.rk<2) (ir y);rw[l7,l7,vG h.1 kw.1,yb ⟨rfl,by decide⟩ ⟨rfl,by decide⟩ _<|vG h.2 kw.2,show gI (gj<|sg s)=[gj<|sg s]by cases s<;>decide];rfl
 |.times p q x,h,kw=>by show gI (iw p q++32::([42]++32::brk 40 41 (decide<|x.rk<3) x.tx))=iw p q::[42]::jb [40] [41] (decide<|x.rk<3) (ir x);rw[l7,l7,OK h.1,yb ⟨rfl,by decide⟩ ⟨rfl,by decide⟩ _<|vG h.2 kw,show gI [42]=[[42]]by decide];rfl
 |.abs x,h,kw=>by show gI ([97,98,115]++40::(x.tx++[41]))=gj "abs"::[40]::(ir x++[[41]]);rw[sj rfl<|by decide,sj (c:=41) rfl (by decide) x.tx [],vG (t:=x) h kw,tN,show gI [97,98,115]=[gj "abs"]by decide];rfl
theorem AR:∀{c:Cn},c.Ok->nY c->gI c.tx=jf c
 |.cmp s x y,h,kw=>by show gI (x.tx++32::(gj (cg s)++32::y.tx))=ir x++gj (cg s)::ir y;rw[l7,l7,vG h.1 kw.1,vG h.2 kw.2,show gI (gj<|cg s)=[gj<|cg s]by cases s<;>decide];rfl
 |.not c,h,kw=>by show gI ([110,111,116]++32::brk 91 93 (decide<|c.rk<3) c.tx)=gj "not"::jb [91] [93] (decide<|c.rk<3) (jf c);rw[l7,yb ⟨rfl,by decide⟩ ⟨rfl,by decide⟩ _<|AR (c:=c) h kw,show gI [110,111,116]=[gj "not"]by decide];rfl
 |.two s c e,h,kw=>by show gI (brk 91 93 (decide<|c.rk<bl s) c.tx++32::(gj (cw s)++32::brk 91 93 (decide<|e.rk<mG s) e.tx))=jb [91] [93] (decide<|c.rk<bl s) (jf c)++gj (cw s)::jb [91] [93] (decide<|e.rk<mG s) (jf e);rw[l7,l7,yb ⟨rfl,by decide⟩ ⟨rfl,by decide⟩ _<|AR h.1 kw.1,yb ⟨rfl,by decide⟩ ⟨rfl,by decide⟩ _<|AR h.2 kw.2,show gI (gj<|cw s)=[gj<|cw s]by cases s<;>decide];rfl
def IM(t):2*jH t+1<=t.sz+lH t:=by
 induction t with
 |bin s x y c a=>show 2*max (jH x) (jH y+if y.rk<2 then 1 else 0)+1<=x.sz+y.sz+1+(lH x+lH y);split<;>lia
 |times p q x d=>show 2*(jH x+if x.rk<3 then 1 else 0)+1<=x.sz+1+(lH x+1);split<;>lia
 |abs x d=>show 2*(jH x+1)+1<=x.sz+1+(lH x+1);lia
 |_=>exact au _
def Qu(c):2*km c+3<=c.sz+kh c/\(c.rk<3->2*km c+5<=c.sz+kh c):=by
 induction c with
 |cmp s x y=>
  have l:=IM x;have j:=IM y;have:=x.pos;have:=y.pos;refine⟨?_,λh=>absurd h<|by show¬(4:Int)<3;decide⟩;show 2*max (jH x) (jH y)+3<=x.sz+y.sz+1+(lH x+lH y)
  lia
 |not c i=>
  refine⟨?_,λh=>absurd h<|by show¬(3:Int)<3;decide⟩;show 2*(km c+if c.rk<3 then 1 else 0)+3<=c.sz+1+kh c;split;·have:=i.2 (by assumption);lia
  ·have:=i.1;lia
 |two s c e f d=>
  have l:=Cn.three c;have j:=Cn.three e;have a:=f.1;have b:=d.1;have k:2*max (km c+if c.rk<bl s then 1 else 0) (km e+if e.rk<mG s then 1 else 0)+5<=c.sz+e.sz+1+(kh c+kh e):=by split<;>split<;>lia
  exact⟨by show 2*max _ _+3<=c.sz+e.sz+1+(kh c+kh e);lia,λ_=>k⟩
def Qt{c:Cn}(a:c.sz<=30)(d:kh c<=3):km c<=15:=by
 have:=(Qu c).1
 lia
theorem uZ:∀{t:Tm},t.Ok->mn t
 |.num _ _,_=>trivial
 |.here,_=>trivial
 |.kM _ _,_=>trivial
 |.at _,h=>h.2.2.2
 |.bin _ _ _,h=>⟨uZ h.1,uZ h.2⟩
 |.times _ _ x,h=>uZ (t:=x) h.2
 |.abs x,h=>uZ (t:=x) h
theorem xb:∀{c:Cn},c.Ok->nY c
 |.cmp _ _ _,h=>⟨uZ h.1,uZ h.2⟩
 |.not c,h=>xb (c:=c) h
 |.two _ _ _,h=>⟨xb h.1,xb h.2⟩
def Gk(n y):gI (List.replicate n 32++y)=gI y:=by
 induction n with
 |zero=>rfl
 |succ n a=>have:=l7 [] (List.replicate n 32++y);rw[eK,cu];rw[bq,tN,bq]at this;rw[this,a]
def OF(n x):gI (x++List.replicate n 32)=gI x:=by
 induction n with
 |zero=>simp
 |succ n a=>rw[eK,l7];have:=Gk n [];rw[aP,tN]at this;simp_all
def aeF(d:jz c=false)(a:c≠32)(i j x y):gI (x++(List.replicate i 32++c::(List.replicate j 32++y)))=gI (x++c::y):=by rw[<-aV,sj d a,OF,Gk,sj d a]
end WS
namespace pG
open PySem L2 P2 WP TM T2 PySem.NumText WR WC WS
def ae5{y}:iy 3 f (z::y::x::v::ρ) S=toZ (f (z::y::x::v::ρ) S) λu a=>.nx (z::y::x::some u::ρ) a:=by rfl
def kq(r:Tk×D):D:=.tup [tS r.1,r.2]
def full(a:kC)(t:Tk):gL:=Nat.beq a.length 12||a.any (gD t)
def n0(G:PF)(a:kC):PF:=λr k b=>xp [109,97,114,107] r λr=>tk r λt r=>bif TR.ki t then xp [58] r λr=>jV (G r k b) λd r k b=>bif full a t then .no else .ok (.tup [tS t,d]) r k b else .no
noncomputable def Am:PF:=λr k b=>xp [102,105,108,108] r λr=>tk r λt r=>opt (kB t 1 1000000) λn=>tk r λu r=>opt (kB u n<|100*n) λm=>match r with
 |[]=>.ok (.tup [.int (n:Nat),.int (m:Nat)]) [] k b
 |_::_=>.no
variable{S0:ic}{a:Ad}{T:kC}{p k b:Nat}{i:hU}
theorem B6:∀c:gi D,kI (c.map Z.d)=some c
 |[]=>rfl
 |d::r=>by show(kI<|r.map Z.d).map (d:: ·)=_;rw[B6 r];rfl
abbrev _root_.rF:=gi (Tk×D)
def V3(t:Tk)(rs:rF)(h:PyData.strOk (gm t)=true)(f:∀r∈rs,PyData.strOk (gm r.1)=true):i7 (tS t) (.lst<|rs.map λr=>tS r.1)=.ok (.bl<|(rs.map Prod.fst).any (gD t)):=by
 have e:(rs.map λr=>tS r.1)=(rs.map λr=>gm r.1).map D.str:=by simp
 rw[e];show(match mm (.str<|gm t) ((rs.map λr=>gm r.1).map D.str)with|some b=>R.ok (D.bl b)|none=>.bad)=_;rw[zH h (by intro k c;obtain⟨r,d,rfl⟩:=bJ.mp c;exact f r d),zd,bu];rfl
def afl{rs:rF}{t:Tk}{d:D}{S:ic}{n m:Nat}(G:S[n]?=some (.li<|(rs.map kq).map .d))(v:oM S (gz m)=.no)(M:rs.length<=12)(h:PyData.strOk (gm t)=true)(z:∀r∈rs,PyData.strOk (gm r.1)=true):
    jS (lB (b1 tB<|d2 gW (dA ih<|gh (dV 1) gk)<|gq 12)<|b1 tB<|d2 i7 (dV 2)<|je<|kS (λi=>((dV 1) i).bind mi) 1 [] (gV 0) (λ_=>.ok true)<|i6 0 0) [gz m,gz n,ig<|tS t,ig d] S=.ok (full (rs.map Prod.fst) t) S:=by
 have j:oM S (gz n)=iD (rs.map kq):=by
  show(match S[n]? with
   |some (.li f)=>(match kI f with
    |some L=>Sl.sh (.lst L)
    |none=>.no)
   |_=>.no)=_
  rw[G];dsimp only;rw[B6]
 unfold jS vw;rw[aF,aF,aF,aF,c8,j,v]
 show(match(lB _ _ [.no,iD (rs.map kq),.sh (tS t),.sh d])with
  |.ok d=>RX.ok d S
  |_=>.bad)=_
 have F:kR (gV 0) (λ_=>.ok true) (i6 0 0) (lD 1 [] [.no,iD<|rs.map kq,.sh<|tS t,.sh d]) (rs.map kq)=some (rs.map λr=>tS r.1):=by
  have:=rJ (a:=gV 0) (c:=λ_=>.ok true) (e:=i6 0 0) (mR:=lD 1 [] [.no,iD (rs.map kq),.sh (tS t),.sh d]) (λd=>[.sh d]) (λd=>match d with|.tup (x::_)=>x|_=>.non) (rs.map kq) λd C=>by obtain⟨r,_,rfl⟩:=bJ.mp C;exact⟨rfl,rfl,rfl⟩
  rw[this,bu];rfl
 have l:(rs.map kq).length<=sizeLine:=size_of (by rw[ae];walk_at "l");have o:=V3 t rs h z;have J:b1 tB (d2 gW (dA ih<|gh (dV 1) gk)<|gq 12) [.no,iD<|rs.map kq,.sh<|tS t,.sh d]=.ok (Nat.beq (rs.map Prod.fst).length 12):=by
  have:decide (((rs.map kq).length:Int)=12)=Nat.beq (rs.map Prod.fst).length 12:=by
   rw[ae,ae,bx,aA,Nat.beq_eq]
   lia
  iterate 3 (walk_at "d")
  rw[this]
 have I:b1 tB (d2 i7 (dV 2)<|je<|kS (λi=>((dV 1) i).bind mi) 1 [] (gV 0) (λ_=>.ok true)<|i6 0 0) [.no,iD<|rs.map kq,.sh<|tS t,.sh d]=.ok ((rs.map Prod.fst).any (gD t)):=by iterate 4 (walk_at "d";try simp only[af l,F,o])
 rw[Av,J,gM];unfold full;cases q:Nat.beq (rs.map Prod.fst).length 12 with
 |true=>rfl
 |false=>rw[ao<|by simp,I];rfl
def ac4(O:ke T){Fo:gw}(L:∀t∈T,Fo [tS t]=rX a (gm t)){G}(M:jB S0 a T F G){rs:rF}(U:S0[0]?=some (.li<|(rs.map kq).map .d))(I:rs.length<=12)(J:∀r∈rs,PyData.strOk (gm r.1)=true)(c):
    Rl S0 a T (g7<|wX a Fo (Ze a) (Zt a) F c [gz S0.length,gz 0,none,none]<|gu S0 a T p k b) (n0 G (rs.map Prod.fst) (T.drop p) k b):=by
 refine Rt.fin ?_;unfold wX n0;refine uR O (by decide) ?_;unfold tk;cases h:T.drop (p+1)with
 |nil=>rw[i9];simp only[rf,mw,lI,m8];rw[qW h];exact⟨_,rfl⟩
 |cons t r=>
  rw[i9];simp only[rf,mw,lI,m8];rw[qV O h];have e:=L t (mem_of h);unfold rX at e;rw[lL]at e;try dsimp only
  cases o:TR.ki t with
  |false=>rw[o,ao<|by simp]at e;(repeat(first|walk_at "zw"|simp only[e]));exact⟨_,rfl⟩
  |true=>
   rw[o,af rfl]at e;simp only[kr,l8,vL,e,lj,oN,mO,bB];rw[<-pJ h];refine uR O (by decide) ?_;have f:=M (p+1+1+1) k b;simp only[i9,ae5,rl,lI,rj,l8,kr];cases n:G (T.drop<|p+1+1+1) k b with
   |bad=>trivial
   |no=>rw[n]at f;obtain⟨S,f⟩:=f;rw[f];exact⟨_,rfl⟩
   |ok d R l m=>
    rw[n]at f;obtain⟨j,N,f⟩:=f;rw[f];subst N;have C:(gu S0 a T j l m)[0]?=some (.li<|(rs.map kq).map .d):=by
     unfold gu
     grind
    have z:oM (gu S0 a T j l m) (gz S0.length)=.no:=by
     show(match(gu S0 a T j l m)[S0.length]? with
      |some (.li q)=>(match kI q with
       |some P=>Sl.sh (.lst P)
       |none=>.no)
      |_=>.no)=_
     unfold gu;rw[sY]
    have v:=afl (t:=t) (d:=d) C z I (O.s t<|mem_of h) J;simp only[oN,mO,i9,oO,v];unfold jV;dsimp only;cases full (rs.map Prod.fst) t with
    |true=>exact⟨_,rfl⟩
    |false=>exact⟨j,rfl,by(repeat(first|walk_at "zw"|simp only[WC.tH]));try rfl⟩
def Uj(O:ke T){l:gw}(m:∀t∈T,l [tS t,.int (lo:Nat),.int (hi:Nat)]=mu a (kB t lo hi)){d j:hP}{y}(q:d (iO<|gz S0.length::y::i)=.ok (.int (lo:Nat)))(o:j (iO<|gz S0.length::y::i)=.ok (.int (hi:Nat))){rest:gZ}{f:Nat->gi Tk->Pr}(H:∀n,lo<=n->n<=hi->Rt S0 a T (rest (gz S0.length::jF (n:Nat)::i)<|gu S0 a T (p+1) k b) (f n<|T.drop<|p+1)):
    Rt S0 a T (gG (iy 1<|zF l<|gx (hY a.Tokens "take" (Zt a) [] (zV 0) gA)<|gx (zD d)<|gx (zD j) gA) rest (gz S0.length::y::i)<|gu S0 a T p k b) (tk (T.drop p) λt r=>opt (kB t lo hi) λn=>f n r):=by
 unfold tk;cases h:T.drop p with
 |nil=>rw[i9];simp only[pT,mw,lI,m8];rw[qW h];exact⟨_,rfl⟩
 |cons t r=>
  rw[i9];simp only[pT,mw,lI,m8];rw[qV O h];have e:=m t (mem_of h);simp only[kr,nc,q,o,lj,l8,yj];unfold opt;cases c:kB t lo hi with
  |none=>rw[c]at e;unfold mu at e;simp only[e,vS,vM,vR,vQ];exact⟨_,rfl⟩
  |some v=>
   rw[c]at e;unfold mu at e;simp only[e,lj,kr,oN,mO];rw[<-pJ h];unfold kB at c
   grind
def Uk(O:ke T){l:gw}(m:∀t∈T,l [tS t,.int (lo:Nat),.int (hi:Nat)]=mu a (kB t lo hi)){d j:hP}{y}(q:d (iO<|gz S0.length::y::z::i)=.ok (.int (lo:Nat)))(o:j (iO<|gz S0.length::y::z::i)=.ok (.int (hi:Nat))){rest:gZ}{f:Nat->gi Tk->Pr}(H:∀n,lo<=n->n<=hi->Rt S0 a T (rest (gz S0.length::y::jF (n:Nat)::i)<|gu S0 a T (p+1) k b) (f n<|T.drop<|p+1)):
    Rt S0 a T (gG (iy 2<|zF l<|gx (hY a.Tokens "take" (Zt a) [] (zV 0) gA)<|gx (zD d)<|gx (zD j) gA) rest (gz S0.length::y::z::i)<|gu S0 a T p k b) (tk (T.drop p) λt r=>opt (kB t lo hi) λn=>f n r):=by
 unfold tk;cases h:T.drop p with
 |nil=>rw[i9];simp only[rf,mw,lI,m8];rw[qW h];exact⟨_,rfl⟩
 |cons t r=>
  rw[i9];simp only[rf,mw,lI,m8];rw[qV O h];have e:=m t (mem_of h);simp only[kr,nc,q,o,lj,l8,yj];unfold opt;cases c:kB t lo hi with
  |none=>rw[c]at e;unfold mu at e;simp only[e,vS,vM,vR,vQ];exact⟨_,rfl⟩
  |some v=>
   rw[c]at e;unfold mu at e;simp only[e,lj,kr,oN,mO];rw[<-pJ h];unfold kB at c
   grind
def ac0(O:ke T){Fw:gw}(f:∀t∈T,∀lo hi:Nat,hi<=100000000->Fw [tS t,.int (lo:Nat),.int (hi:Nat)]=mu a (kB t lo hi))(c):
    Rl S0 a T (g7<|wW a Fw (Ze a) (Zt a) (Zx a) c [some<|.loc S0.length,none,none]<|gu S0 a T p k b) (Am (T.drop p) k b):=by
 refine Rt.fin ?_;unfold wW Am;refine uR O (by decide) ?_;refine Uj O (lo:=1) (hi:=1000000) (λt d=>f t d 1 1000000<|by decide) rfl rfl λn o l=>?_;have j:iU (.int 100) (.int (n:Nat))=.ok (.int ((100*n:Nat):Int)):=by exact(Az (by decide)<|by decide).trans (aI (λz:Int=>R.ok<|D.int z) (Int.natCast_mul 100 n).symm)
 refine Uk O (lo:=n) (hi:=100*n) (λt d=>f t d n (100*n)<|by lia) rfl ?_ λm v q=>?_
 ·rw[oF,lM,gM];exact j
 rw[i9,ph,qx (by decide) l8];show Rt S0 a T (lP (toZ (Zx a [.loc S0.length]<|gu S0 a T (p+1+1+1) k b) _) _) _;rw[L8];cases h:T.drop (p+1+1+1)with
 |nil=>exact⟨_,h,by(repeat(first|walk_at "zw"|rfl))⟩
 |cons t r=>have:gD (nx<|t::r) []=false:=eq_nil (O.n t<|mem_of h);rw[this];exact⟨_,rfl⟩
end pG
namespace WS
open PySem L2 P2 WP TM T2 PySem.NumText WR WC
def jt(r:kC):Nat:=(r.filter λt=>gD t [40]||gD t [91]).length
def tw(t r):jt (t::r)=(if(gD t [40]||gD t [91])=true then 1 else 0)+jt r:=by
 unfold jt
 grind
def qX(t r):jt r<=jt (t::r):=by rw[tw];walk_at "l"
noncomputable def jk:Tm->Nat
 |.bin _ x y=>jk x+jk y+if y.rk<2 then 1 else 0
 |.times _ _ x=>jk x+if x.rk<3 then 1 else 0
 |.abs x=>jk x+1
 |_=>0
noncomputable def kL:Cn->Nat
 |.cmp _ x y=>jk x+jk y
 |.not c=>kL c+if c.rk<3 then 1 else 0
 |.two s c e=>(kL c+if c.rk<bl s then 1 else 0)+(kL e+if e.rk<mG s then 1 else 0)
section
variable{x:Pr}{f:D->PF}{d:D}{r a:kC}{k b i j:Nat}
def qK(h:jV x f=.ok d a i j):∃e s k b,x=.ok e s k b/\f e s k b=.ok d a i j:=by
 cases x with
 |ok e s k b=>exact⟨e,s,k,b,rfl,h⟩
 |_=>cases h
def z6{g}(h:lZ g x=.ok d a i j):∃e,x=.ok e a i j/\d=g e:=by obtain⟨e,s,k,b,l,c⟩:=qK h;simp_all
def q8{g}(h:tk r g=.ok d a i j):∃t s,r=t::s/\g t s=.ok d a i j:=by
 cases r with
 |nil=>cases h
 |cons t s=>exact⟨t,s,rfl,h⟩
def mH{y}(h:(bif c then x else y)=.ok d a i j):(c=true/\x=.ok d a i j)\/(c=false/\y=.ok d a i j):=by lia
def uk{g}(h:bg k g=.ok d a i j):g (k+1)=.ok d a i j:=by
 rcases mH h with⟨_,h⟩|⟨_,h⟩;·exact h
 ·cases h
def E7{c:Type}{o:gH c}{g:c->Pr}(h:opt o g=.ok d a i j):∃v,o=some v/\g v=.ok d a i j:=by
 cases o with
 |none=>cases h
 |some v=>exact⟨v,rfl,h⟩
def G9{g}(h:xp c r g=.ok d a i j):∃s,r=c::s/\g s=.ok d a i j:=by
 obtain⟨t,s,e,h⟩:=q8 h;rcases mH h with⟨l,h⟩|⟨_,h⟩;·exact⟨s,by rw[e,(nT _ _).mp l],h⟩
 ·cases h
def JU{g}(h:en c r b g=.ok d a i j):∃s,r=c::s/\g s (b+1)=.ok d a i j:=by
 obtain⟨t,s,e,h⟩:=q8 h;rcases mH h with⟨l,h⟩|⟨_,h⟩
 ·rcases mH h with⟨_,h⟩|⟨_,h⟩;·exact⟨s,by rw[e,(nT _ _).mp l],h⟩
  ·cases h
 ·cases h
def L6(h:lv c e r k b=.ok d a i j):r=c::a/\d=e:=by
 obtain⟨t,s,m,h⟩:=q8 h;rcases mH h with⟨l,h⟩|⟨_,h⟩
 ·cases b with
  |zero=>cases h
  |succ b=>cases h;exact⟨by rw[m,(nT _ _).mp l],rfl⟩
 ·cases h
end
def Sd(q:Int)(F:PF):Prop:=∀r k b d a c f,F r k b=.ok d a c f->∃t:Tm,d=t.d/\jt a+jk t+(if t.rk<q then 1 else 0)<=jt r
def adb(h:Sd 0 F):∀r k b d a i l,vf F r k b=.ok d a i l->∃t:Tm,d=t.d/\jt a+jk t+1<=jt r:=by
 intro r k b d a i l e;obtain⟨s,c,j⟩:=JU e;clear e;subst c;have e:=j;clear j;obtain⟨d1,p,q,b1,o,n⟩:=qK e;obtain⟨t,rfl,m⟩:=h _ _ _ _ _ _ _ o;obtain⟨rfl,rfl⟩:=L6 n;refine⟨t,rfl,?_⟩;have f:=tw [40] s;rw[af<|by decide]at f;rw[tw,ao<|by decide]at m;rw[f]
 lia
def adj(h:[[43],[45]].any (gD s)=true):∃v,tS s=.str (sg v):=by
 simp only[bF,fO,dh,ba,nT]at h;rcases h with rfl|rfl;·exact⟨true,(F2 true).2.2⟩
 ·exact⟨false,(F2 false).2.2⟩
def QV(h:[[60],[61]].any (gD s)=true):∃v,tS s=.str (cg v):=by
 simp only[bF,fO,dh,ba,nT]at h;rcases h with rfl|rfl;·exact⟨true,(CC true).2.2.2⟩
 ·exact⟨false,(CC false).2.2.2⟩
def afa{w}(h:vk.any (gD w)=true):∃v,tS w=.str (wd v):=by
 simp only[vk,bF,fO,dh,ba,nT]at h;rcases h with rfl|rfl|rfl|rfl;·exact⟨0,aI D.str<|ext<|by decide⟩
 ·exact⟨1,aI D.str<|ext<|by decide⟩
 ·exact⟨2,aI D.str<|ext<|by decide⟩
 ·exact⟨3,aI D.str<|ext<|by decide⟩
def adf{F:PF}(h:∀r k b d c i j,F r k b=.ok d c i j->∃t:Tm,d=t.d/\jt c+jk t+1<=jt r):Sd 3 (rY F):=by
 intro r k b d c i j e;rcases mH e with⟨_,e⟩|⟨_,e⟩;·grind
 have e:=uk e;obtain⟨w,s,a,f⟩:=q8 e;clear e;subst a;have e:=f;clear f;have p:=qX w s;rcases mH e with⟨_,e⟩|⟨_,e⟩
 ·cases e;exact⟨.here,rfl,by rw[ao<|by show¬(3:Int)<3;decide];show jt c+0+0<=_;omega⟩
 rcases mH e with⟨m,e⟩|⟨_,e⟩
 ·obtain⟨t,s,a,f⟩:=q8 e;clear e;subst a;have e:=f;have l:=qX t s;obtain⟨v,_,e⟩:=E7 e;cases e;obtain⟨u,n⟩:=afa m;exact⟨.kM u (v:Nat),by rw[n];rfl,by rw[ao (by show¬(3:Int)<3;decide)];show jt c+0+0<=_;walk_at "l"⟩
 rcases mH e with⟨_,e⟩|⟨_,e⟩
 ·obtain⟨t,s,a,f⟩:=q8 e;clear e;subst a;have e:=f;clear f;have l:=qX t s;rcases mH e with⟨_,e⟩|⟨_,e⟩
  ·cases e;exact⟨.at t,rfl,by rw[ao<|by show¬(3:Int)<3;decide];show jt c+0+0<=_;walk_at "l"⟩
  ·cases e
 rcases mH e with⟨_,e⟩|⟨_,e⟩
 ·obtain⟨d1,o,rfl⟩:=z6 e;obtain⟨t,rfl,q⟩:=h _ _ _ _ _ _ _ o;exact⟨.abs t,rfl,by rw[ao (by show¬(3:Int)<3;decide)];show jt c+(jk t+1)+0<=_;walk_at "l"⟩
 ·obtain⟨v,_,e⟩:=E7 e;cases e;exact⟨.num v.1 v.2,rfl,by rw[ao (by show¬(3:Int)<3;decide)];show jt c+0+0<=_;omega⟩
def ade{F:PF}(h:Sd 3 F):Sd 2 (qY F):=by
 intro r k b d i o p e;rcases mH e with⟨_,e⟩|⟨_,e⟩
 ·obtain⟨f,s,a,c⟩:=q8 e;subst a;have e:=c;clear c;have n:=qX f s;obtain⟨v,_,e⟩:=E7 e;obtain⟨s,a,c⟩:=G9 e;clear e;subst a;have e:=c;clear c;have m:=qX [42] s;have e:=uk e;obtain⟨d1,l,rfl⟩:=z6 e;obtain⟨t,rfl,j⟩:=h _ _ _ _ _ _ _ l;exact⟨.times v.1 v.2 t,rfl,by rw[ao (by show¬(2:Int)<2;decide)];show jt i+(jk t+if t.rk<3 then 1 else 0)+0<=_;lia⟩
 ·obtain⟨t,rfl,j⟩:=h _ _ _ _ _ _ _ e
  lia
theorem Ob(h:Sd 2 F):∀m (t:Tm) r k b d r' k' b',qu F m t.d r k b=.ok d r' k' b'->∃u:Tm,d=u.d/\jt r'+jk u<=jt r+jk t
 |0,t,r,k,b,d,r',k',b',e=>by cases e
 |m+1,t,r,k,b,d,r',k',b',e=>by
  rcases mH e with⟨q,e⟩|⟨_,e⟩
  ·obtain⟨s,j,a,f⟩:=q8 e;clear e;subst a;have e:=f;clear f;have C:=qX s j;have e:=uk e;obtain⟨d1,c,l,b1,z,i⟩:=qK e;obtain⟨y,rfl,D⟩:=h _ _ _ _ _ _ _ z;obtain⟨v,n⟩:=adj (s:=s) q;rw[n]at i;obtain⟨u,rfl,p⟩:=Ob h m (.bin v t y) c l b1 d r' k' b' i;refine⟨u,rfl,?_⟩;have o:jt r'+jk u<=jt c+(jk t+jk y+if y.rk<2 then 1 else 0):=p
   lia
  ·cases e;exact⟨t,rfl,au _⟩
def adg(h:Sd 2 F):Sd 0 (vh F):=by
 intro r k b d c i m e;obtain⟨d1,a,f,b1,l,j⟩:=qK e;obtain⟨t,rfl,o⟩:=h _ _ _ _ _ _ _ l;obtain⟨u,rfl,n⟩:=Ob h 100 t a f b1 d c i m j;refine⟨u,rfl,?_⟩;have:¬u.rk<0:=by cases u<;>(show¬_<(0:Int);simp[Tm.rk])
 lia
theorem Oa:∀n:Nat,Sd 0 (f0 n).su/\Sd 2 (f0 n).pr/\Sd 3 (f0 n).sg/\(∀r k b d a c l,(f0 n).br r k b=.ok d a c l->∃t:Tm,d=t.d/\jt a+jk t+1<=jt r)
 |0=>⟨λ_ _ _ _ _ _ _ e=>(by cases e),λ_ _ _ _ _ _ _ e=>(by cases e),λ_ _ _ _ _ _ _ e=>(by cases e),λ_ _ _ _ _ _ _ e=>(by cases e)⟩
 |n+1=>by obtain⟨j,i,h,f⟩:=Oa n;exact⟨adg i,ade h,adf f,adb j⟩
def Sc(q:Int)(F:PF):Prop:=∀r k b d a f h,F r k b=.ok d a f h->∃c:Cn,d=c.d/\jt a+kL c+(if c.rk<q then 1 else 0)<=jt r
def ac7(h:Sd 0 F):Sc 3 (vg F):=by
 intro r k b d j C I e;have e:=uk e;obtain⟨d1,p,z,b1,o,a⟩:=qK e;obtain⟨x,rfl,G⟩:=h _ _ _ _ _ _ _ o;obtain⟨s,i,c,f⟩:=q8 a;clear a;subst c;have a:=f;clear f;have q:=qX s i;rcases mH a with⟨m,a⟩|⟨_,a⟩
 ·obtain⟨d2,n,rfl⟩:=z6 a;obtain⟨y,rfl,D⟩:=h _ _ _ _ _ _ _ n;obtain⟨v,l⟩:=QV m;exact⟨.cmp v x y,by rw[l];rfl,by rw[ao (by show¬(4:Int)<3;decide)];show jt j+(jk x+jk y)+0<=_;lia⟩
 ·cases a
def ac9(n:Sc 3 Fn)(m:Sc 0 Fo)(o:Sc 3 Fc):Sc 3 (tA Fn Fo Fc):=by
 intro r k b d j C D e;rcases mH e with⟨_,e⟩|⟨_,e⟩
 ·obtain⟨s,a,f⟩:=G9 e;clear e;subst a;have e:=f;have v:=qX [110,111,116] s;have e:=uk e;obtain⟨d1,i,rfl⟩:=z6 e;obtain⟨c,rfl,h⟩:=n _ _ _ _ _ _ _ i;exact⟨.not c,rfl,by rw[ao (by show¬(3:Int)<3;decide)];show jt j+(kL c+if c.rk<3 then 1 else 0)+0<=_;omega⟩
 rcases mH e with⟨_,e⟩|⟨_,e⟩
 ·obtain⟨s,a,f⟩:=JU e;clear e;subst a;have e:=f;clear f;obtain⟨d1,q,z,b1,i,p⟩:=qK e;obtain⟨c,rfl,h⟩:=m _ _ _ _ _ _ _ i;obtain⟨rfl,rfl⟩:=L6 p;refine⟨c,rfl,?_⟩;have l:=tw [91] s;rw[af<|by decide]at l;rw[tw,ao<|show¬(gD [93] [40]||gD [93] [91])=true by decide]at h
  lia
 ·exact o _ _ _ _ _ _ _ e
theorem N9{w}(a:w=cw s)(h:Sc (mG s) F):∀m (t:Cn) r k b d r' k' b',l4 (wL s) w F m t.d r k b=.ok d r' k' b'->∃u:Cn,d=u.d/\jt r'+kL u+(if u.rk<bl s then 1 else 0)<=jt r+kL t+(if t.rk<bl s then 1 else 0)
 |0,t,r,k,b,d,r',k',b',e=>by cases e
 |m+1,t,r,k,b,d,r',k',b',e=>by
  rcases mH e with⟨_,e⟩|⟨_,e⟩
  ·obtain⟨n,c,j⟩:=G9 e;clear e;subst c;have e:=j;clear j;have z:=qX (wL s) n;have e:=uk e;obtain⟨d1,f,o,b1,v,l⟩:=qK e;obtain⟨y,rfl,C⟩:=h _ _ _ _ _ _ _ v;rw[a]at l;obtain⟨u,rfl,i⟩:=N9 a h m (.two s t y) f o b1 d r' k' b' (by rw[a];exact l);refine⟨u,rfl,?_⟩;have p:¬(Cn.two s t y).rk<bl s:=by
    cases s;·show¬(1:Int)<1;decide
    ·show¬(2:Int)<2;decide
   rw[ao p]at i;have q:jt r'+kL u+(if u.rk<bl s then 1 else 0)<=jt f+((kL t+if t.rk<bl s then 1 else 0)+(kL y+if y.rk<mG s then 1 else 0))+0:=i
   lia
  ·cases e;exact⟨t,rfl,au _⟩
def N7{w}(j:w=cw s)(h:Sc (mG s) F):Sc (bl s) (o5 (wL s) w F):=by
 intro r k b d c i n e;obtain⟨d1,a,f,b1,m,l⟩:=qK e;obtain⟨t,rfl,p⟩:=h _ _ _ _ _ _ _ m;obtain⟨u,rfl,o⟩:=N9 j h 100 t a f b1 d c i n l;refine⟨u,rfl,?_⟩;have:(if t.rk<bl s then 1 else 0)<=(if t.rk<mG s then 1 else 0):=by
  have:bl s<mG s:=by cases s<;>decide
  lia
 omega
def ac8{q p:Int}(i:p<=q)(h:Sc q F):Sc p F:=λr k b d a f l e=>by
 obtain⟨c,rfl,j⟩:=h _ _ _ _ _ _ _ e;refine⟨c,rfl,?_⟩;have:(if c.rk<p then 1 else 0)<=(if c.rk<q then 1 else 0):=by split<;>split<;>lia
 omega
theorem N6:∀n:Nat,Sc 1 (f1 n).or/\Sc 2 (f1 n).and/\Sc 3 (f1 n).not
 |0=>⟨λ_ _ _ _ _ _ _ e=>(by cases e),λ_ _ _ _ _ _ _ e=>(by cases e),λ_ _ _ _ _ _ _ e=>(by cases e)⟩
 |n+1=>by obtain⟨d,c,a⟩:=N6 n;exact⟨N7 (s:=false) rfl c,N7 (s:=true) rfl a,ac9 a (ac8 (by decide) d)<|ac7 (Oa 75).1⟩
def aaa{d k}(h:parse cs=.ok d r k b):∃c:Cn,d=c.d/\kL c<=jt (gI cs):=by
 obtain⟨d1,a,j,b1,i,f⟩:=qK h;obtain⟨c,rfl,l⟩:=(N6 85).1 _ _ _ _ _ _ _ i;cases a with
 |nil=>grind
 |cons t s=>cases f
def N4(s):sg s≠Str.ofString "times":=by cases s<;>decide
def jM{y}(h:D.tup x=D.tup y):x=y:=by cases h;rfl
def str_inj{y}(h:D.str x=D.str y):x=y:=by cases h;rfl
theorem uq:∀(t u:Tm),t.d=u.d->jk t=jk u/\t.rk=u.rk
 |.bin s x y,u,h=>by
  cases u with
  |bin i c f=>have a:=jM h;rw[aC,aC,aC]at a;obtain⟨_,v,d,_⟩:=a;obtain⟨j,r⟩:=uq x c v;obtain⟨b1,z⟩:=uq y f d;refine⟨?_,rfl⟩;show jk x+jk y+(if y.rk<2 then 1 else 0)=jk c+jk f+(if f.rk<2 then 1 else 0);rw[j,b1,z]
  |times p q c=>have a:=jM h;rw[aC]at a;exact absurd (str_inj a.1) (N4 s)
  |_=>exact absurd (aI List.length<|jM h) (by simp)
 |.times p q x,u,h=>by
  cases u with
  |bin i c f=>have a:=jM h;rw[aC]at a;exact absurd (str_inj a.1).symm (N4 i)
  |times l k c=>have a:=jM h;rw[aC,aC,aC]at a;obtain⟨_,_,d,_⟩:=a;obtain⟨j,r⟩:=uq x c d;refine⟨?_,rfl⟩;show jk x+(if x.rk<3 then 1 else 0)=jk c+(if c.rk<3 then 1 else 0);rw[j,r]
  |_=>exact absurd (aI List.length<|jM h) (by simp)
 |.abs x,u,h=>by
  obtain⟨o,ex⟩:=x.d0;cases u with
  |num p q=>have a:=jM h;rw[aC,aC]at a;have d:=a.2.1;rw[ex]at d;cases jM d
  |kM w n=>have a:=jM h;rw[aC,aC]at a;have d:=a.2.1;rw[ex]at d;cases d
  |«at» m=>have a:=jM h;rw[aC,aC]at a;have d:=a.2.1;rw[ex]at d;cases d
  |abs c=>have a:=jM h;rw[aC,aC]at a;obtain⟨j,r⟩:=uq x c a.2.1;exact⟨by show jk x+1=jk c+1;rw[j],rfl⟩
  |_=>exact absurd (aI List.length<|jM h) (by simp)
 |.num p q,u,h=>by
  cases u with
  |bin i c f=>exact absurd (aI List.length<|jM h) (by simp)
  |times l k c=>exact absurd (aI List.length<|jM h) (by simp)
  |abs c=>obtain⟨o,ex⟩:=c.d0;have a:=jM h;rw[aC,aC]at a;have d:=a.2.1;rw[ex]at d;cases jM d
  |_=>exact⟨rfl,rfl⟩
 |.here,u,h=>by
  cases u with
  |bin i c f=>exact absurd (aI List.length<|jM h) (by simp)
  |times l k c=>exact absurd (aI List.length<|jM h) (by simp)
  |abs c=>exact absurd (aI List.length<|jM h) (by simp)
  |_=>exact⟨rfl,rfl⟩
 |.kM w n,u,h=>by
  cases u with
  |bin i c f=>exact absurd (aI List.length<|jM h) (by simp)
  |times l k c=>exact absurd (aI List.length<|jM h) (by simp)
  |abs c=>obtain⟨o,ex⟩:=c.d0;have a:=jM h;rw[aC,aC]at a;have d:=a.2.1;rw[ex]at d;cases d
  |_=>exact⟨rfl,rfl⟩
 |.at m,u,h=>by
  cases u with
  |bin i c f=>exact absurd (aI List.length<|jM h) (by simp)
  |times l k c=>exact absurd (aI List.length<|jM h) (by simp)
  |abs c=>obtain⟨o,ex⟩:=c.d0;have a:=jM h;rw[aC,aC]at a;have d:=a.2.1;rw[ex]at d;cases d
  |_=>exact⟨rfl,rfl⟩
def IW(s s'):cg s≠cw s':=by cases s<;>cases s'<;>decide
def Rh(h:cw s=cw s'):s=s':=by cases s<;>cases s'<;>first|rfl|exact absurd h (by decide)
theorem y4:∀(t u:Cn),t.d=u.d->kL t=kL u/\t.rk=u.rk
 |.cmp s x y,u,h=>by
  cases u with
  |cmp f j i=>have a:=jM h;rw[aC,aC,aC]at a;obtain⟨_,l,k,_⟩:=a;refine⟨?_,rfl⟩;show jk x+jk y=jk j+jk i;rw[(uq x j l).1,(uq y i k).1]
  |not c=>exact absurd (aI List.length<|jM h) (by simp)
  |two f c e=>have a:=jM h;rw[aC]at a;exact absurd (str_inj a.1) (IW s f)
 |.not c,u,h=>by
  cases u with
  |not d=>have a:=jM h;rw[aC,aC]at a;obtain⟨o,n⟩:=y4 c d a.2.1;refine⟨?_,rfl⟩;show kL c+(if c.rk<3 then 1 else 0)=kL d+(if d.rk<3 then 1 else 0);rw[o,n]
  |_=>exact absurd (aI List.length<|jM h) (by simp)
 |.two s c e,u,h=>by
  cases u with
  |cmp f j i=>have a:=jM h;rw[aC]at a;exact absurd (str_inj a.1).symm (IW f s)
  |not d=>exact absurd (aI List.length<|jM h) (by simp)
  |two f d m=>have a:=jM h;rw[aC,aC,aC]at a;obtain⟨q,l,k,_⟩:=a;have p:=Rh (str_inj q);subst p;obtain⟨o,n⟩:=y4 c d l;obtain⟨b1,r⟩:=y4 e m k;refine⟨?_,rfl⟩;show(kL c+if c.rk<bl s then 1 else 0)+(kL e+if e.rk<mG s then 1 else 0)=(kL d+if d.rk<bl s then 1 else 0)+(kL m+if m.rk<mG s then 1 else 0);rw[o,n,b1,r]
def jx(a:hZ):Nat:=(a.filter λc=>c==40||c==91).length
def mZ(x y):jx (x++y)=jx x+jx y:=by unfold jx;rw[dY,aa]
def xE(c y):jx (c::y)=(if(c==40||c==91)=true then 1 else 0)+jx y:=by unfold jx;rw[fF];split<;>simp<;>walk_at "l"
def MI(x y):jt (x++y)=jt x+jt y:=by unfold jt;rw[dY,aa]
def ZC:jt []=0:=rfl
def xU{w}(h:∀c∈w,jz c=true):jx w=0/\jt (gI w)=0:=by
 constructor
 ·unfold jx;rw[List.filter_eq_nil_iff.mpr];·rfl
  ·intro c a z;have:=h c a;simp only[ba,bK]at z;rcases z with rfl|rfl<;>exact absurd this (by decide)
 ·cases w with
  |nil=>rfl
  |cons c r=>rw[tP h<|by simp,tw,ZC,ao];intro z;rw[ba,nT,nT]at z;have:=h c (bf ..);rcases z with z|z<;>(cases z;exact absurd this (by decide))
theorem yd(p):∀(l:hZ) c,c∈l.takeWhile p->p c=true
 |[],c,h=>by cases h
 |a::l,c,h=>by
  rw[cW]at h;split at h
  ·rename_i z;rcases aT.mp h with rfl|h;·exact z
   ·exact yd p l c h
  ·cases h
theorem MJ:∀n (cs:hZ),cs.length<n->jt (gI cs)=jx cs
 |0,cs,h=>absurd h (fQ _)
 |n+1,cs,h=>by
  have e:=el (p:=jz) (l:=cs);have k:∀c∈cs.takeWhile jz,jz c=true:=λc i=>yd jz cs c i;generalize cs.takeWhile jz=w at e k;obtain⟨f,a⟩:=xU k;cases d:cs.dropWhile jz with
  |nil=>rw[d,aP]at e;rw[<-e,f,a]
  |cons c y=>
   have i:jz c=false:=by have:=List.head_dropWhile_not (p:=jz) (l:=cs) (by rw[d];simp);simp only[d,List.head_cons]at this;simpa using this
   rw[d]at e;have m:y.length<n:=by have:=aI List.length e;simp at this;lia
   have j:=MJ n y m;rw[<-e];by_cases z:c=32
   ·subst z;rw[l7,MI,mZ,xE,ao<|by decide,f,a,j];simp
   ·rw[sj i z,MI,mZ,xE,tw,f,a,j];have:(gD [c] [40]||gD [c] [91])=(c==40||c==91):=by
     rw[bx,ba,ba,nT,nT,bK,bK];simp
    rw[this]
def needed(j:jx cs<kL c){d k}(h:parse cs=.ok d r k b):d≠c.d:=λe=>by
 obtain⟨i,f,a⟩:=aaa h;rw[MJ (cs.length+1) cs<|bL _]at a;have:=(y4 i c<|by rw[<-f,e]).1
 lia
def xD{o}(a:(o==40||o==91)=true)(d:(c==40||c==91)=false)(b x):jx (brk o c b x)=jx x+if b=true then 1 else 0:=by
 unfold brk;cases b with
 |false=>rfl
 |true=>rw[af rfl,af rfl,xE,af a,mZ,xE,ao<|by rw[d];simp];show 1+(jx x+(0+0))=_;walk_at "l"
def qr(y):jx (32::y)=jx y:=by rw[xE,ao<|by decide];simp
def YL(w):jx (gj<|wd w)=0:=by
 unfold wd;split;·decide
 ·split;·decide
  ·split<;>decide
def wJ(p:Prop)[Decidable p]:(if decide p=true then 1 else 0)=(if p then 1 else 0):=by by_cases h:p<;>simp[h]
theorem vd:∀{t:Tm},t.Ok->jx t.tx=jk t
 |.num p q,h=>(xU<|xV h).1
 |.here,_=>by show jx (gj "here")=0;decide
 |.kM w n,h=>by have d:1<=n/\n<=9:=h;show jx (gj (wd w)++32::i4 n)=0;rw[mZ,qr,YL,rS<|by lia,(xU<|qv _).1]
 |.at m,h=>by show jx (gj "at"++32::m)=0;rw[mZ,qr,show jx (gj "at")=0 by decide,(xU (w:=m) λc a=>by have:=h.2.2.1 c a;unfold jz;rw[ba,aq,aq,bZ,bZ,bZ,bZ];simp_all).1]
 |.bin s x y,h=>by
  show jx (x.tx++32::(gj (sg s)++32::brk 40 41 (decide<|y.rk<2) y.tx))=jk x+jk y+if y.rk<2 then 1 else 0
  rw[mZ,qr,mZ,qr,xD rfl rfl,vd h.1,vd h.2,show jx (gj<|sg s)=0 by cases s<;>decide,wJ]
  lia
 |.times p q x,h=>by
  show jx (iw p q++32::([42]++32::brk 40 41 (decide<|x.rk<3) x.tx))=jk x+if x.rk<3 then 1 else 0
  rw[mZ,qr,mZ,qr,xD rfl rfl,(xU<|xV h.1).1,vd h.2,show jx [42]=0 by decide,wJ];simp
 |.abs x,h=>by show jx ([97,98,115,40]++(x.tx++[41]))=jk x+1;rw[mZ,mZ,vd (t:=x) h,show jx [97,98,115,40]=1 by decide,show jx [41]=0 by decide];walk_at "l"
theorem Ak:∀{c:Cn},c.Ok->jx c.tx=kL c
 |.cmp s x y,h=>by show jx (x.tx++32::(gj (cg s)++32::y.tx))=jk x+jk y;rw[mZ,qr,mZ,qr,vd h.1,vd h.2,show jx (gj<|cg s)=0 by cases s<;>decide];simp
 |.not c,h=>by
  show jx ([110,111,116,32]++brk 91 93 (decide<|c.rk<3) c.tx)=kL c+if c.rk<3 then 1 else 0
  rw[mZ,xD rfl rfl,Ak (c:=c) h,show jx [110,111,116,32]=0 by decide,wJ];simp
 |.two s c e,h=>by show jx (brk 91 93 (decide<|c.rk<bl s) c.tx++32::(gj (cw s)++32::brk 91 93 (decide<|e.rk<mG s) e.tx))=(kL c+if c.rk<bl s then 1 else 0)+(kL e+if e.rk<mG s then 1 else 0);rw[mZ,qr,mZ,qr,xD rfl rfl,xD rfl rfl,Ak h.1,Ak h.2,show jx (gj<|cw s)=0 by cases s<;>decide,wJ,wJ];simp
def bare{c:Cn}(h:c.Ok)(a:jx cs+1=jx c.tx){d k}(e:parse cs=.ok d r k b):d≠c.d:=
 needed (by rw[<-Ak h];walk_at "l") e
def jn(y:hZ):gi (gi Nat)->gi Nat
 |[]=>[]
 |[p]=>p
 |p::q::r=>p++(y++jn y (q::r))
theorem sR(y):∀l:gi gp,gj (Str.join y l)=jn (gj y) (l.map gj)
 |[]=>rfl
 |[p]=>rfl
 |p::q::r=>by show gj (p++y++Str.join y (q::r))=_;rw[mV,mV,sR y<|q::r,aV];rfl
def acE(x y z):∃a,gj x=jn (gj y) a/\gj (Txt.replace x y z)=jn (gj z) a:=by
 unfold Txt.replace;split;·exact⟨[gj x],rfl,rfl⟩
 ·refine⟨(Builtin.Str.partsBetween x (Builtin.Str.occurrences x y 0 x.length<|x.length+1) y.length).map gj,?_,?_⟩
  ·have:=StrLaws.glued_between_self x y (x.length+1);rw[dm]at this;rw[<-sR,this]
  ·rw[dm,sR]
def ae9(w):∀c∈gj (wd w),jz c=true:=by
 unfold wd;split;·decide
 ·split;·decide
  ·split<;>decide
theorem Tm.oB:∀{t:Tm},t.Ok->t.tx.length<=25*t.sz
 |.num p q,h=>by have:=vA h;show(iw p q).length<=25*1;walk_at "l"
 |.here,_=>by show(gj "here").length<=25*1;decide
 |.kM w n,h=>by have f:1<=n/\n<=9:=h;have c:=GY w;have a:=tr (i:=n) (by omega);show(gj (wd w)++32::i4 n).length<=25*1;simp only[aa,ag];lia
 |.at m,h=>by
  have f:m.length<=8:=h.1;have a:(gj "at").length=2:=by decide
  show(gj "at"++32::m).length<=25*1;simp only[aa,ag];lia
 |.bin s x y,h=>by
  have c:=Tm.oB h.1;have a:=Tm.oB h.2;have j:(gj<|sg s).length=1:=by cases s<;>decide
  have d:=lC 40 41 (decide<|y.rk<2) y.tx;show(x.tx++32::(gj (sg s)++32::brk 40 41 (decide<|y.rk<2) y.tx)).length<=25*(x.sz+y.sz+1);simp only[aa,ag];lia
 |.times p q x,h=>by have c:=vA h.1;have a:=Tm.oB h.2;have d:=lC 40 41 (decide<|x.rk<3) x.tx;show(iw p q++32::([42]++32::brk 40 41 (decide<|x.rk<3) x.tx)).length<=25*(x.sz+1);simp only[aa,ag,bj];lia
 |.abs x,h=>by have a:=Tm.oB (t:=x) h;show([97,98,115,40]++(x.tx++[41])).length<=25*(x.sz+1);simp only[aa,ag,bj];lia
theorem Cn.oB:∀{c:Cn},c.Ok->c.tx.length<=25*c.sz
 |.cmp s x y,h=>by have d:=Tm.oB h.1;have a:=Tm.oB h.2;have f:=y9 s;show(x.tx++32::(gj (cg s)++32::y.tx)).length<=25*(x.sz+y.sz+1);simp only[aa,ag];lia
 |.not c,h=>by have d:=Cn.oB (c:=c) h;have a:=lC 91 93 (decide<|c.rk<3) c.tx;show([110,111,116,32]++brk 91 93 (decide<|c.rk<3) c.tx).length<=25*(c.sz+1);simp only[aa,ag,bj];lia
 |.two s c e,h=>by have d:=Cn.oB h.1;have a:=Cn.oB h.2;have f:=CM s;have j:=lC 91 93 (decide<|c.rk<if s=true then 2 else 1) c.tx;have i:=lC 91 93 (decide<|e.rk<if s=true then 3 else 2) e.tx;show(brk 91 93 (decide<|c.rk<if s=true then 2 else 1) c.tx++32::(gj (cw s)++32::brk 91 93 (decide<|e.rk<if s=true then 3 else 2) e.tx)).length<=25*(c.sz+e.sz+1);simp only[aa,ag];lia
end WS
namespace pG
open PySem L2 P2 WP TM T2 PySem.NumText WR WC WS
def blk(a:hZ):gL:=a.all λc=>c==32
def sub_len(x i j):(Builtin.Str.strSub x i j).length=min j x.length - i:=by show(x.cps.extract i j).size=min j x.cps.size - i;simp
theorem OO{g:Nat->gL}{y}(h:g y=false):∀s:gi Nat,((s++[y]).takeWhile g).length<=s.length
 |[]=>by rw[bq,cW,h];simp
 |c::s=>by
  rw[cu,cW];split;·rw[ag,ag];exact Nat.succ_le_succ (OO h s)
  ·simp
theorem Me{g}:∀(l:hZ) c,c∈l.takeWhile g->g c=true
 |[],c,h=>by simp at h
 |x::l,c,h=>by
  rw[cW]at h;split at h
  ·rename_i a;rcases aT.mp h with rfl|h;·exact a
   ·exact Me l c h
  ·simp at h
theorem yd{g:Nat->gL}:∀(l:hZ),(∀c∈l,g c=true)->l.takeWhile g=l
 |[],_=>rfl
 |x::l,h=>by rw[cW,h x<|.head _,af rfl,yd l λc a=>h c<|.tail _ a]
def adG(g:Nat->gL)(x:gp):(Txt.stripBy g true true x).length=0↔∀c∈gj x,g c=true:=by
 have e:(Txt.stripBy g true true x).length=x.length - (((gj x).drop ((gj x).takeWhile g).length).reverse.takeWhile g).length - ((gj x).takeWhile g).length:=by
  unfold Txt.stripBy;split
  ·rename_i h;simp only[stripSame,aq,bK]at h;obtain⟨j,k⟩:=h;have i:((gj x).takeWhile g).length=0:=j;have a:x.length - (((gj x).drop (stripLo g true x)).reverse.takeWhile g).length=x.length:=k;rw[j]at a;rw[i];exact a.symm
  ·show(Builtin.Str.strSub x _ _).length=_;rw[sub_len];show min (x.length - (((gj x).drop ((gj x).takeWhile g).length).reverse.takeWhile g).length) x.length - ((gj x).takeWhile g).length=_;rw[eH<|Nat.sub_le _ _]
 rw[e,la];generalize gj x=l;constructor
 ·intro h c d;have f:∀l:gi Nat,l.length - ((l.drop (l.takeWhile g).length).reverse.takeWhile g).length - (l.takeWhile g).length=0->∀c∈l,g c=true:=by
   intro l h;have d1:l=l.takeWhile g++l.dropWhile g:=(el).symm;have d2:l.drop (l.takeWhile g).length=l.dropWhile g:=by
    conv=>lhs;arg 2;rw[d1]
    exact List.drop_left
   cases q:l.dropWhile g with
   |nil=>rw[q,aP]at d1;intro c d;rw[d1]at d;exact Me l c d
   |cons y r=>
    have m:g y=false:=by have:=List.head?_dropWhile_not g l;rw[q]at this;simpa using this
    rw[d2,q]at h;have o:((y::r).reverse.takeWhile g).length<=r.length:=by rw[List.reverse_cons];exact(List.length_reverse▸OO m r.reverse:_<=r.length)
    have n:l.length=(l.takeWhile g).length+(r.length+1):=by
     conv=>lhs;rw[d1,q]
     rw[aa,ag]
    omega
  exact f l h c d
 ·intro h;have:l.takeWhile g=l:=yd l h;rw[this];simp
def adF(a:dV i ρ=.ok (tS cs))(h:cs.length<=30000):b1 tB (d2 gW (jW "str" vF (dV i)<|gh (dC<|.str " ") gk)<|dC<|.str "") ρ=.ok (blk cs):=by
 have e:vF (tS cs) [.str " "]=.ok (.str<|Txt.stripChars (gm cs) " "):=by show(if(gm cs).length<=sizeLine then R.ok (D.str<|Txt.stripChars (gm cs) " ")else .bad)=_;rw[af<|size_of<|by rw[rO];walk_at "l"]
 have q:decide (Txt.stripChars (gm cs) (Str.ofString " ")=Str.ofString "")=blk cs:=by
  rw[bx,aA];have l:=adG (Str.ofString " ").cps.contains (gm cs);rw[lL]at l;have d:Txt.stripChars (gm cs) (Str.ofString " ")=Str.ofString ""↔(Txt.stripBy (Str.ofString " ").cps.contains true true (gm cs)).length=0:=by
   show Txt.stripBy _ true true (gm cs)=_↔_;generalize Txt.stripBy _ true true (gm cs)=y;constructor;·intro h;rw[h];rfl
   ·intro h;refine ext ?_;rw[wH];exact cA (by rw[<-la];exact h)
  rw[d,l];unfold blk;rw[aZ];have:∀c:Nat,(Str.ofString " ").cps.contains c=true↔(c==32)=true:=λc=>by rw[bK];show(#[32]:lT Nat).contains c=true↔_;simp
  simp_all
 rw[tG,oF,r4,a,gM,jZ,lM,gM,kF,gM,gM,e,af<|show oV "str" (tS cs)=true by rfl,gM,lM,gM,xK,q];rfl
theorem F6:∀{l},c∉l->gO c l=[l]
 |[],_=>rfl
 |x::r,h=>by have a:x≠c:=λe=>h (by rw[e];exact .head _);exact q5 a (F6 λz=>h<|.tail _ z)
theorem Oh:∀a,a≠[]->(∀r∈a,c∉r)->gO c (jn [c] a)=a
 |[],h,_=>absurd rfl h
 |[p],_,h=>F6 (h p<|.head _)
 |p::q::r,_,h=>by show gO c (p++c::jn [c] (q::r))=_;rw[F7,F6<|h p<|.head _,Oh (q::r) (by simp) λx d=>h x<|.tail _ d];rfl
def abY(a:hZ)(c:a.length<=900000):oH (tS a) [.str "\n"]=.ok (.lst<|(gO 10 a).map tS):=by show(if((Str.ofString "\n").length==0)=false∧(gm a).length+2≤sizeLine then R.ok (D.lst<|(Txt.split (gm a)<|Str.ofString "\n").map D.str)else .bad)=_;rw[af ⟨by decide,size_of<|by rw[rO];lia⟩];have:=F8 (gm a) 10;rw[lL]at this;rw[<-this,bu];rfl
inductive Rw where
 |rule(t:Tk)(d:D)|fill(ds:List D)|no|bad
abbrev qt:PF:=λr k b=>pEnd ((f1 85).or r k b)
def lg(a T:kC):Rw:=bif gD (nx T) [102,105,108,108]then(match Am T 0 0 with
    |.ok (.tup ds) _ _ _=>.fill ds
    |.ok _ _ _ _=>.bad
    |.no=>.no
    |.bad=>.bad)else match n0 qt a T 0 0 with
    |.ok (.tup [.str s,d]) _ _ _=>.rule (gj s) d
    |.ok _ _ _ _=>.bad
    |.no=>.no
    |.bad=>.bad
inductive Bk where
 |ok(rs:List<|Tk×D)(f:Option<|List D)|no(n:Nat)|bad
def kN:Nat->gi (Tk×D)->gH (gi D)->gi (gi Nat)->Bk
 |_,rs,f,[]=>.ok rs f
 |n,rs,f,cs::r=>bif blk cs then kN (n+1) rs f r else match f with
  |some _=>.no n
  |none=>match lg (rs.map Prod.fst) (gI cs)with
   |.rule t d=>kN (n+1) (rs++[(t,d)]) none r
   |.fill d=>kN (n+1) rs (some d) r
   |.no=>.no n
   |.bad=>.bad
def acN{G k d}(h:n0 G ns T k b=.ok d r k' b'):∃t e,d=.tup [tS t,e]/\t∈T/\full ns t=false:=by
 unfold n0 xp tk at h;match T,h with
 |x::t::y::j,h=>
  dsimp only at h;cases i:gD x [109,97,114,107]with
  |false=>rw[i]at h;cases h
  |true=>
   rw[i,bB]at h;cases f:TR.ki t with
   |false=>rw[f]at h;cases h
   |true=>
    rw[f,bB]at h;cases c:gD y [58]with
    |false=>rw[c]at h;cases h
    |true=>
     rw[c,bB]at h;unfold jV at h;cases a:G j k b with
     |no=>rw[a]at h;cases h
     |bad=>rw[a]at h;cases h
     |ok d2 l k3 m=>grind
 |[x,t],h=>simp_all
 |[x],h=>simp_all
 |[],h=>cases h
structure Rd(a:Ad)(Fp Fw Fo:gw)(Fe:hL):Prop where
 sp:∀cs:gi Nat,cs.length<=30000->Fp [tS cs]=.ok (.lst<|(gI cs).map tS)
 wh:∀(t:Tk) (lo hi:Nat),t.length<=1000->hi<=100000000->Fw [tS t,.int (lo:Nat),.int (hi:Nat)]=mu a (kB t lo hi)
 wo:∀t:Tk,t.length<=1000->Fo [tS t]=rX a (gm t)
 en:∀(S0:ic) (T:kC),ke T->(∀t∈T,t.length<=1000)->jB S0 a T Fe qt
 mt:l0 a.iV a.NoText a.NoText=true
structure oR(cs:hZ):Prop where
 l:cs.length<=30000
 s:∀c∈cs,c<=127
 t:∀t∈gI cs,t.length<=1000
def fD:gH (gi D)->D
 |none=>.non
 |some a=>.tup a
variable{a:Ad}{Fp Fw Fo:gw}{A:hL}
abbrev Zi(a:Ad)(Fp:gw):hL:=λzs S=>g7 (uS a Fp S.length (ij 2 zs) S)
abbrev Zf(a:Ad)(Fw:gw):hL:=λzs S=>g7 (wW a Fw (Ze a) (Zt a) (Zx a) S.length (ij 3 zs) S)
abbrev Zr(a:Ad)(Fo:gw)(A:hL):hL:=λzs S=>g7 (wX a Fo (Ze a) (Zt a) A S.length (ij 4 zs) S)
abbrev Bd(a:Ad)(Fp Fw Fo:gw)(A:hL):gZ:=uh a (Zi a Fp) (Za a) (Zf a Fw) (Zr a Fo A)
abbrev ev(x:D)(f:gH<|gi D)(n:Nat)(cs:hZ)(z:gH Z):hU:=[ig x,gz 0,ig<|fD f,jF (n:Nat),ig<|tS cs,z]
def Cc{n}{cs:hZ}(h:cs.length<=30000):zB (b1 tB<|d2 gW (jW "str" vF (dV 4)<|gh (gs " ") gk)<|gs "") (ev x f n cs z) S=.ok (blk cs) S:=by rw[vU,adF (cs:=cs) rfl h];rfl
def Ql{n}{c:hZ}(h:c.length<=30000)(d:blk c=true):Bd a Fp Fw Fo A (ev x f n c z) S=.ct (ev x f n c z) S:=by unfold Bd uh;rw[i9,oO,Cc h,d];rfl
def Qk{n}{c:hZ}(h:c.length<=30000)(d:blk c=false):Bd a Fp Fw Fo A (ev x (some ds) n c z) S=.ex a.NoText ["row"] [.int (n:Nat)] S:=by unfold Bd uh;rw[i9,oO,Cc h,d];rw[oN,bo,vT,mO,i9,oO,vU];have e:b1 tB (d2 oA (dV 2)<|dC .non) (iO<|ev x (some ds) n c z)=.ok true:=rfl;rw[e];rfl
def afk{c:ic}{n k}:j6 tB (z2 gW (hY a.Tokens "ahead" (Za a) [(.int 0)] (zV 5) gA)<|zD<|dC<|.str "fill") (ev x none n cs<|some<|.loc c.length) (gu c a T p k b)=.ok (gD (nx<|T.drop p) [102,105,108,108]) (gu c a T p k b):=by
 have e:hY a.Tokens "ahead" (Za a) [(.int 0)] (zV 5) gA (ev x none n cs<|some<|.loc c.length) (gu c a T p k b)=.ok (.d<|tS<|nx<|T.drop p) (gu c a T p k b):=by refine(Kb (n:=c.length) (zs:=[]) rfl sY rfl rfl).trans ?_;exact EK 0
 rw[qA,qz,e,kr,nc,lM,lj,kr];simp only[kr,x8,lj,q4];rfl
def Jo{k R}(f:S0=c::R)(h:R.any (nQ 0)=false):∃d,d.any (nQ 0)=false/\gu S0 a T p k b=c::d:=by subst f;refine⟨R++[.ob a.Tokens [("tokens",.d<|.lst<|T.map tS),("place",.d<|.int p),("parts",.d<|.int k),("brackets",.d<|.int b)]],?_,rfl⟩;rw[List.any_append,h];rfl
abbrev li(rs:rF):Cell:=.li ((rs.map kq).map .d)
def Qp(H:Rd a Fp Fw Fo A){x:D}{n:Nat}(m:oR cs){rs:rF}{R:ic}(L:R.any (nQ 0)=false)(U:rs.length<=12)(V:∀r∈rs,PyData.strOk (gm r.1)=true)(o:S0=li rs::R):
    match lg (rs.map Prod.fst) (gI cs)with
    |.fill v=>∃i,i.any (nQ 0)=false/\sr (l0 a.iV a.NoText) a.NoText "row" 3 (sA (j6 tB<|z2 gW (hY a.Tokens "ahead" (Za a) [(.int 0)] (zV 5) gA)<|zD<|gs "fill") (sC 2<|oa (Zf a Fw)<|gx (zV 5) gA)<|sy 1<|oa (Zr a Fo A)<|gx (zV 5)<|gx (zV 1) gA) (ev x none n cs<|gz S0.length) (gu S0 a (gI cs) 0 0 0)=.nx (ev x (some v) n cs<|gz S0.length) (li rs::i)
    |.rule t d=>(t∈gI cs/\rs.length≠12)/\∃i,i.any (nQ 0)=false/\sr (l0 a.iV a.NoText) a.NoText "row" 3 (sA (j6 tB<|z2 gW (hY a.Tokens "ahead" (Za a) [(.int 0)] (zV 5) gA)<|zD<|gs "fill") (sC 2<|oa (Zf a Fw)<|gx (zV 5) gA)<|sy 1<|oa (Zr a Fo A)<|gx (zV 5)<|gx (zV 1) gA) (ev x none n cs<|gz S0.length) (gu S0 a (gI cs) 0 0 0)=.nx (ev x none n cs<|gz S0.length) (li (rs++[(t,d)])::i)
    |.no=>∃S,sr (l0 a.iV a.NoText) a.NoText "row" 3 (sA (j6 tB<|z2 gW (hY a.Tokens "ahead" (Za a) [(.int 0)] (zV 5) gA)<|zD<|gs "fill") (sC 2<|oa (Zf a Fw)<|gx (zV 5) gA)<|sy 1<|oa (Zr a Fo A)<|gx (zV 5)<|gx (zV 1) gA) (ev x none n cs<|gz S0.length) (gu S0 a (gI cs) 0 0 0)=.ex a.NoText ["row","row"] [.int (n:Nat),.int (n:Nat)] S
    |.bad=>True:=by
 have O:=OJ m.l m.s
 have w:∀(M:t7) (ρ:hU) (S:ic),sr (l0 a.iV a.NoText) a.NoText "row" 3 M ρ S=(match(M ρ S:RX hU)with
  |.ok jr S'=>jK.nx jr S'
  |.ex c ns v S'=>if l0 a.iV a.NoText c=true/\ns.length=1/\v.length=1 then(match(ρ[3]?:gH (gH Z))with
   |some (some (.d d))=>.ex a.NoText ["row","row"] [d,d] S'
   |_=>.bad)else .bad
  |.bad=>.bad):=λ_ _ _=>rfl
 have P:∀(c:nt) (f g:t7) (ρ:hU) (S:ic),sA c f g ρ S=(match c ρ S with
  |.ok b C=>if b=true then f ρ C else g ρ C
  |_=>.bad):=λ_ _ _ _ _=>rfl
 rw[w,P,afk];have d0:(gI cs).drop 0=gI cs:=rfl;dsimp only;unfold lg;rw[d0];cases hf:gD (nx<|gI cs) [102,105,108,108]with
 |true=>
  rw[bB,af rfl];have h:=ac0 (S0:=S0) (a:=a) (T:=gI cs) (p:=0) (k:=0) (b:=0) O (Fw:=Fw) (λt l lo Y hh=>H.wh t lo Y (m.t t l) hh) (gu S0 a (gI cs) 0 0 0).length;rw[d0]at h;have e:sC 2 (oa (Zf a Fw)<|gx (zV 5) gA) (ev x none n cs<|gz S0.length) (gu S0 a (gI cs) 0 0 0)=(g7<|wW a Fw (Ze a) (Zt a) (Zx a) (gu S0 a (gI cs) 0 0 0).length [gz S0.length,none,none] (gu S0 a (gI cs) 0 0 0)).bind λz C=>.ok [ig x,gz 0,some z,jF (n:Nat),ig<|tS cs,gz S0.length] C:=rfl;rw[e];cases q:Am (gI cs) 0 0 with
  |bad=>trivial
  |no=>rw[q]at h;obtain⟨S,h⟩:=h;rw[h];exact⟨S,af ⟨H.mt,rfl,rfl⟩⟩
  |ok d r k b=>
   rw[q]at h;obtain⟨F,_,h⟩:=h;rw[h];cases d with
   |tup v=>obtain⟨i,J,I⟩:=Jo (a:=a) (T:=gI cs) (p:=F) (k:=k) (b:=b) o L;exact⟨i,J,by rw[I];rfl⟩
   |_=>trivial
 |false=>
  rw[bo,ao<|by simp];have h:=ac4 (S0:=S0) (a:=a) (T:=gI cs) (p:=0) (k:=0) (b:=0) O (Fo:=Fo) (λt l=>H.wo t<|m.t t l) (H.en S0 (gI cs) O m.t) (rs:=rs) (by rw[o];rfl) U V (gu S0 a (gI cs) 0 0 0).length;rw[d0]at h
  have e:sy 1 (oa (Zr a Fo A) (gx (zV 5) (gx (zV 1) gA))) (ev x none n cs (gz S0.length)) (gu S0 a (gI cs) 0 0 0)=(g7 (wX a Fo (Ze a) (Zt a) A (gu S0 a (gI cs) 0 0 0).length [gz S0.length,gz 0,none,none] (gu S0 a (gI cs) 0 0 0))).bind λz N=>(match(N[0]?:gH Cell)with
   |some (.li j)=>if j.length<sizeLine then .ok (ev x none n cs<|gz S0.length) (N.set 0<|.li<|j++[z])else .bad
   |_=>.bad):=by subst o;rfl
  rw[e];cases q:n0 qt (rs.map Prod.fst) (gI cs) 0 0 with
  |bad=>trivial
  |no=>rw[q]at h;obtain⟨S,h⟩:=h;rw[h];exact⟨S,af ⟨H.mt,rfl,rfl⟩⟩
  |ok d r k b=>
   obtain⟨t,d2,rfl,l,G⟩:=acN q;rw[q]at h;obtain⟨F,_,h⟩:=h;rw[h];obtain⟨i,J,I⟩:=Jo (a:=a) (T:=gI cs) (p:=F) (k:=k) (b:=b) o L;rw[I];dsimp only;rw[lL];refine⟨⟨l,λz=>?_⟩,i,J,?_⟩
   ·unfold full at G;rw[ae,z]at G;cases G
   ·rw[kr];have e2:(if((rs.map kq).map Z.d).length<sizeLine then RX.ok (ev x none n cs<|gz S0.length) (Cell.li ((rs.map kq).map Z.d++[.d<|.tup [tS t,d2]])::i)else .bad:RX hU)=RX.ok (ev x none n cs<|gz S0.length) (li (rs++[(t,d2)])::i):=by
     rw[af<|show((rs.map kq).map Z.d).length<sizeLine from size_of (n:=((rs.map kq).map Z.d).length+1) (by rw[ae,ae];walk_at "l")];unfold li;rw[aH,aH];rfl
    have e3:(match((li rs::i:ic)[0]?:gH Cell)with
     |some (.li j)=>if j.length<sizeLine then RX.ok (ev x none n cs<|gz S0.length) ((li rs::i:ic).set 0 (.li<|j++[.d<|.tup [tS t,d2]]))else .bad
     |_=>.bad:RX hU)=RX.ok (ev x none n cs (gz S0.length)) (li (rs++[(t,d2)])::i):=e2
    rw[e3]
def Qn(H:Rd a Fp Fw Fo A){x:D}{n:Nat}(v:blk cs=false)(f:oR cs){z:gH Z}{rs:rF}{R:ic}(C:R.any (nQ 0)=false)(o:rs.length<=12)(p:∀r∈rs,PyData.strOk (gm r.1)=true):
    match lg (rs.map Prod.fst) (gI cs)with
    |.fill k=>∃c y,c.any (nQ 0)=false/\Bd a Fp Fw Fo A (ev x none n cs z) (li rs::R)=.nx (ev x (some k) n cs y) (li rs::c)
    |.rule t d=>(t∈gI cs/\rs.length≠12)/\∃c y,c.any (nQ 0)=false/\Bd a Fp Fw Fo A (ev x none n cs z) (li rs::R)=.nx (ev x none n cs y) (li (rs++[(t,d)])::c)
    |.no=>∃S,Bd a Fp Fw Fo A (ev x none n cs z) (li rs::R)=.ex a.NoText ["row","row"] [.int (n:Nat),.int (n:Nat)] S
    |.bad=>True:=by
 have h:=Qp H (x:=x) (n:=n) f C o p rfl;have e:Bd a Fp Fw Fo A (ev x none n cs z) (li rs::R)=sr (l0 a.iV a.NoText) a.NoText "row" 3 (sA (j6 tB<|z2 gW (hY a.Tokens "ahead" (Za a) [(.int 0)] (zV 5) gA)<|zD<|gs "fill") (sC 2<|oa (Zf a Fw)<|gx (zV 5) gA)<|sy 1<|oa (Zr a Fo A)<|gx (zV 5)<|gx (zV 1) gA) (ev x none n cs<|gz (li rs::R:ic).length) (gu (li rs::R) a (gI cs) 0 0 0):=by
  unfold Bd uh;rw[i9,oO,Cc f.l,v,oN,bo,vT,mO,i9,oO,vU];have e:b1 tB (d2 oA (dV 2)<|dC .non) (iO<|ev x none n cs z)=.ok false:=rfl;rw[e,lj,oN,bo,vT,mO,i9];have m:=Xk (S0:=li rs::R) (a:=a) (T:=gI cs) (ρ:=ev x none n cs z) (Fp:=Fp) (s:=gm cs) (H.sp cs f.l) (fs:=gx (zD<|dV 4) gA) rfl;have l:iy 5 (vX a.Tokens (Zi a Fp)<|gx (zD<|dV 4) gA) (ev x none n cs z) (li rs::R)=.nx (ev x none n cs<|gz (li rs::R:ic).length) (gu (li rs::R) a (gI cs) 0 0 0):=by unfold iy;rw[m];rfl
  rw[l];rfl
 rw[e];cases q:lg (rs.map Prod.fst) (gI cs)with
 |bad=>trivial
 |no=>rw[q]at h;exact h
 |fill k=>rw[q]at h;obtain⟨c,j,i⟩:=h;exact⟨c,_,j,i⟩
 |rule t d=>rw[q]at h;obtain⟨F,c,j,i⟩:=h;exact⟨F,c,_,j,i⟩
abbrev tL:D->hU->gH hU:=hT 2 (hC (hV 3)<|hC (hV 4) P2.hN)
def Tg(a:Ad)(n:Nat)(x:jK):Prop:=∃S,x=.ex a.NoText ["row"] [.int (n:Nat)] S\/x=.ex a.NoText ["row","row"] [.int (n:Nat),.int (n:Nat)] S
theorem zW(H:Rd a Fp Fw Fo A){x:D}:∀i n (rs:rF) f (R:ic) (v p l:gH Z),(∀k∈i,oR k)->R.any (nQ 0)=false->rs.length<=12->(∀r∈rs,PyData.strOk (gm r.1)=true)->
 (match kN n rs f i with
 |.ok J f'=>∃C Y V U,C.any (nQ 0)=false/\lF tL (Bd a Fp Fw Fo A) (lW n<|i.map tS) [ig x,gz 0,ig<|fD f,v,p,l] (li rs::R)=.nx [ig x,gz 0,ig<|fD f',Y,V,U] (li J::C)
 |.no m=>Tg a m (lF tL (Bd a Fp Fw Fo A) (lW n<|i.map tS) [ig x,gz 0,ig<|fD f,v,p,l]<|li rs::R)
 |.bad=>True)
 |[],n,rs,f,R,v,p,l,_,I,_,_=>⟨R,v,p,l,I,rfl⟩
 |k::i,n,rs,f,R,v,p,l,P,I,L,G=>by
  have j:=P k (.head _);have o:∀k∈i,oR k:=λc h=>P c (.tail _ h);have e:lF tL (Bd a Fp Fw Fo A) (lW n<|(k::i).map tS) [ig x,gz 0,ig<|fD f,v,p,l] (li rs::R)=m4 (Bd a Fp Fw Fo A (ev x f n k l)<|li rs::R) (lF tL (Bd a Fp Fw Fo A)<|lW (n+1)<|i.map tS):=rfl;rw[e];unfold kN;cases M:blk k with
  |true=>rw[bB,Ql j.l M];exact zW H i (n+1) rs f R _ _ _ o I L G
  |false=>
   rw[bo];cases f with
   |some T=>rw[Qk j.l M];exact⟨_,.inl rfl⟩
   |none=>
    dsimp only;have h:=Qn H (x:=x) (n:=n) (z:=l) M j I L G;cases q:lg (rs.map Prod.fst) (gI k)with
    |bad=>trivial
    |no=>rw[q]at h;obtain⟨S,h⟩:=h;rw[h];exact⟨_,.inr rfl⟩
    |fill T=>rw[q]at h;obtain⟨C,y,O,N⟩:=h;rw[N];exact zW H i (n+1) rs (some T) C _ _ _ o O L G
    |rule t d=>
     rw[q]at h;obtain⟨⟨h3,h4⟩,C,y,O,N⟩:=h;rw[N];refine zW H i (n+1) (rs++[(t,d)]) none C _ _ _ o O (by rw[aa];show rs.length+1<=12;lia) λr F=>?_;rcases a9.mp F with F|F;·exact G r F
     ·rw[aS.mp F];exact(OJ j.l j.s).s t h3
def MK(a:Ad)(x:R D):Bk->Prop
 |.ok rs f=>x=.ok (.tup [.lst<|rs.map kq,fD f])
 |.no n=>x=.ex a.NoText ["row"] [.int (n:Nat)]\/x=.ex a.NoText ["row","row"] [.int (n:Nat),.int (n:Nat)]
 |.bad=>True
def Yj(c:ja):(c.map Z.d).any (qk 0)=false:=by
 induction c with
 |nil=>rfl
 |cons d r f=>rw[aF,bF,f];rfl
def Xu(H:Rd a Fp Fw Fo A)(d:hZ)(p:d.length<=900000)(o:∀r∈gO 10 d,oR r)(c:Nat):
    match kN 1 [] none (gO 10 d)with
    |.ok rs f=>∃S,g7 (sX a (Zi a Fp) (Za a) (Zf a Fw) (Zr a Fo A) 0 (ij 6 [.d<|tS d]) [])=.ok (.d<|.tup [.lst<|rs.map kq,fD f]) S
    |.no n=>∃S,g7 (sX a (Zi a Fp) (Za a) (Zf a Fw) (Zr a Fo A) 0 (ij 6 [.d<|tS d]) [])=.ex a.NoText ["row"] [.int (n:Nat)] S\/g7 (sX a (Zi a Fp) (Za a) (Zf a Fw) (Zr a Fo A) 0 (ij 6 [.d<|tS d]) [])=.ex a.NoText ["row","row"] [.int (n:Nat),.int (n:Nat)] S
    |.bad=>True:=by
 have h:=zW H (x:=tS d) (gO 10 d) 1 [] none [] none none none o rfl (cy _) nofun;have e:sX a (Zi a Fp) (Za a) (Zf a Fw) (Zr a Fo A) 0 (ij 6 [.d<|tS d]) []=lP (lF tL (Bd a Fp Fw Fo A) (lW 1<|(gO 10 d).map tS) [some<|.d<|tS d,some<|.loc 0,some<|.d<|fD none,none,none,none] [li []]) (yk 0 1<|jE<|zD<|dA gY<|gh (dV 1)<|gh (dV 2) gk):=by
  unfold sX;have G:iy 1 (tW λρ=>(gk ρ).bind js) (ij 6 [.d<|tS d]) []=.nx [some<|.d<|tS d,some<|.loc 0,none,none,none,none] [li []]:=rfl;rw[i9,G,mO,i9];have F:iy 2 (zD<|dC .non) [some<|.d<|tS d,some<|.loc 0,none,none,none,none] [li []]=.nx [some<|.d<|tS d,some<|.loc 0,some<|.d<|fD none,none,none,none] [li []]:=rfl;rw[F,mO,i9];have D:A0 (jW "str" oH (dV 0)<|gh (dC<|.str "\n") gk) tL (Bd a Fp Fw Fo A) [some<|.d<|tS d,some<|.loc 0,some<|.d<|fD none,none,none,none] [li []]=lF tL (Bd a Fp Fw Fo A) (lW 1<|(gO 10 d).map tS) [some<|.d<|tS d,some<|.loc 0,some<|.d<|fD none,none,none,none] [li []]:=by
   unfold A0;have m:jW "str" oH (dV 0) (gh (dC<|.str "\n") gk) (iO [some<|.d<|tS d,some<|.loc 0,some<|.d<|fD none,none,none,none])=.ok (.lst<|(gO 10 d).map tS):=by rw[r4];show(R.bind (.ok<|tS d) _)=_;rw[gM,jZ,lM,gM,kF,gM,gM,abY d p,af<|show oV "str" (tS d)=true by rfl]
   rw[m];rfl
  rw[show uh a (Zi a Fp) (Za a) (Zf a Fw) (Zr a Fo A)=Bd a Fp Fw Fo A from rfl,D]
 rw[e];cases q:kN 1 [] none (gO 10 d)with
 |bad=>trivial
 |no n=>
  rw[q]at h;obtain⟨S,h|h⟩:=h;·exact⟨S,.inl (by rw[h];rfl)⟩
  ·exact⟨S,.inr<|by rw[h];rfl⟩
 |ok rs f=>
  rw[q]at h;obtain⟨i,l,k,j,z,v⟩:=h;rw[v,mO];have C:zk 0 1 [some<|.d<|tS d,some<|.loc 0,some<|.d<|fD f,l,k,j] (li rs::i)=some ([some<|.d<|tS d,some<|.d<|.lst<|rs.map kq,some<|.d<|fD f,ya 0 (.lst<|rs.map kq) l,ya 0 (.lst<|rs.map kq) k,ya 0 (.lst<|rs.map kq) j],.no::i):=by
   show(match kI ((rs.map kq).map Z.d)with
    |some I=>if 0<=0/\((li rs::i:ic).any (nQ 0))=false then some (([some<|.d<|tS d,some<|.loc 0,some<|.d<|fD f,l,k,j]:hU).map (ya 0<|.lst I),(li rs::i:ic).set 0 .no)else none
    |none=>none)=_
   rw[B6];dsimp only;rw[af ⟨au 0,by rw[bF,z,dh];exact Yj _⟩];rfl
  unfold yk;rw[C];exact⟨_,rfl⟩
structure nr(r:Tk×Cn):Prop where
 w:TR.ki r.1=true
 ok:r.2.Ok
 sz:r.2.sz<=30
 ov:kh r.2<=3
def n8(r:Tk×Cn):gi Tk:=[109,97,114,107]::r.1::[58]::jf r.2
def tM(f:Nat×Nat):gi Tk:=[[102,105,108,108],num f.1,num f.2]
def tI(r:Tk×Cn):Tk×D:=(r.1,r.2.d)
def kZ(f:Nat×Nat):gi D:=[.int (f.1:Nat),.int (f.2:Nat)]
structure qE(f:Nat×Nat):Prop where
 p:1<=f.1
 q:f.1<=1000000
 r:f.1<=f.2
 s:f.2<=100*f.1
def acz(h:nr r):qt (jf r.2) 0 0=.ok r.2.d [] r.2.sz 0:=acy h.ok (xb h.ok) h.sz (av (Qt h.sz h.ov)<|by decide)
def M3(h:nr r):n0 qt ns (n8 r) 0 0=bif full ns r.1 then .no else .ok (.tup [tS r.1,r.2.d]) [] r.2.sz 0:=by
 have e:n0 qt ns (n8 r) 0 0=bif TR.ki r.1 then jV (qt (jf r.2) 0 0) (λd c k b=>bif full ns r.1 then .no else .ok (.tup [tS r.1,d]) c k b)else .no:=rfl
 rw[e,h.w,bB,acz h];rfl
def acJ(h:nr r)(hf:full ns r.1=false):lg ns (n8 r)=.rule r.1 r.2.d:=by
 have e:lg ns (n8 r)=(match n0 qt ns (n8 r) 0 0 with
  |.ok (.tup [.str s,d]) _ _ _=>Rw.rule (gj s) d
  |.ok _ _ _ _=>.bad
  |.no=>.no
  |.bad=>.bad):=rfl
 rw[e,M3 h,hf];rfl
def NR(h:nr r)(hf:full ns r.1=true):lg ns (n8 r)=.no:=by
 have e:lg ns (n8 r)=(match n0 qt ns (n8 r) 0 0 with
  |.ok (.tup [.str s,d]) _ _ _=>Rw.rule (gj s) d
  |.ok _ _ _ _=>.bad
  |.no=>.no
  |.bad=>.bad):=rfl
 rw[e,M3 h,hf];rfl
def Yv{n}(h:n<=m):(num n).length<=(num m).length:=by
 have v:=OU (num m) (u7 m);rw[u9]at v;cases e:(num m).length with
 |zero=>simp_all
 |succ k=>rw[e]at v;exact nZ (k:=k) (by walk_at "l")
def O4{n}(d:lo<=n)(c:n<=hi):kB (num n) lo hi=some n:=by unfold kB;have v:digitsVal (num n)=n:=u9 n;have b:kz (num n) (num hi).length=true:=E2 (Yv c);simp_all
def acI(h:qE f):lg ns (tM f)=.fill (kZ f):=by
 have e:lg ns (tM f)=(match(opt (kB (num f.1) 1 1000000) λn=>opt (kB (num f.2) n (100*n)) λm=>Pr.ok (.tup [.int (n:Nat),.int (m:Nat)]) [] 0 0)with
  |.ok (.tup ds) _ _ _=>Rw.fill ds
  |.ok _ _ _ _=>.bad
  |.no=>.no
  |.bad=>.bad):=rfl
 rw[e,O4 h.p h.q]
 show(match(opt (kB (num f.2) f.1 (100*f.1)) λm=>Pr.ok (.tup [.int (f.1:Nat),.int (m:Nat)]) [] 0 0)with
  |.ok (.tup ds) _ _ _=>Rw.fill ds
  |.ok _ _ _ _=>.bad
  |.no=>.no
  |.bad=>.bad)=_
 rw[O4 h.r h.s];rfl
theorem IL:∀{d},blk d=true->gI d=[]
 |[],_=>rfl
 |c::r,h=>by unfold blk at h;rw[fY,aq,bK]at h;obtain⟨rfl,h⟩:=h;have:=l7 [] r;rw[bq,tN,bq]at this;rw[this];exact IL h
def Af(h:gI cs≠[]):blk cs=false:=by
 cases e:blk cs with
 |false=>rfl
 |true=>exact absurd (IL e) h
def IK(n):blk (List.replicate n 32)=true:=by unfold blk;simp
theorem xR:∀i j n rs f {c} {k},kN n rs f i=.ok c k->kN n rs f (i++j)=kN (n+i.length) c k j
 |[],j,n,rs,f,c,k,h=>by cases h;rfl
 |cs::i,j,n,rs,f,c,k,h=>by
  have o:n+(cs::i).length=n+1+i.length:=by rw[ag];lia
  rw[o];rw[cu];generalize l:kN (n+1+i.length) c k j=X;unfold kN at h⊢;cases m:blk cs with
  |true=>rw[m,bB]at h;rw[bB];exact(xR i j (n+1) rs f h).trans l
  |false=>
   rw[m,bo]at h;rw[bo];cases f with
   |some p=>cases h
   |none=>
    dsimp only at h⊢;cases q:lg (rs.map Prod.fst) (gI cs)with
    |bad=>rw[q]at h;cases h
    |no=>rw[q]at h;cases h
    |rule t d=>rw[q]at h;exact(xR i j (n+1) _ _ h).trans l
    |fill p=>rw[q]at h;exact(xR i j (n+1) _ _ h).trans l
def NH(xs)(h:∀x∈xs,blk x=true)(n rs f):kN n rs f xs=.ok rs f:=by
 induction xs generalizing n with
 |nil=>rfl
 |cons x xs c=>unfold kN;simp_all
abbrev _root_.qb:=gi (Tk×Cn)
abbrev _root_.sO:=gH (Nat×Nat)
def sf(L:qb)(f:sO):gi (gi Tk):=L.map n8++(match f with
 |some f=>[tM f]
 |none=>[])
def kg(c:mU):gi (gi Tk):=(c.filter λr=>!blk r).map gI
theorem AA:∀c n d L f,(∀r∈L,nr r)->(∀g,f=some g->qE g)->(d++L).length<=12->((d++L).map Prod.fst).Nodup->kg c=sf L f->kN n (d.map tI) none c=.ok ((d++L).map tI) (f.map kZ)
 |[],n,d,L,f,k,hf,j,o,e=>by
  cases L with
  |cons r L=>cases e
  |nil=>
   cases f with
   |some g=>cases e
   |none=>rw[aP];rfl
 |cs::c,n,d,L,f,k,hf,j,o,e=>by
  unfold kN;cases p:blk cs with
  |true=>rw[bB];refine AA c (n+1) d L f k hf j o ?_;unfold kg at e;rw[fF,p]at e;exact e
  |false=>
   rw[bo];dsimp only;have l:gI cs::kg c=sf L f:=by unfold kg at e⊢;rw[fF,p]at e;exact e
   have nm:(d.map tI).map Prod.fst=d.map Prod.fst:=by rw[bu];rfl
   cases L with
   |cons r L=>
    have i:gI cs=n8 r/\kg c=sf L f:=by have:gI cs::kg c=n8 r::sf L f:=l;exact⟨(List.cons.inj this).1,(List.cons.inj this).2⟩
    have h:full (d.map Prod.fst) r.1=false:=by
     unfold full;rw[eE];constructor
     ·rw[cT];intro z;have z:=Nat.eq_of_beq_eq_true z;rw[ae]at z;rw[aa,ag]at j
      lia
     ·rw[cT];intro z;obtain⟨y,C,v⟩:=List.any_eq_true.mp z;rw[nT]at v
      grind
    rw[nm,i.1,acJ (k r<|.head _) h];dsimp only;have:=AA c (n+1) (d++[r]) L f (λx m=>k x<|.tail _ m) hf (by rw[aV];exact j) (by rw[aV];exact o) i.2;rw[aV,aH]at this;exact this
   |nil=>
    cases f with
    |none=>cases l
    |some g=>
     have i:gI cs=tM g/\kg c=[]:=⟨(List.cons.inj l).1,(List.cons.inj l).2⟩;rw[nm,i.1,acI<|hf g rfl];dsimp only;rw[aP];refine NH c (λx m=>?_) _ _ _;cases q:blk x with
     |true=>rfl
     |false=>have:gI x∈kg c:=bJ.mpr ⟨x,dN.mpr ⟨m,by rw[q];rfl⟩,rfl⟩;rw[i.2]at this;cases this
def acx{n}{rs:rF}{rest}(c:blk cs=false)(h:f=none->lg (rs.map Prod.fst) (gI cs)=.no):kN n rs f (cs::rest)=.no n:=by
 unfold kN;rw[c,bo];cases f with
 |some d=>rfl
 |none=>simp_all
noncomputable def jc(r:Tk×Cn):gi Nat:=[109,97,114,107]++32::(r.1++58::32::r.2.tx)
def lG(f:Nat×Nat):gi Nat:=[102,105,108,108]++32::(num f.1++32::num f.2)
def vV(h:TR.ki t=true):(∀c∈t,jz c=true)/\t≠[]/\t.length<=8:=by obtain⟨f,d,k,j⟩:=TR.G0 h;refine⟨λc i=>?_,f,d⟩;unfold jz;simp_all
def yc(h:nr r):gI (jc r)=n8 r:=by
 obtain⟨d,c,_⟩:=vV h.w;unfold jc;have e:gI (32::r.2.tx)=jf r.2:=by have:=l7 [] r.2.tx;rw[bq,tN,bq,AR h.ok<|xb h.ok]at this;exact this
 rw[l7,sj rfl<|by decide,tP d c,e,show gI [109,97,114,107]=[[109,97,114,107]]by decide];rfl
def Gp(f):gI (lG f)=tM f:=by unfold lG;rw[l7,l7,tP (qv _)<|tu _,tP (qv _)<|tu _,show gI [102,105,108,108]=[[102,105,108,108]]by decide];rfl
def iP(x:hZ):Prop:=∀c∈x,32<=c/\c<=126
def iP.app{y}(f:iP x)(d:iP y):iP (x++y):=λc h=>(a9.mp h).elim (f c) (d c)
def iP.cons{c:Nat}{x:hZ}(h:32<=c/\c<=126)(f:iP x):iP (c::x):=λd i=>(aT.mp i).elim (λe=>by rw[e];exact h) (f d)
def qZ(h:∀c∈x,jz c=true):iP x:=λc d=>by
 have:=h c d;unfold jz at this;simp only[ba,aq,bZ]at this
 lia
def xI{o}(f:32<=o/\o<=126)(i:32<=c/\c<=126)(b)(d:iP x):iP (WC.brk o c b x):=by
 unfold WC.brk;split;·exact(d.app<|iP.cons i<|λ_ h=>by cases h).cons f
 ·exact d
theorem vl:∀{t:Tm},t.Ok->iP t.tx
 |.num p q,h=>qZ (xV h)
 |.here,_=>qZ (show∀c∈gj "here",jz c=true by decide)
 |.kM w n,h=>(qZ<|ae9 w).app (iP.cons (by decide)<|qZ<|by rw[rS (show 0<=n by have f:1<=n/\n<=9:=h;lia)];exact qv _)
 |.at m,h=>(qZ (show∀c∈gj "at",jz c=true by decide)).app (iP.cons (by decide) λc d=>by have:=h.2.2.1 c d;lia)
 |.bin s x y,h=>(vl h.1).app (iP.cons (by decide)<|(show iP (gj<|sg s)by cases s<;>(unfold iP;decide)).app (iP.cons (by decide)<|xI (by decide) (by decide) _<|vl h.2))
 |.times p q x,h=>(qZ<|xV h.1).app (iP.cons (by decide)<|(show iP [42]by unfold iP;decide).app (iP.cons (by decide)<|xI (by decide) (by decide) _<|vl h.2))
 |.abs x,h=>(show iP [97,98,115,40]by unfold iP;decide).app ((vl (t:=x) h).app (show iP [41]by unfold iP;decide))
theorem Ao:∀{c:Cn},c.Ok->iP c.tx
 |.cmp s x y,h=>(vl h.1).app (iP.cons (by decide)<|(show iP (gj<|cg s)by cases s<;>(unfold iP;decide)).app (iP.cons (by decide)<|vl h.2))
 |.not c,h=>(show iP [110,111,116,32]by unfold iP;decide).app (xI (by decide) (by decide) _<|Ao (c:=c) h)
 |.two s c e,h=>(xI (by decide) (by decide) _<|Ao h.1).app (iP.cons (by decide)<|(show iP (gj<|cw s)by cases s<;>(unfold iP;decide)).app (iP.cons (by decide)<|xI (by decide) (by decide) _<|Ao h.2))
def Fl(h:nr r):iP (jc r):=
 (show iP [109,97,114,107]by unfold iP;decide).app (iP.cons (by decide)<|(qZ (vV h.w).1).app (iP.cons (by decide)<|iP.cons (by decide)<|Ao h.ok))
def Fj(f):iP (lG f):=(show iP [102,105,108,108]by unfold iP;decide).app (iP.cons (by decide)<|(qZ<|qv _).app (iP.cons (by decide)<|qZ<|qv _))
def LJ(h:nr r):(jc r).length<=800:=by
 have f:=(vV h.w).2.2;have d:=Cn.oB h.ok;have c:=h.sz;unfold jc
 grind
def LH(h:qE f):(lG f).length<=100:=by
 have d:(num f.1).length<=20:=nZ (k:=19) (by have:=h.q;walk_at "l");have c:(num f.2).length<=20:=nZ (k:=19) (by have:=h.q;have:=h.s;lia);unfold lG
 grind
def OG(h:t∈gI cs):t.length<=cs.length+1:=
 aeG (dN.mp<|show t∈(gO 32<|cs.flatMap iF).filter λt=>!t.isEmpty from h).1
def NU{d:hZ}(h:d.length<=900)(i:∀c∈d,c<=127):oR d:=⟨by walk_at "l",i,λt f=>by have:=OG f;lia⟩
end pG
namespace WP
open PySem L2 P2
def zr(a:Ad):g0:=(gy (iA (b1 tB (d2 oZ (dV 1) (dA ih (gh (dV 0) gk)))) (g9 (d2 gK (dV 0) (dV 1))) iC)
    (g9 (gq 0)))
open TM T2 PySem.NumText
variable{a:Ad}
abbrev pr(p q:Int):D:=.tup [.int p,.int q]
section
variable{c:gw}(hf:∀t b:Int,b≠0->b.natAbs<10^400->c [.int t,.int b]=.ok (fr t b)){p q x y:Int}
include hf
end
structure Ck where
 m:gp
 t:Int
 p:Int
 q:Int
abbrev Ck.d(c:Ck):D:=.tup [.str c.m,.int c.t,pr c.p c.q]
end WP
namespace WP
open PySem L2 P2 TM T2 PySem.NumText
variable{a:Ad}
def lt_size{n}(h:n<1000000):n<sizeLine:=ak h (by decide)
def Qg(c:kY)(k)(h:k<c.length):L2.hI (c.map D.int) (k:Int)=some (.int<|c.getD k 0):=by refine ud ?_;simp_all
def W3(c:kY)(k:Nat):gB (zr a<|gJ 2 [.lst<|c.map .int,.int k])=.ok (.int<|c.getD k 0):=by
 unfold zr;walk_at "d"
 rw[ae];by_cases h:k<c.length
 ·rw[af<|aB<|by simp_all,Qg c k h];walk_at "d"
 ·rw[ao<|by simp;simp_all];walk_at "d"
  simp_all
end WP
namespace WC
open PySem L2 P2 WP TM T2 PySem.NumText
variable{a:Ad}
theorem O3:∀(n:Nat) (x y:Int) (f d i:Sl),0<=x->0<=y->y<n->
 ∃c,pV (P2.b1 tB<|d2 jX (dV 3)<|gq 0) (B9 a) n [f,d,il x,il y,i]=.nx [f,d,il<|FM.g x y,il 0,c]
 |0,x,y,f,d,i,k,l,h=>by lia
 |n+1,x,y,f,d,i,k,l,h=>by
  rw[NC];by_cases z:y=0
  ·subst z;refine⟨i,?_⟩;walk_at "d"
   rw[FM.Ku k]
  ·have j:0<y:=by lia
   have m:=cM x j;obtain⟨c,e⟩:=O3 n y (x%y) f d (il<|x%y) l (c9 x z) (by lia);refine⟨c,?_⟩;unfold B9;iterate 4 (walk_at "d";try simp only[aB j,r6 j,and_self])
   rw[<-FM.Kt k j];exact e
def Xi(t b:Int)(c:0<=t)(d:0<b)(h:b.natAbs<10^400):gB (Dy a<|gJ 5 [.int t,.int b])=.ok (pr (FM.top t b)<|FM.bot t b):=by
 obtain⟨f,e⟩:=O3 (a:=a) wC t b (il t) (il b) .no c (by walk_at "l") (by lia);rw[<-FM.JQ d]at e;have d1:=Ax (i:=t) (FM.sS (t:=t) (b:=b)<|by lia) (ze (t:=t) (b:=b) (by lia) h);have d2:=Ax (i:=b) (FM.sS (t:=t) (b:=b)<|by lia) (ze (t:=t) (b:=b) (by lia) h);unfold Dy;iterate 4 (walk_at "d";try simp only[and_self])
 rw[e];iterate 4 (walk_at "d";try simp only[d1,d2])
 rfl
def Kk{t b:Int}(m:0<=t)(o:t<1000000000)(f:0<b)(n:b<1000000):Fq (FM.top t b) (FM.bot t b):=by
 have L:=FM.EI (t:=t) (b:=b) (by lia);obtain⟨j,i⟩:=FM.split (t:=t) (b:=b) (by lia);have h:0<FM.dv t b:=by rw[FM.JQ f];exact FM.Dl (by omega)
 have d:=L.pos;generalize FM.dv t b=g at*;generalize FM.top t b=p at*;generalize FM.bot t b=q at*;have c:0<=p:=by
  by_cases w:0<=p;·exact w
  ·have:g*p<0:=Int.mul_neg_of_pos_of_neg h (by simp_all)
   lia
 have l:p<=t:=by have:1*p<=g*p:=eA (by walk_at "l") c;simp_all
 have k:q<=b:=by have:1*q<=g*q:=eA (by walk_at "l") (by walk_at "l");simp_all
 exact⟨c,L,by lia,d,by grind⟩
def W8{i:gw}(d:∀t b:Int,0<=t->0<b->b.natAbs<10^400->i [.int t,.int b]=.ok (pr (FM.top t b)<|FM.bot t b))(c:Int):∃p q,Fq p q/\gB (wV a i<|gJ 1 [.int c])=.ok (pr p q):=by
 have j:rZ (.int 10) (.int 9)=.ok (.int 1000000000):=rfl;have k:iU (.int c) (.int 48271)=.ok (.int<|c*48271):=abO (by decide) (by decide);have l:(0:Int)<1000000000:=by decide
 by_cases h:c%3=0
 ·refine⟨c/3%9,1,⟨by grind,⟨by decide,?_⟩,by grind,by decide,by decide⟩,?_⟩;·exact Int.gcd_one
  ·unfold wV;iterate 5 (walk_at "d";try simp only[h,bD,pr])
 ·by_cases f:c%3=1
  ·refine⟨_,_,Kk (t:=c/3%12) (b:=1+c/36%7) (by grind) (by grind) (by lia)<|by lia,?_⟩;have e:=d (c/3%12) (1+c/36%7) (by grind) (by lia) (by lia);unfold wV;iterate 6 (walk_at "d";try simp only[f,bD,pr,e])
  ·refine⟨_,_,Kk (t:=c/3%1000000000) (b:=1+c*48271%999983) (by grind) (by grind) (by grind)<|by grind,?_⟩;have e:=d (c/3%1000000000) (1+c*48271%999983) (by grind) (by grind) (by grind);unfold wV;iterate 6 (walk_at "d";try simp only[h,f,bz,pr,j,k,r6 l,e])
def qq(k:Nat):Nat:=[122,98,120,107].getD k 98
def Mn:∀n:Nat,n<8->rW (Str.ofString "q") (n:Int)=true/\Txt.mul (Str.ofString "q") (n:Int)=gm (List.replicate n 113):=by decide+kernel
def YK:∀k:Nat,k<4->L2.hI (Str.ofString "zbxk").cps.toList (k:Int)=some (qq k)/\97<=qq k/\qq k<=122:=by decide
def XM:∀s:Nat,s<8->∀p:Nat,p<s+1->∀j:Nat,j<4->TR.ki ((List.replicate p 113++[qq j])++List.replicate (s - p) 113)=true:=by decide+kernel
def Xl(c k:Int):∃m,(m.length<=8/\m≠[]/\(∀c∈m,97<=c/\c<=122)/\TR.ki m=true)/\gB (Dz a<|gJ 4 [.int c,.int k])=.ok (.str<|gm m):=by
 have N:0<=c%8/\c%8<8:=by lia
 obtain⟨s,L⟩:=aO N.1;have n:(0:Int)<1+(s:Int):=by lia
 have d:=c9 (c/8) (show(1:Int)+s≠0 by lia);have l:=cM (c/8) n;obtain⟨p,f⟩:=aO d;obtain⟨j,M⟩:=aO (show 0<=k%4 by lia);have h:j<4:=by lia
 have z:s<8:=by lia
 have C:p<s+1:=by lia
 obtain⟨T,R⟩:=YK j h;obtain⟨F,v⟩:=Mn p (by walk_at "l");obtain⟨D,r⟩:=Mn (s - p) (by lia);have O:(1:Int)+(s:Int) - 1 - (p:Int)=((s - p:Nat):Int):=by grind
 have I:iU (.str<|Str.ofString "q") (.int (p:Int))=.ok (.str<|gm<|List.replicate p 113):=by rw[xQ F,v]
 have G:iU (.str<|Str.ofString "q") (.int ((s - p:Nat):Int))=.ok (.str<|gm<|List.replicate (s - p) 113):=by rw[xQ D,r]
 have J:(Str.ofString "zbxk").length<=sizeLine:=by decide
 have q:gv (.str<|gm<|List.replicate p 113) (.str ⟨#[qq j]⟩)=.ok (.str<|gm<|List.replicate p 113++[qq j]):=jU (y:=[qq j]) (by rw[bG];lia) (by simp);have o:gv (.str<|gm<|List.replicate p 113++[qq j]) (.str<|gm<|List.replicate (s - p) 113)=.ok (.str<|gm<|(List.replicate p 113++[qq j])++List.replicate (s - p) 113):=jU (by simp;lia) (by simp;lia);have P:gv (.int 1) (.int (s:Int))=.ok (.int<|1+s):=rfl;refine⟨(List.replicate p 113++[qq j])++List.replicate (s - p) 113,⟨by simp;lia,by simp,?_,XM s z p C j h⟩,?_⟩
 ·intro x i;simp only[a9,List.mem_replicate,aS]at i;rcases i with(⟨_,rfl⟩|rfl)|⟨_,rfl⟩;·decide
  ·exact R
  ·decide
 ·unfold Dz;generalize iU=wb at*;generalize gv=ni at*;iterate 9 (walk_at "d";try simp only[L,f,M,r6 n,T,af J,O,I,G,q,o,P])
def Xw{p q:Int}(h:Fq p q):gB (DL a<|gJ 2 [pr p q])=.ok (.str<|gm<|iw p q):=by
 have k:=x5 (i:=p) (ak h.p<|by decide);have j:=x5 (i:=q) (ak h.q.2<|by decide);have v:=tr h.p;have c:=tr (i:=q) (ak h.q.2<|by decide);have f:gv (.str<|gm<|i4 p) (.str<|Str.ofString "/")=.ok (.str<|gm<|i4 p++[47]):=jU (y:=[47]) (by walk_at "l") (by simp);have d:gv (.str<|gm<|i4 p++[47]) (.str<|gm<|i4 q)=.ok (.str<|gm<|(i4 p++[47])++i4 q):=jU (by simp;walk_at "l") (by walk_at "l");have m:L2.hI [D.int p,D.int q] 0=some (.int p):=rfl;have l:L2.hI [D.int p,D.int q] 1=some (.int q):=rfl;have c:2<=sizeLine:=by decide
 have o:iw p q=if q=1 then i4 p else(i4 p++[47])++i4 q:=by
  unfold iw;have r:=h.q.1;split;·rfl
  ·rw[aV,List.singleton_append];congr 2;unfold i4;rw[ao<|by lia]
 rw[o];have r:=h.q.1;unfold DL pr;generalize gv=ni at*;by_cases w:q=1
 ·subst w;iterate 7 (walk_at "d";try simp only[m,l,k,j,f,d,af c])
 ·have n:1<q:=by lia
  iterate 7 (walk_at "d";try simp only[m,l,k,j,f,d,af c,n,w])
def tri(t:Tm):D:=.tup [t.d,.str<|gm t.tx,.int t.rk]
def hJ(c:Cn):D:=.tup [c.d,.str<|gm c.tx,.int c.rk]
def Xf{v o r:gw}(hf:∀c:Int,∃p q,Fq p q/\v [.int c]=.ok (pr p q))(N:∀p q,Fq p q->o [pr p q]=.ok (.str<|gm<|iw p q))(O:∀c k:Int,∃m,(m.length<=8/\m≠[]/\(∀c∈m,97<=c/\c<=122)/\TR.ki m=true)/\r [.int c,.int k]=.ok (.str<|gm m))
 (h c:Int):∃t:Tm,t.Ok/\t.sz=1/\gB (uN a v o r<|gJ 7 [.int h,.int c])=.ok (tri t):=by
  obtain⟨k,d⟩:=aO (show 0<=c%8 by lia);have k8:k<8:=by lia
  by_cases V:k<2
  ·obtain⟨p,q,n,j⟩:=hf (c/8);have R:=N p q n;refine⟨.num p q,n,rfl,?_⟩;unfold uN tri;have lt:(k:Int)<2:=by lia
   iterate 7 (walk_at "d";try simp only[d,lt,bD,j,R])
   rfl
  ·by_cases k3:k=2
   ·subst k3;refine⟨.here,trivial,rfl,?_⟩;unfold uN tri;iterate 7 (walk_at "d";try simp only[d,eY])
    rfl
   ·by_cases k7:k=7
    ·subst k7;obtain⟨m,P,j⟩:=O h (c/8);have f:gv (.str<|Str.ofString "at ") (.str<|gm m)=.ok (.str<|gm<|[97,116,32]++m):=jU (x:=[97,116,32]) (by simp) (by lia);refine⟨.at m,P,rfl,?_⟩;unfold uN tri;have l:gv (.int 1) (.int<|c/8%9)=.ok (.int<|1+c/8%9):=rfl;generalize gv=ni at*;iterate 7 (walk_at "d";try simp only[d,eY,j,f,l])
     rfl
    ·have lt:¬(k:Int)<2:=by lia
     have J:¬(k:Int)=2:=by lia
     have I:¬(k:Int)=7:=by lia
     have C:(k:Int) - 3=((k - 3:Nat):Int):=by lia
     have M:L2.hI [D.str "back",D.str "on",D.str "ago",D.str "until"] ((k - 3:Nat):Int)=some (.str<|wd<|k - 3):=by
      have:k=3\/k=4\/k=5\/k=6:=by lia
      rcases this with rfl|rfl|rfl|rfl<;>rfl
     have G:1<=1+c/8%9/\1+c/8%9<=9:=by grind
     have F:=x5 (i:=1+c/8%9) (ak (show(1+c/8%9).natAbs<10 by grind)<|by decide);have U:=tr (i:=1+c/8%9) (by grind);have T:=GY (k - 3);have f:gv (.str<|wd<|k - 3) (.str<|Str.ofString " ")=.ok (.str<|gm<|gj (wd<|k - 3)++[32]):=by have:=jU (x:=gj<|wd<|k - 3) (y:=[32]) (by walk_at "l") (by simp);rw[mq]at this;exact this
     have z:gv (.str<|gm<|gj (wd<|k - 3)++[32]) (.str<|gm<|i4<|1+c/8%9)=.ok (.str<|gm<|(gj (wd<|k - 3)++[32])++i4 (1+c/8%9)):=jU (by simp;walk_at "l") (by walk_at "l");have l:gv (.int 1) (.int<|c/8%9)=.ok (.int<|1+c/8%9):=rfl;have L:4<=sizeLine:=by decide
     refine⟨.kM (k - 3)<|1+c/8%9,G,rfl,?_⟩;have tx:(Tm.kM (k - 3)<|1+c/8%9).tx=(gj (wd<|k - 3)++[32])++i4 (1+c/8%9):=by rw[aV];rfl
     unfold uN tri;rw[tx];generalize gv=ni at*;iterate 9 (walk_at "d";try simp only[d,lt,J,I,C,M,F,f,z,l,af L])
     rfl
def Xp{d}{x:hZ}{r n:Int}{o}(v:x.length<=30000):gB (DF a<|gJ 3 [.tup [d,.str<|gm x,.int r],.int n,.str<|gm [o,c]])=.ok (.str<|gm<|brk o c (decide<|r<n) x):=by
 have q:L2.hI [d,D.str<|gm x,D.int r] 1=some (.str<|gm x):=rfl;have p:L2.hI [d,D.str<|gm x,D.int r] 2=some (.int r):=rfl;have m:gK (.str<|gm [o,c]) (.int 0)=.ok (.str<|gm [o]):=rfl;have b1:gK (.str<|gm [o,c]) (.int 1)=.ok (.str<|gm [c]):=rfl;have i:gv (.str<|gm [o]) (.str<|gm x)=.ok (.str<|gm<|[o]++x):=jU (by simp) (by walk_at "l");have f:gv (.str<|gm<|[o]++x) (.str<|gm [c])=.ok (.str<|gm<|([o]++x)++[c]):=jU (by simp;walk_at "l") (by simp);have j:3<=sizeLine:=by decide
 have l:gK (.tup [d,D.str<|gm x,D.int r]) (.int 1)=.ok (.str<|gm x):=by walk_at "d";simp only[af j,q]
 have k:gK (.tup [d,D.str<|gm x,D.int r]) (.int 2)=.ok (.int r):=by walk_at "d";simp only[af j,p]
 simp only[cu,bq]at i f;unfold DF brk;generalize gv=ni at*;generalize gK=IX at*;by_cases h:r<n
 ·rw[af<|aB h];iterate 7 (walk_at "d";try simp only[l,k,m,b1,i,f,aB h])
  try simp
 ·rw[ao<|by simp[h]];iterate 7 (walk_at "d";try simp only[l,k,m,b1,i,f,az h])
def wu(F:gw):Prop:=∀d (x:hZ) (r n:Int) o c,x.length<=30000->F [.tup [d,.str<|gm x,.int r],.int n,.str<|gm [o,c]]=.ok (.str<|gm<|brk o c (decide<|r<n) x)
def rk1(t:Tm):¬t.rk<1:=by cases t<;>simp[Tm.rk]
def sd{d}{r:Int}:gK (.tup [d,D.str<|gm x,D.int r]) (.int 0)=.ok d/\gK (.tup [d,D.str<|gm x,D.int r]) (.int 1)=.ok (.str<|gm x):=by
 have c:3<=sizeLine:=by decide
 have h:L2.hI [d,D.str<|gm x,D.int r] 0=some d:=rfl;have f:L2.hI [d,D.str<|gm x,D.int r] 1=some (.str<|gm x):=rfl;exact⟨by walk_at "d";simp only[af c,h],by walk_at "d";simp only[af c,f]⟩
def BW{x w y:hZ}(f:x.length<=15000)(d:w.length<=100)(c:y.length<=15000):
    gv (.str<|gm x) (.str<|Str.ofString " ")=.ok (.str<|gm<|x++[32])/\gv (.str<|gm<|x++[32]) (.str<|gm w)=.ok (.str<|gm<|x++[32]++w)/\gv (.str<|gm<|x++[32]++w) (.str<|Str.ofString " ")=.ok (.str<|gm<|x++[32]++w++[32])/\gv (.str<|gm<|x++[32]++w++[32]) (.str<|gm y)=.ok (.str<|gm<|x++32::(w++32::y)):=by
 refine⟨jU (y:=[32]) (by walk_at "l")<|by simp,jU (by simp;walk_at "l")<|by walk_at "l",jU (y:=[32]) (by simp;lia)<|by simp,?_⟩;rw[jU (by simp;lia)<|by walk_at "l"];simp
def Xj(h:wu Fp){x y:Tm}(q:x.tx.length<=10000)(p:y.tx.length<=10000):gB (DQ a Fp<|gJ 4 [tri x,tri y,.str<|sg s])=.ok (tri<|.bin s x y):=by have c:=h x.d x.tx x.rk 1 40 41 (by walk_at "l");have f:=h y.d y.tx y.rk 2 40 41 (by walk_at "l");have v:=F1 s;have z:=lC 40 41 (decide<|y.rk<2) y.tx;rw[az<|rk1 x,show brk 40 41 false x.tx=x.tx from rfl]at c;have l:gm [40,41]=Str.ofString "()":=rfl;rw[l]at c f;obtain⟨o,i,n,m⟩:=BW (x:=x.tx) (w:=gj (sg s)) (y:=brk 40 41 (decide (y.rk<2)) y.tx) (by walk_at "l") (by simp_all) (by lia);rw[mq]at i;obtain⟨k,_⟩:=sd (d:=x.d) (x:=x.tx) (r:=x.rk);obtain⟨j,_⟩:=sd (d:=y.d) (x:=y.tx) (r:=y.rk);have tx:(Tm.bin s x y).tx=x.tx++32::(gj (sg s)++32::brk 40 41 (decide<|y.rk<2) y.tx):=rfl;unfold DQ tri;rw[tx,show(Tm.bin s x y).d=.tup [.str<|sg s,x.d,y.d]from rfl,show(Tm.bin s x y).rk=1 from rfl];generalize gv=ni at*;generalize gK=IX at*;iterate 9 (walk_at "d";try simp only[c,f,o,i,n,m,k,j])
def Xh{v o:gw}(hf:∀c:Int,∃p q,Fq p q/\v [.int c]=.ok (pr p q))(z:∀p q,Fq p q->o [pr p q]=.ok (.str<|gm<|iw p q))(C:wu Fp){x:Tm}(m:x.Ok)(G:x.tx.length<=10000)(c:Int):
    ∃t:Tm,t.Ok/\t.sz=x.sz+1/\lH t=lH x+1/\gB (zu a v o Fp<|gJ 3 [tri x,.int c])=.ok (tri t):=by
 obtain⟨l,k⟩:=sd (d:=x.d) (x:=x.tx) (r:=x.rk);by_cases h:c%2=0
 ·refine⟨.abs x,m,rfl,rfl,?_⟩;have i:gv (.str<|Str.ofString "abs(") (.str<|gm x.tx)=.ok (.str<|gm<|[97,98,115,40]++x.tx):=jU (x:=[97,98,115,40]) (by simp) (by walk_at "l");have f:gv (.str<|gm<|[97,98,115,40]++x.tx) (.str<|Str.ofString ")")=.ok (.str<|gm<|([97,98,115,40]++x.tx)++[41]):=jU (y:=[41]) (by simp;walk_at "l") (by simp);rw[aV]at f;simp only[cu,bq]at i f;unfold zu tri;rw[show(Tm.abs x).tx=[97,98,115,40]++(x.tx++[41])from rfl,show(Tm.abs x).d=.tup [.str "abs",x.d]from rfl,show(Tm.abs x).rk=3 from rfl];generalize gv=ni at*;generalize gK=IX at*;iterate 9 (walk_at "d";try simp only[h,i,f,l,k])
 ·obtain⟨p,q,j,F⟩:=hf (c/2);have D:=z p q j;have n:=C x.d x.tx x.rk 3 40 41 (by walk_at "l");rw[show gm [40,41]=Str.ofString "()" from rfl]at n;have J:=lC 40 41 (decide<|x.rk<3) x.tx;have I:=vA j;have i:gv (.str<|gm<|iw p q) (.str<|Str.ofString " * ")=.ok (.str<|gm<|iw p q++[32,42,32]):=jU (y:=[32,42,32]) (by walk_at "l") (by simp);have f:gv (.str (gm (iw p q++[32,42,32]))) (.str (gm (brk 40 41 (decide (x.rk<3)) x.tx)))=.ok (.str (gm ((iw p q++[32,42,32])++brk 40 41 (decide (x.rk<3)) x.tx))):=jU (by simp;walk_at "l") (by lia);refine⟨.times p q x,⟨j,m⟩,rfl,rfl,?_⟩;have tx:(Tm.times p q x).tx=(iw p q++[32,42,32])++brk 40 41 (decide<|x.rk<3) x.tx:=by
   rw[aV];rfl
  unfold zu tri;rw[tx,show(Tm.times p q x).d=.tup [.str "times",pr p q,x.d]from rfl,show(Tm.times p q x).rk=2 from rfl];generalize gv=ni at*;generalize gK=IX at*;iterate 9 (walk_at "d";try simp only[h,i,f,l,k,F,D,n])
def W4{x y:Tm}(o:x.tx.length<=10000)(n:y.tx.length<=10000):gB (Dt a<|gJ 3 [tri x,tri y,.str<|cg s])=.ok (hJ<|.cmp s x y):=by have p:=y9 s;obtain⟨m,c,l,k⟩:=BW (x:=x.tx) (w:=gj (cg s)) (y:=y.tx) (by walk_at "l") (by simp_all) (by walk_at "l");rw[mq]at c;obtain⟨j,h⟩:=sd (d:=x.d) (x:=x.tx) (r:=x.rk);obtain⟨i,f⟩:=sd (d:=y.d) (x:=y.tx) (r:=y.rk);unfold Dt tri hJ;rw[show(Cn.cmp s x y).tx=x.tx++32::(gj (cg s)++32::y.tx)from rfl,show(Cn.cmp s x y).d=.tup [.str<|cg s,x.d,y.d]from rfl,show(Cn.cmp s x y).rk=4 from rfl];generalize gK=IX at*;iterate 9 (walk_at "d";try simp only[m,c,l,k,j,i,h,f])
def Xg(h:wu Fp){x y:Cn}(I:x.tx.length<=10000)(G:y.tx.length<=10000):gB (Dx a Fp<|gJ 5 [hJ x,hJ y,.str<|cw s])=.ok (hJ<|.two s x y):=by
 have J:=CM s;have n:th [.bl<|decide<|cw s=Str.ofString "and"]=.ok (.int<|if s=true then 1 else 0):=by cases s<;>rfl
 have z:gv (.int 1) (.int<|if s=true then 1 else 0)=.ok (.int<|if s=true then 2 else 1):=by cases s<;>rfl
 have v:gv (.int<|if s=true then 2 else 1) (.int 1)=.ok (.int<|if s=true then 3 else 2):=by cases s<;>rfl
 have f:=h x.d x.tx x.rk (if s=true then 2 else 1) 91 93 (by walk_at "l");have c:=h y.d y.tx y.rk (if s=true then 3 else 2) 91 93 (by walk_at "l");have q:gm [91,93]=Str.ofString "[]":=rfl;rw[q]at f c;have k:=lC 91 93 (decide<|x.rk<if s=true then 2 else 1) x.tx;have j:=lC 91 93 (decide<|y.rk<if s=true then 3 else 2) y.tx;obtain⟨F,i,D,C⟩:=BW (x:=brk 91 93 (decide (x.rk<if s=true then 2 else 1)) x.tx) (w:=gj (cw s)) (y:=brk 91 93 (decide (y.rk<if s=true then 3 else 2)) y.tx) (by lia) (by walk_at "l") (by lia);rw[mq]at i;obtain⟨p,m⟩:=sd (d:=x.d) (x:=x.tx) (r:=x.rk);obtain⟨o,l⟩:=sd (d:=y.d) (x:=y.tx) (r:=y.rk);unfold Dx hJ;rw[show(Cn.two s x y).tx=brk 91 93 (decide<|x.rk<if s=true then 2 else 1) x.tx++32::(gj (cw s)++32::brk 91 93 (decide<|y.rk<if s=true then 3 else 2) y.tx)from rfl,show(Cn.two s x y).d=.tup [.str<|cw s,x.d,y.d]from rfl,show(Cn.two s x y).rk=if s=true then 2 else 1 from rfl];generalize gv=ni at*;generalize gK=IX at*;generalize th=IB at*;generalize(if s=true then(1:Int)else 0)=r0 at*;generalize(if s=true then(3:Int)else 2)=r3 at*;generalize(if s=true then(2:Int)else 1)=r1 at*;iterate 9 (walk_at "d";try simp only[n,z,v,f,c,F,i,D,C,p,o,m,l])
def W5(j:wu Fp){x:Cn}(k:x.tx.length<=10000):gB (Dv a Fp<|gJ 1 [hJ x])=.ok (hJ<|.not x):=by have c:=j x.d x.tx x.rk 3 91 93 (by walk_at "l");rw[show gm [91,93]=Str.ofString "[]" from rfl]at c;have l:=lC 91 93 (decide<|x.rk<3) x.tx;have f:gv (.str<|Str.ofString "not ") (.str<|gm<|brk 91 93 (decide<|x.rk<3) x.tx)=.ok (.str<|gm<|[110,111,116,32]++brk 91 93 (decide<|x.rk<3) x.tx):=jU (x:=[110,111,116,32]) (by simp) (by lia);obtain⟨i,h⟩:=sd (d:=x.d) (x:=x.tx) (r:=x.rk);unfold Dv hJ;rw[show(Cn.not x).tx=[110,111,116,32]++brk 91 93 (decide<|x.rk<3) x.tx from rfl,show(Cn.not x).d=.tup [.str "not",x.d]from rfl,show(Cn.not x).rk=3 from rfl];generalize gv=ni at*;generalize gK=IX at*;iterate 9 (walk_at "d";try simp only[c,f,i,h])
noncomputable def jy(t c:Int):Int:=(t+1)/2+t%2+max 0 (c+(t+1)/2 - 1)+3*(if c+(t+1)/2=0 then 1 else 0)
def Xs(t c:Int):gB (DK a<|gJ 3 [.int t,.int c])=.ok (.int<|jy t c):=by
 have f:∀z:Int,iU (.int 3) (.int z)=.ok (.int<|3*z):=λz=>Az (by decide) (by decide);have i:∀b:gL,th [.bl b]=.ok (.int<|if b=true then 1 else 0):=λb=>by cases b<;>rfl
 have d:∀z:Int,tj [.int 0,.int z]=.ok (.int<|max 0 z):=λz=>by
  show R.ok (D.int<|if z>0 then z else 0)=_
  congr 2
  split<;>lia
 unfold DK jy;iterate 7 (walk_at "d";try simp only[f,i,d])
 by_cases h:c+(t+1)/2=0<;>simp[h]<;>(try split)<;>grind
def ie(c d:ja)(p o:Int):ic:=[.dk [(.inr "terms",.loc 1),(.inr "conds",.loc 2),(.inr "parts",.d<|.int p),(.inr "over",.d<|.int o)],.li<|c.map .d,.li<|d.map .d]
section
variable{b E:hU}{S q A:ic}{f:iM}{j m s t:ja}{p o B C:Int}{x:D}{i:Nat}
def lq{g:gZ}(e:g b S=.nx E q):gG g h b S=h E q:=by unfold gG;rw[e];rfl
def n9(e:f b S=.ok z q)(c:i<b.length):iy i f b S=.nx (b.set i<|some z) q:=by unfold iy;rw[e];exact af c
def tV{c:nt}{g}(e:c b S=.ok true q):jg c g h b S=g b q:=by unfold jg;rw[e];rfl
def mP{c:nt}{g}(e:c b S=.ok false q):jg c g h b S=h b q:=by unfold jg;rw[e];rfl
def LF(l x):((l++[x]).map Z.d)[((l++[x]).map Z.d).length - 1]?=ig x:=by simp
def JL(l x):((l++[x]).map Z.d).dropLast=l.map .d:=by rw[aH];exact List.dropLast_concat
def tF(h:b[i]?=some (gz 1)):my i b (ie (j++[x]) m p o)=.ok (.d x) (ie j m p o):=by
 unfold my;rw[h]
 show(match((j++[x]).map Z.d)[((j++[x]).map Z.d).length - 1]? with
  |some z=>RX.ok z ((ie (j++[x]) m p o).set 1 (.li ((j++[x]).map Z.d).dropLast))
  |none=>RX.bad)=_
 rw[LF,JL];rfl
def xH(h:b[i]?=some (gz 2)):my i b (ie j (m++[x]) p o)=.ok (.d x) (ie j m p o):=by
 unfold my;rw[h]
 show(match((m++[x]).map Z.d)[((m++[x]).map Z.d).length - 1]? with
  |some z=>RX.ok z ((ie j (m++[x]) p o).set 2 (.li ((m++[x]).map Z.d).dropLast))
  |none=>RX.bad)=_
 rw[LF,JL];rfl
def yO(h:b[i]?=some (gz 1))(e:f b (ie j m p o)=.ok (.d x) (ie s t B C))(c:s.length<=1000):ma i f b (ie j m p o)=.nx b (ie (s++[x]) t B C):=by unfold ma;rw[h];rw[e];show(if(s.map Z.d).length<sizeLine then jK.nx b ((ie s t B C).set 1 (.li<|s.map Z.d++[.d x]))else .bad)=_;rw[ae,af<|lt_size<|by walk_at "l"];unfold ie;rw[aH];rfl
def ua(h:b[i]?=some (gz 2))(e:f b (ie j m p o)=.ok (.d x) (ie s t B C))(c:t.length<=1000):ma i f b (ie j m p o)=.nx b (ie s (t++[x]) B C):=by unfold ma;rw[h];rw[e];show(if(t.map Z.d).length<sizeLine then jK.nx b ((ie s t B C).set 2 (.li<|t.map Z.d++[.d x]))else .bad)=_;rw[ae,af<|lt_size<|by walk_at "l"];unfold ie;rw[aH];rfl
def Ds(h:b[i]?=some (gz 0)):kc (zV i) (gs "terms") b (ie j m p o)=.ok (.loc 1) (ie j m p o):=by unfold kc zV;rw[h];rfl
def Dr(h:b[i]?=some (gz 0)):kc (zV i) (gs "conds") b (ie j m p o)=.ok (.loc 2) (ie j m p o):=by unfold kc zV;rw[h];rfl
def Kw(h:b[i]?=some (gz 0)):kc (zV i) (gs "parts") b (ie j m p o)=.ok (.d<|.int p) (ie j m p o):=by unfold kc zV;rw[h];rfl
def Kv(h:b[i]?=some (gz 0)):kc (zV i) (gs "over") b (ie j m p o)=.ok (.d<|.int o) (ie j m p o):=by unfold kc zV;rw[h];rfl
def abe{k:Int}(h:b[i]?=some (gz 0))(e:f b (ie j m p o)=.ok (.d<|.int k) (ie j m p o)):rm (zV i) (gs "over") f b (ie j m p o)=.nx b (ie j m p k):=by unfold rm;rw[e];unfold zV;rw[h];rfl
def abf{k:Int}(h:b[i]?=some (gz 0))(e:f b (ie j m p o)=.ok (.d<|.int k) (ie j m p o)):rm (zV i) (gs "parts") f b (ie j m p o)=.nx b (ie j m k o):=by unfold rm;rw[e];unfold zV;rw[h];rfl
def ku{g:hP}{d}(e:g (iO b)=.ok d):zD g b S=.ok (.d d) S:=by unfold zD;rw[e];rfl
def Hc{g:kv}{d}(e:g (iO b)=.ok d):zB g b S=.ok d S:=by unfold zB;rw[e];rfl
def rq{g:kv}{d}(e:g (vw S b)=.ok d):jS g b S=.ok d S:=by unfold jS;rw[e]
def pq:gA b S=.ok [] S:=rfl
def kd{r:mE}(e:f b S=.ok z q)(c:r b q=.ok zs A):gx f r b S=.ok (z::zs) A:=by unfold gx;rw[e];show(r b q).bind _=_;rw[c];rfl
def qC{g:gw}{r:mE}{ds:ja}{d}(e:r b S=.ok (ds.map .d) q)(c:g ds=.ok d):zF g r b S=.ok (.d d) q:=by unfold zF;rw[e];show(match kI (ds.map Z.d)with|some ds=>_|none=>_)=_;rw[uc];show RX.bind (kW (g ds) q) _=_;rw[c];rfl
def Hf{c d:nt}{k}(e:c b S=.ok true q)(h:d b q=.ok k A):rp c d b S=.ok k A:=by unfold rp;rw[e];exact h
def Pb{c d:nt}(e:c b S=.ok false q):rp c d b S=.ok false q:=by unfold rp;rw[e];rfl
def tX{g:D->D->R D}{d c:iM}{u w}(l:d b S=.ok (.d u) q)(k:c b q=.ok (.d v) A)(h:g u v=.ok w):z2 g d c b S=.ok (.d w) A:=by unfold z2;rw[l];show(c b q).bind _=_;rw[k];show RX.bind (kW (g u v) A) _=_;rw[h];rfl
def Pc{g:D->R gL}{u k}(d:f b S=.ok (.d u) q)(c:g u=.ok k):j6 g f b S=.ok k q:=by unfold j6;rw[d];show kW (g u) q=_;rw[c];rfl
end
variable{a:Ad}
abbrev _root_.pE:=gi Tm
def wt(c:pE):Nat:=(c.map Tm.sz).sum
abbrev _root_.rG:=gi Cn
def wc(c:rG):Nat:=(c.map Cn.sz).sum
def vt(c:pE):Nat:=(c.map lH).sum
def vc(c:rG):Nat:=(c.map kh).sum
def vJ(x y):vt (x++y)=vt x+vt y:=by unfold vt;rw[aH,dQ]
def yg(x y):vc (x++y)=vc x+vc y:=by unfold vc;rw[aH,dQ]
def vK(x):vt [x]=lH x:=by simp[vt]
def vI(x):vc [x]=kh x:=by simp[vc]
def nh(x y):wt (x++y)=wt x+wt y:=by unfold wt;rw[aH,dQ]
def qB(x y):wc (x++y)=wc x+wc y:=by unfold wc;rw[aH,dQ]
def pW(x):wt [x]=x.sz:=by simp[wt]
def pU(x):wc [x]=x.sz:=by simp[wc]
structure Inv(ts:pE)(cs:rG)(p o:Int):Prop where
 tO:∀t∈ts,t.Ok
 cO:∀c∈cs,c.Ok
 sum:((wt ts+wc cs:Nat):Int)=p
 bd:p+jy ts.length cs.length<=30
 ov:((vt ts+vc cs:Nat):Int)=o/\o<=3
def NP(t c:Nat):0<=jy t c:=by unfold jy;split<;>omega
def ye{c:Type}{l:gi c}(h:1<l.length):∃k u v,l=k++[u]++[v]:=by have f:=cD (l:=l) (by intro w;rw[w]at h;simp at h);have d:=cD (l:=l.dropLast) (by intro w;have:=aI List.length w;simp at this;omega);exact⟨_,_,_,by rw[d,f]⟩
def ME{c:Type}{l:gi c}(h:0<l.length):∃k u,l=k++[u]:=by have d:=cD (l:=l) (by intro w;rw[w]at h;simp at h);exact⟨_,_,d.symm⟩
def ti{t:Tm}(h:t.Ok)(n:t.sz<=200):t.tx.length<=10000:=by have:=Tm.len h;lia
def xi{t:Cn}(h:t.Ok)(n:t.sz<=200):t.tx.length<=10000:=by have:=Cn.len h;lia
abbrev gu(ts:pE)(cs:rG)(p o:Int):ic:=ie (ts.map tri) (cs.map hJ) p o
def EO(l u v):(l++[u]++[v]).map tri=(l.map tri++[tri u])++[tri v]:=by simp
def xq(l u):(l++[u]).map tri=l.map tri++[tri u]:=by simp
def Md(l u v):(l++[u]++[v]).map hJ=(l.map hJ++[hJ u])++[hJ v]:=by simp
def u4(l u):(l++[u]).map hJ=l.map hJ++[hJ u]:=by simp
def rh(c h k:Int)(s:gH Z):hU:=[gz 0,jF c,jF h,gz 1,gz 2,jF k,s]
def yi{p o c h k:Int}:vw (ie ts cs p o) (rh c h k none)=[.no,il c,il h,iD ts,iD cs,il k,.no]:=by
 unfold vw rh;simp only[aF,c8];have i:oM (ie ts cs p o) (gz 1)=iD ts:=by show(match kI (ts.map Z.d)with|some d=>Sl.sh (.lst d)|none=>.no)=_;rw[uc]
 have f:oM (ie ts cs p o) (gz 2)=iD cs:=by show(match kI (cs.map Z.d)with|some d=>Sl.sh (.lst d)|none=>.no)=_;rw[uc]
 rw[i,f];rfl
def zP{k:Nat}(c:k<16):(i7 (.int k) (.tup [.int 6,.int 7])=.ok (.bl<|decide<|k=6\/k=7))/\(i7 (.int k) (.tup [.int 8,.int 9])=.ok (.bl<|decide<|k=8\/k=9))/\(i7 (.int k) (.tup [.int 10,.int 11])=.ok (.bl<|decide<|k=10\/k=11))/\(i7 (.int k) (.tup [.int 13,.int 14])=.ok (.bl<|decide<|k=13\/k=14)):=by have:k=0\/k=1\/k=2\/k=3\/k=4\/k=5\/k=6\/k=7\/k=8\/k=9\/k=10\/k=11\/k=12\/k=13\/k=14\/k=15:=(by decide+kernel:∀k<16,k=0\/k=1\/k=2\/k=3\/k=4\/k=5\/k=6\/k=7\/k=8\/k=9\/k=10\/k=11\/k=12\/k=13\/k=14\/k=15) k c;rcases this with rfl|rfl|rfl|rfl|rfl|rfl|rfl|rfl|rfl|rfl|rfl|rfl|rfl|rfl|rfl|rfl<;>exact⟨rfl,rfl,rfl,rfl⟩
section
variable{ts cs:ja}{p o c h:Int}{k:Nat}(b:k<16)
include b
abbrev ox(h:Int)(v1 v2 v4 v5 v6:gH Z):hU:=[jF h,v1,v2,gz 0,v4,v5,v6]
abbrev ux:=d2 jX (dA ih<|gh (dV 3) gk) (gq 1)
abbrev zh:=d2 jX (dA ih<|gh (dV 2) gk) (gq 0)
abbrev CZ:=d2 i7 (dV 5) (dA gY<|gh (gq 8)<|gh (gq 9) gk)
abbrev JW:=j6 tB (z2 jX (z2 gv (z2 gv (kc (zV 3)<|gs "parts")<|zD<|gq 1)<|zD<|dV 6)<|zD<|gq 30)
abbrev C0:=gx (zV 3) (gx (zD<|dV 4)<|gx (zD<|dV 0) gA)
theorem aeK:jS (mj (P2.b1 tB<|d2 i7 (dV 5)<|dA gY<|gh (gq 6)<|gh (gq 7) gk)<|P2.b1 tB<|ux) (rh c h k none) (ie ts cs p o)=.ok (decide<|(k=6\/k=7)/\1<ts.length) (ie ts cs p o):=by
 obtain⟨d,j,i,f⟩:=zP b;refine rq ?_;rw[yi];by_cases z:k=6\/k=7
 ·iterate 4 (walk_at "d";try simp only[d,z,gg,bD,eQ])
  congr 1
  apply bU.mpr;omega
 ·iterate 4 (walk_at "d";try simp only[d,z,gf,bz])
theorem aeM:jS (mj (P2.b1 tB<|d2 i7 (dV 5)<|dA gY<|gh (gq 10)<|gh (gq 11) gk)<|P2.b1 tB<|ux) (rh c h k none) (ie ts cs p o)=.ok (decide<|(k=10\/k=11)/\1<ts.length) (ie ts cs p o):=by
 obtain⟨j,i,d,f⟩:=zP b;refine rq ?_;rw[yi];by_cases z:k=10\/k=11
 ·iterate 4 (walk_at "d";try simp only[d,z,gg,bD,eQ])
  congr 1
  apply bU.mpr;omega
 ·iterate 4 (walk_at "d";try simp only[d,z,gf,bz])
theorem aeO:jS (mj (P2.b1 tB<|d2 i7 (dV 5)<|dA gY<|gh (gq 13)<|gh (gq 14) gk)<|P2.b1 tB<|d2 jX (dA ih<|gh (dV 4) gk)<|gq 1) (rh c h k none) (ie ts cs p o)=.ok (decide<|(k=13\/k=14)/\1<cs.length) (ie ts cs p o):=by
 obtain⟨j,i,f,d⟩:=zP b;refine rq ?_;rw[yi];by_cases z:k=13\/k=14
 ·iterate 4 (walk_at "d";try simp only[d,z,gg,bD,eQ])
  congr 1
  apply bU.mpr;omega
 ·iterate 4 (walk_at "d";try simp only[d,z,gf,bz])
theorem aeN:jS (mj (P2.b1 tB<|d2 gW (dV 5)<|gq 12)<|P2.b1 tB<|d2 jX (dA ih<|gh (dV 4) gk)<|gq 0) (rh c h k none) (ie ts cs p o)=.ok (decide<|k=12/\0<cs.length) (ie ts cs p o):=by
 refine rq ?_;rw[yi];by_cases z:k=12
 ·have d:(k:Int)=12:=by simp_all
  iterate 4 (walk_at "d";try simp only[z,d,gg,bD,eQ,eY])
  congr 1
  apply bU.mpr;simp
 ·have d:¬(k:Int)=12:=by lia
  iterate 4 (walk_at "d";try simp only[z,d,gf,bz])
theorem aeL:(rp (zB<|P2.b1 tB<|CZ)<|rp (jS<|P2.b1 tB<|d2 jX (dA ih<|gh (dV 3) gk)<|gq 0)<|j6 tB<|z2 oZ (kc (zV 0)<|gs "over")<|zD<|gq 3) (rh c h k none) (ie ts cs p o)=.ok (decide<|(k=8\/k=9)/\0<ts.length/\o<3) (ie ts cs p o):=by
 obtain⟨m,f,l,j⟩:=zP b;have b1:(P2.b1 tB<|CZ) (iO<|rh c h k none)=.ok (decide<|k=8\/k=9):=by show(P2.b1 tB<|CZ) [.no,il c,il h,.no,.no,il k,.no]=_;iterate 4 (walk_at "d";try simp only[f])
 have d:(jS<|P2.b1 tB<|d2 jX (dA ih<|gh (dV 3) gk)<|gq 0) (rh c h k none) (ie ts cs p o)=.ok (decide<|0<ts.length) (ie ts cs p o):=by
  refine rq ?_;rw[yi];iterate 4 (walk_at "d";try simp only[eQ])
  congr 1
  apply bU.mpr;simp
 have i:(j6 tB<|z2 oZ (kc (zV 0)<|gs "over")<|zD<|gq 3) (rh c h k none) (ie ts cs p o)=.ok (decide<|o<3) (ie ts cs p o):=Pc (tX (Kv rfl) (ku rfl) rfl) rfl;by_cases z1:k=8\/k=9
 ·rw[aB z1]at b1;by_cases z2:0<ts.length
  ·rw[aB z2]at d;rw[Hf (Hc b1)<|Hf d i];simp[z1,z2]
  ·rw[az z2]at d;rw[Hf (Hc b1)<|Pb d];simp[z2]
 ·rw[az z1]at b1;rw[Pb<|Hc b1];simp[z1]
end
structure Bb(PK PJ mB PD mC PH:gw):Prop where
 su:∀(x y:Tm) (s:gL),x.tx.length<=10000->y.tx.length<=10000->PK [tri x,tri y,.str<|sg s]=.ok (tri<|.bin s x y)
 ov:∀(x:Tm) (c:Int),x.Ok->x.tx.length<=10000->∃t:Tm,t.Ok/\t.sz=x.sz+1/\lH t=lH x+1/\PJ [tri x,.int c]=.ok (tri t)
 co:∀(x y:Tm) (s:gL),x.tx.length<=10000->y.tx.length<=10000->mB [tri x,tri y,.str<|cg s]=.ok (hJ<|.cmp s x y)
 de:∀(x:Cn),x.tx.length<=10000->PD [hJ x]=.ok (hJ<|.not x)
 jo:∀(x y:Cn) (s:gL),x.tx.length<=10000->y.tx.length<=10000->mC [hJ x,hJ y,.str<|cw s]=.ok (hJ<|.two s x y)
 le:∀h c:Int,∃t:Tm,t.Ok/\t.sz=1/\PH [.int h,.int c]=.ok (tri t)
variable{K M mB N mC H:gw}
theorem EF:∀l:gi Tm,l.length<=wt l
 |[]=>au _
 |t::l=>by have:=t.pos;have:=EF l;show l.length+1<=t.sz+wt l;lia
theorem EE:∀l:gi Cn,l.length<=wc l
 |[]=>au _
 |t::l=>by have:1<=t.sz:=by cases t<;>(simp only[Cn.sz];simp)
           have:=EE l;show l.length+1<=t.sz+wc l;lia
def O9{c:nt}{A:gZ}{ρ:hU}{g:gi Tm->ic}{x y:pE}{P:Prop}[Decidable P](t:c ρ (g y)=.ok (decide P) (g y))(h:P->A ρ (g y)=.nx ρ (g x)):jg c A j5 ρ (g y)=.nx ρ (g<|if P then x else y):=by
 by_cases z:P
 ·rw[aB z]at t;rw[tV t,af z,h z]
 ·rw[az z]at t;rw[mP t,ao z];rfl
def XC(F:Bb K M mB N mC H){p o:Int}(I:Inv ts cs p o)(G:p+1+jy ts.length cs.length<=30)(j:p+1+jy (ts.length+1) cs.length<=30)(c h:Int)(b):
    ∃f i r,Inv f i (p+1) r/\g7 (DM a K M mB N mC H b (ij 7 [.loc 0,.d<|.int c,.d<|.int h])<|gu ts cs p o)=.ok (.d .non) (gu f i (p+1) r):=by
 have V:=I.sum;have r0:=NP ts.length cs.length;obtain⟨k,hk⟩:=aO (show 0<=c%16 by lia);have n:k<16:=by lia
 have z:=aeK (ts:=ts.map tri) (cs:=cs.map hJ) (p:=p) (o:=o) (c:=c) (h:=h) n;have J:=aeL (ts:=ts.map tri) (cs:=cs.map hJ) (p:=p) (o:=o) (c:=c) (h:=h) n;have L:=aeM (ts:=ts.map tri) (cs:=cs.map hJ) (p:=p) (o:=o) (c:=c) (h:=h) n;have T:=aeN (ts:=ts.map tri) (cs:=cs.map hJ) (p:=p) (o:=o) (c:=c) (h:=h) n;have U:=aeO (ts:=ts.map tri) (cs:=cs.map hJ) (p:=p) (o:=o) (c:=c) (h:=h) n;simp only[ae]at z J L T U;have P:=EF ts;have R:=EE cs;have P:ts.length<=30:=by lia
 have R:cs.length<=30:=by lia
 have O:∀(ρ:hU) (f i:ja) (r:Int),ρ[0]?=some (gz 0)->rm (zV 0) (gs "parts") (z2 gv (kc (zV 0)<|gs "parts")<|zD<|gq 1) ρ (ie f i p r)=.nx ρ (ie f i (p+1) r):=λρ f i r e=>abf e (tX (Kw e) (ku rfl) rfl)
 have d:∀(g:gZ) (h1:hU) (f:pE) (i:rG) (r:Int),h1[0]?=some (gz 0)->g (rh c h k none) (gu ts cs p o)=.nx h1 (gu f i p r)->g7 ((gG (iy 3<|kc (zV 0)<|gs "terms")<|gG (iy 4<|kc (zV 0)<|gs "conds")<|gG (iy 5<|zD<|d2 hR (dV 1)<|gq 16)<|gG g<|rm (zV 0) (gs "parts")<|z2 gv (kc (zV 0)<|gs "parts")<|zD<|gq 1) (ij 7 [.loc 0,.d<|.int c,.d<|.int h]) (gu ts cs p o))=.ok (.d .non) (gu f i (p+1) r):=by
  intro g h1 f i r e0 e1;have m:(d2 hR (dV 1)<|gq 16) (iO ([gz 0,jF c,jF h,gz 1,gz 2,none,none]:hU))=.ok (.int k):=by show(d2 hR (dV 1)<|gq 16) [.no,il c,il h,.no,.no,.no,.no]=_;iterate 3 (walk_at "d";try simp only[hk])
  rw[lq<|n9 (Ds rfl)<|by simp[ij],lq<|n9 (Dr rfl)<|by simp[ij]];show g7 (gG (iy 5<|zD<|d2 hR (dV 1)<|gq 16) _ ([gz 0,jF c,jF h,gz 1,gz 2,none,none]:hU)<|gu ts cs p o)=_;rw[lq<|n9 (ku m)<|by simp];show g7 (gG g _ (rh c h k none)<|gu ts cs p o)=_;rw[lq e1,O _ _ _ _ e0];rfl
 unfold DM;by_cases B1:(k=6\/k=7)/\1<ts.length
 ·obtain⟨l,u,v,e⟩:=ye B1.2;rw[aB B1]at z;subst e;rw[nh,nh,pW,pW]at V;have su:=F.su u v (decide<|k=6) (ti (I.tO u<|by simp)<|by lia) (ti (I.tO v<|by simp)<|by lia);refine⟨l++[.bin (decide (k=6)) u v],cs,o,⟨?_,I.cO,?_,?_,by have q:=I.ov;simp only[vJ,vK,lH]at q⊢;grind⟩,?_⟩;·exact b7.2 ⟨λt C=>I.tO t<|by simp[C],bS.2 ⟨I.tO u<|by simp,I.tO v<|by simp⟩⟩
  ·rw[nh,pW];show((wt l+(u.sz+v.sz+1)+wc cs:Nat):Int)=_;lia
  ·simp only[aa,ag,bj]at G j⊢;unfold jy at*;split at j<;>split<;>lia
  ·refine d _ (rh c h k<|ig<|tri v) _ _ _ rfl ?_;rw[tV z];show _=jK.nx _ (ie ((l++[Tm.bin (decide<|k=6) u v]).map tri) (cs.map hJ) p o);rw[EO,xq];rw[lq<|n9 (tF rfl)<|by simp[rh]];refine yO rfl (qC (ds:=[tri u,tri v,.str (sg (decide (k=6)))]) (kd (tF rfl) (kd (ku rfl) (kd (ku ?_) pq))) su) (by simp at P⊢;walk_at "l");rcases B1.1 with rfl|rfl<;>rfl
 rw[az B1]at z;by_cases B2:(k=8\/k=9)/\0<ts.length/\o<3
 ·obtain⟨l,u,e⟩:=ME B2.2.1;rw[aB B2]at J;subst e;rw[nh,pW]at V;have uO:=I.tO u (by simp);obtain⟨t,tO,Y,tv,te⟩:=F.ov u (c/16) uO (ti uO<|by lia);refine⟨l++[t],cs,o+1,⟨?_,I.cO,?_,?_,by have q:=I.ov;have b:=B2;simp only[vJ,vK,tv]at q⊢;lia⟩,?_⟩;·exact b7.2 ⟨λt C=>I.tO t<|by simp[C],bS.2 tO⟩
  ·rw[nh,pW,Y];lia
  ·simp only[aa,ag,bj]at G j⊢;exact G
  ·refine d _ (rh c h k none) _ _ _ rfl ?_;rw[mP z,tV J];show _=jK.nx _ (ie ((l++[t]).map tri) (cs.map hJ) p<|o+1);rw[xq,xq];have fd:(d2 iE (dV 1)<|gq 16) (iO<|rh c h k none)=.ok (.int<|c/16):=by
    show(d2 iE (dV 1)<|gq 16) [.no,il c,il h,.no,.no,il k,.no]=_;walk_at "d"
   rw[lq<|yO rfl (qC (ds:=[tri u,.int<|c/16]) (kd (tF rfl)<|kd (ku fd) pq) te)<|by simp at P⊢;walk_at "l"];exact abe rfl (tX (Kv rfl) (ku rfl) rfl)
 rw[az B2]at J;by_cases B3:(k=10\/k=11)/\1<ts.length
 ·obtain⟨l,u,v,e⟩:=ye B3.2;rw[aB B3]at L;subst e;rw[nh,nh,pW,pW]at V;have co:=F.co u v (decide<|k=10) (ti (I.tO u<|by simp)<|by lia) (ti (I.tO v<|by simp)<|by lia);refine⟨l,cs++[.cmp (decide (k=10)) u v],o,⟨λt C=>I.tO t (by simp[C]),?_,?_,?_,by have q:=I.ov;simp only[vJ,vK,yg,vI,kh]at q⊢;grind⟩,?_⟩;·exact b7.2 ⟨I.cO,bS.2 ⟨I.tO u<|by simp,I.tO v<|by simp⟩⟩
  ·rw[qB,pU];show((wt l+(wc cs+(u.sz+v.sz+1)):Nat):Int)=_;lia
  ·simp only[aa,ag,bj]at G j⊢;unfold jy at*;split at G<;>split<;>lia
  ·refine d _ (rh c h k<|ig<|tri v) _ _ _ rfl ?_;rw[mP z,mP J,tV L];show _=jK.nx _ (ie (l.map tri) ((cs++[Cn.cmp (decide<|k=10) u v]).map hJ) p o);rw[EO,u4];rw[lq<|n9 (tF rfl)<|by simp[rh]];refine ua rfl (qC (ds:=[tri u,tri v,.str (cg (decide (k=10)))]) (kd (tF rfl) (kd (ku rfl) (kd (ku ?_) pq))) co) (by simp;walk_at "l");rcases B3.1 with rfl|rfl<;>rfl
 rw[az B3]at L;by_cases B4:k=12/\0<cs.length
 ·obtain⟨l,u,e⟩:=ME B4.2;rw[aB B4]at T;subst e;rw[qB,pU]at V;have de:=F.de u (xi (I.cO u<|by simp)<|by lia);refine⟨ts,l++[.not u],o,⟨I.tO,?_,?_,?_,by have q:=I.ov;simp only[yg,vI,kh]at q⊢;omega⟩,?_⟩;·exact b7.2 ⟨λt C=>I.cO t<|by simp[C],bS.2<|I.cO u<|by simp⟩
  ·rw[qB,pU];show((wt ts+(wc l+(u.sz+1)):Nat):Int)=_;lia
  ·simp only[aa,ag,bj]at G j⊢;exact G
  ·refine d _ (rh c h k none) _ _ _ rfl ?_;rw[mP z,mP J,mP L,tV T];show _=jK.nx _ (ie (ts.map tri) ((l++[Cn.not u]).map hJ) p o);rw[u4,u4];exact ua rfl (qC (ds:=[hJ u]) (kd (xH rfl) pq) de) (by simp at R⊢;walk_at "l")
 rw[az B4]at T;by_cases Z:(k=13\/k=14)/\1<cs.length
 ·obtain⟨l,u,v,e⟩:=ye Z.2;rw[aB Z]at U;subst e;rw[qB,qB,pU,pU]at V;have jo:=F.jo u v (decide<|k=13) (xi (I.cO u<|by simp)<|by lia) (xi (I.cO v<|by simp)<|by lia);refine⟨ts,l++[.two (decide (k=13)) u v],o,⟨I.tO,?_,?_,?_,by have q:=I.ov;simp only[yg,vI,kh]at q⊢;grind⟩,?_⟩;·exact b7.2 ⟨λt C=>I.cO t<|by simp[C],bS.2 ⟨I.cO u<|by simp,I.cO v<|by simp⟩⟩
  ·rw[qB,pU];show((wt ts+(wc l+(u.sz+v.sz+1)):Nat):Int)=_;lia
  ·simp only[aa,ag,bj]at G j⊢;unfold jy at*;split at G<;>split<;>lia
  ·refine d _ (rh c h k<|ig<|hJ v) _ _ _ rfl ?_;rw[mP z,mP J,mP L,mP T,tV U];show _=jK.nx _ (ie (ts.map tri) ((l++[Cn.two (decide<|k=13) u v]).map hJ) p o);rw[Md,u4];rw[lq<|n9 (xH rfl)<|by simp[rh]];refine ua rfl (qC (ds:=[hJ u,hJ v,.str (cw (decide (k=13)))]) (kd (xH rfl) (kd (ku rfl) (kd (ku ?_) pq))) jo) (by simp at R⊢;walk_at "l");rcases Z.1 with rfl|rfl<;>rfl
 ·rw[az Z]at U;obtain⟨t,tO,Y,te⟩:=F.le h (c/16);refine⟨ts++[t],cs,o,⟨?_,I.cO,?_,?_,by have q:=I.ov;simp only[vJ,vK,ZH Y]at q⊢;omega⟩,?_⟩;·exact b7.2 ⟨I.tO,bS.2 tO⟩
  ·rw[nh,pW,Y];lia
  ·simp only[aa,ag,bj];exact j
  ·refine d _ (rh c h k none) _ _ _ rfl ?_;rw[mP z,mP J,mP L,mP T,mP U];show _=jK.nx _ (ie ((ts++[t]).map tri) (cs.map hJ) p o);rw[xq];have fd:(dA H<|gh (dV 2)<|gh (d2 iE (dV 1)<|gq 16) gk) (iO<|rh c h k none)=.ok (tri t):=by
    show(dA H<|gh (dV 2)<|gh (d2 iE (dV 1)<|gq 16) gk) [.no,il c,il h,.no,.no,il k,.no]=_;iterate 3 (walk_at "d";try simp only[te])
   exact yO rfl (ku fd) (by simp;walk_at "l")
def re(w:gp)(d c:gH Z):hU:=[gz 0,ig<|.str w,gz 1,gz 2,d,c]
def yh{p o:Int}{w}:∃u v,vw (ie ts cs p o) (re w s4 s5)=[.no,iW w,iD ts,iD cs,u,v]:=by
 refine⟨oM (ie ts cs p o) s4,oM (ie ts cs p o) s5,?_⟩;unfold vw re;simp only[aF,c8];have f:oM (ie ts cs p o) (gz 1)=iD ts:=by show(match kI (ts.map Z.d)with|some c=>Sl.sh (.lst c)|none=>.no)=_;rw[uc]
 have d:oM (ie ts cs p o) (gz 2)=iD cs:=by show(match kI (cs.map Z.d)with|some c=>Sl.sh (.lst c)|none=>.no)=_;rw[uc]
 rw[f,d];rfl
structure yx(ts:pE)(cs:rG)(n v:Nat):Prop where
 tO:∀t∈ts,t.Ok
 cO:∀c∈cs,c.Ok
 sum:wt ts+wc cs+ts.length+cs.length=n
 ov:vt ts+vc cs=v
theorem LV(D:∀(x y:Tm) s,x.tx.length<=10000->y.tx.length<=10000->mB [tri x,tri y,.str<|cg s]=.ok (hJ<|.cmp s x y)){w}{p o:Int}{n}(J:n<=150):∀f m (ts:pE) cs s4 s5,ts.length=2*m->m<f->yx ts cs n v0->
 ∃c d,yx [] c n v0/\c.length=cs.length+m/\mx (jS<|P2.b1 tB<|zh) (uf a mB mC) f (re w s4 s5) (gu ts cs p o)=.nx (re w s4 d) (gu [] c p o)
 |0,m,ts,cs,s4,s5,j,L,I=>by simp_all
 |f+1,m,ts,cs,s4,s5,j,L,I=>by
  have i:(jS<|P2.b1 tB<|zh) (re w s4 s5) (gu ts cs p o)=.ok (decide<|0<ts.length) (gu ts cs p o):=by
   refine rq ?_;obtain⟨u,v,e⟩:=yh (ts:=ts.map tri) (cs:=cs.map hJ) (p:=p) (o:=o) (w:=w) (s4:=s4) (s5:=s5);rw[e];iterate 4 (walk_at "d";try simp only[eQ])
   rw[ae]
   congr 1
   apply bU.mpr;simp
  show∃c d,_/\_/\toZ ((jS<|P2.b1 tB<|zh) (re w s4 s5) (gu ts cs p o)) _=_;rw[i];by_cases z:0<ts.length
  ·obtain⟨l,u,v,e⟩:=ye (show 1<ts.length by lia);subst e;have F:=I.sum;rw[nh,nh,pW,pW]at F;have r:=I.tO u (by simp);have k:=I.tO v (by simp);have P:=D u v true (ti r<|by lia) (ti k<|by lia);simp only[aa,ag,bj]at j F;have C:∀l:gi Cn,l.length<=wc l:=λl=>by
    induction l with
    |nil=>exact au _
    |cons t l U=>have:1<=t.sz:=by cases t<;>(simp only[Cn.sz];simp)
                 show l.length+1<=t.sz+wc l;lia
   have C:=C cs;obtain⟨c,d,T,G,O⟩:=LV (v0:=v0) D J f (m - 1) l (cs++[.cmp true u v]) s4 (ig (tri v)) (by lia) (by lia) ⟨λt h=>I.tO t (by simp[h]),λt h=>by
    simp only[a9,aS]at h;rcases h with h|rfl;· exact I.cO t h
    · exact⟨r,k⟩,by
    rw[qB,pU,aa,bH];show wt l+(wc cs+(u.sz+v.sz+1))+l.length+(cs.length+1)=n
    lia,by have q:=I.ov;simp only[vJ,vK,yg,vI,kh]at q⊢;lia⟩
   refine⟨c,d,T,by rw[G,aa,bH];lia,?_⟩;have R:uf a mB mC (re w s4 s5) (gu (l++[u]++[v]) cs p o)=.nx (re w s4<|ig<|tri v) (gu l (cs++[.cmp true u v]) p o):=by unfold uf;show _=jK.nx _ (ie (l.map tri) ((cs++[Cn.cmp true u v]).map hJ) p o);show gG _ _ _ (ie ((l++[u]++[v]).map tri) (cs.map hJ) p o)=_;rw[EO,u4];rw[lq<|n9 (tF rfl)<|by simp[re]];exact ua rfl (qC (ds:=[tri u,tri v,.str<|cg true]) (kd (tF rfl)<|kd (ku rfl)<|kd (ku rfl) pq) P) (by simp;lia)
   show(if decide (0<(l++[u]++[v]).length)=true then m4 (uf a mB mC (re w s4 s5)<|gu (l++[u]++[v]) cs p o) _ else _)=_;rw[af<|aB z,R];exact O
  ·have e:ts=[]:=cA (by simp_all);subst e;exact⟨cs,s5,I,by simp at j;lia,rfl⟩
theorem LW(r:∀(x y:Cn) s,x.tx.length<=10000->y.tx.length<=10000->mC [hJ x,hJ y,.str<|cw s]=.ok (hJ<|.two s x y)){w}{p o:Int}{n}(F:n<=150):∀f (cs:rG) s4 s5,0<cs.length->cs.length<f->yx [] cs n v0->
 ∃c d,(c.Ok/\kh c=v0)/\c.sz+1=n/\mx (jS<|P2.b1 tB<|ux) (ui a mB mC) f (re (cw w) s4 s5) (gu [] cs p o)=.nx (re (cw w) s4 d) (gu [] [c] p o)
 |0,cs,s4,s5,G,C,I=>by simp_all
 |f+1,cs,s4,s5,G,C,I=>by
  have j:(jS<|P2.b1 tB<|ux) (re (cw w) s4 s5) (gu [] cs p o)=.ok (decide<|1<cs.length) (gu [] cs p o):=by
   refine rq ?_;obtain⟨u,v,e⟩:=yh (ts:=[].map tri) (cs:=cs.map hJ) (p:=p) (o:=o) (w:=cw w) (s4:=s4) (s5:=s5);rw[e];iterate 4 (walk_at "d";try simp only[eQ])
   rw[ae]
   congr 1
   apply bU.mpr;omega
  show∃c d,_/\_/\toZ ((jS<|P2.b1 tB<|ux) (re (cw w) s4 s5) (gu [] cs p o)) _=_;rw[j];by_cases z:1<cs.length
  ·obtain⟨l,u,v,e⟩:=ye z;subst e;have h:=I.sum;rw[qB,qB,pU,pU]at h;have m:=I.cO u (by simp);have k:=I.cO v (by simp);have D:=r u v w (xi m<|by lia) (xi k<|by lia);simp only[aa,ag,bj,show wt []=0 from rfl]at C h;obtain⟨c,d,O,L,J⟩:=LW (v0:=v0) r F f (l++[.two w u v]) s4 (ig (hJ v)) (by simp) (by simp;walk_at "l") ⟨nofun,λt i=>by
    simp only[a9,aS]at i;rcases i with i|rfl;· exact I.cO t (by simp[i])
    · exact⟨m,k⟩,by
    rw[qB,pU,aa,bH];show 0+(wc l+(u.sz+v.sz+1))+0+(l.length+1)=n
    lia,by have q:=I.ov;simp only[yg,vI,kh]at q⊢;lia⟩
   refine⟨c,d,O,L,?_⟩;have P:ui a mB mC (re (cw w) s4 s5) (gu [] (l++[u]++[v]) p o)=.nx (re (cw w) s4<|ig<|hJ v) (gu [] (l++[.two w u v]) p o):=by unfold ui;show _=jK.nx _ (ie ([].map tri) ((l++[Cn.two w u v]).map hJ) p o);show gG _ _ _ (ie ([].map tri) ((l++[u]++[v]).map hJ) p o)=_;rw[Md,u4];rw[lq<|n9 (xH rfl)<|by simp[re]];exact ua rfl (qC (ds:=[hJ u,hJ v,.str<|cw w]) (kd (xH rfl)<|kd (ku rfl)<|kd (ku rfl) pq) D) (by simp;lia)
   show(if decide (1<(l++[u]++[v]).length)=true then m4 (ui a mB mC (re (cw w) s4 s5)<|gu [] (l++[u]++[v]) p o) _ else _)=_;rw[af<|aB z,P];exact J
  ·obtain⟨c,e⟩:=List.length_eq_one_iff.mp (show cs.length=1 by lia);subst e;have h:=I.sum;rw[pU]at h;exact⟨c,s5,⟨I.cO c (by simp),by have q:=I.ov;rw[vI]at q;simpa [vt]using q⟩,by simp[wt]at h;omega,rfl⟩
def Tm.kT(t:Tm):P2.kT t.d=true:=by
 induction t with
 |bin s x y d c=>simp[Tm.d,P2.kT,o3,d,c]
 |times p q x h=>simp[Tm.d,P2.kT,o3,h]
 |abs x h=>simp[Tm.d,P2.kT,o3,h]
 |_=>simp[Tm.d,P2.kT,o3]
def Cn.kT(t:Cn):P2.kT t.d=true:=by
 induction t with
 |cmp s x y=>simp[Cn.d,P2.kT,o3,Tm.kT]
 |not x h=>simp[Cn.d,P2.kT,o3,h]
 |two s x y d c=>simp[Cn.d,P2.kT,o3,d,c]
def aeI(c):P2.kT (hJ c)=true:=by simp[hJ,P2.kT,o3,Cn.kT]
def W6(F:Bb K M mB N mC H){ts:pE}{cs:rG}{p o:Int}(I:Inv ts cs p o)(w:gL)(b:Nat):
    ∃c S',(c.Ok/\kh c<=3)/\c.sz<=30/\g7 (Dw a mB mC b (ij 6 [.loc 0,.d<|.str<|cw w])<|gu ts cs p o)=.ok (.d<|hJ c) S':=by
 have hS:=I.sum;have f:=I.bd;have P:=NP ts.length cs.length;have l1:=EE cs;have l2:=EF ts;unfold Dw;rw[lq<|n9 (Ds rfl)<|by simp[ij],lq<|n9 (Dr rfl)<|by simp[ij],lq<|n9 (ku rfl)<|by simp[ij]];show∃c S',_/\_/\g7 (gG _ _ (re (cw w) (ig<|tri .here) none)<|gu ts cs p o)=_;have app:∀(d:pE),d.length<=100->ma 2 (zD<|dV 4) (re (cw w) (ig<|tri .here) none) (gu d cs p o)=.nx (re (cw w) (ig<|tri .here) none) (gu (d++[.here]) cs p o):=λd Y=>by show _=jK.nx _ (ie ((d++[Tm.here]).map tri) (cs.map hJ) p o);rw[xq];exact yO rfl (ku rfl) (by simp;walk_at "l")
 have D:jg (jS<|P2.b1 tB<|d2 gW (d2 gv (dA ih<|gh (dV 2) gk)<|dA ih<|gh (dV 3) gk)<|gq 0) (ma 2<|zD<|dV 4) j5 (re (cw w) (ig<|tri .here) none) (gu ts cs p o)=.nx (re (cw w) (ig<|tri .here) none) (gu (if ts.length+cs.length=0 then ts++[.here]else ts) cs p o):=by
  refine O9 (g:=λl=>gu l cs p o) ?_ λ_=>app ts (by simp_all);refine rq ?_;obtain⟨u,v,e⟩:=yh (ts:=ts.map tri) (cs:=cs.map hJ) (p:=p) (o:=o) (w:=cw w) (s4:=ig (tri .here)) (s5:=none);rw[e];iterate 4 (walk_at "d")
  rw[ae,ae]
  congr 1
  apply bU.mpr
  lia
 rw[lq D];have j:∀d:gi Tm,d.length<=100->jg (jS<|P2.b1 tB<|d2 gW (d2 hR (dA ih<|gh (dV 2) gk)<|gq 2)<|gq 1) (ma 2<|zD<|dV 4) j5 (re (cw w) (ig<|tri .here) none) (gu d cs p o)=.nx (re (cw w) (ig<|tri .here) none) (gu (if d.length%2=1 then d++[.here]else d) cs p o):=λd Y=>by
  refine O9 (g:=λl=>gu l cs p o) ?_ λ_=>app d (by omega);refine rq ?_;obtain⟨u,v,e⟩:=yh (ts:=d.map tri) (cs:=cs.map hJ) (p:=p) (o:=o) (w:=cw w) (s4:=ig (tri .here)) (s5:=none);rw[e];iterate 4 (walk_at "d")
  rw[ae]
  congr 1
  apply bU.mpr
  lia
 have fin:∀(d:pE) (n m r:Nat),d.length=2*m->0<d.length+cs.length->yx d cs n r->n<=31+30->r<=3->∃c S',(c.Ok/\kh c<=3)/\c.sz+1=n/\g7 ((gG (mx (jS<|P2.b1 tB<|zh) (uf a mB mC) 100)<|gG (mx (jS<|P2.b1 tB<|ux) (ui a mB mC) 100)<|jE<|zR<|i6 3 0) (re (cw w) (ig<|tri .here) none) (gu d cs p o))=.ok (.d<|hJ c) S':=by intro d n m r Z h2 J hn V;obtain⟨O,C,R,k1,L⟩:=LV (a:=a) (mC:=mC) F.co (w:=cw w) (p:=p) (o:=o) (n:=n) (by walk_at "l") 100 m d cs (ig (tri .here)) none Z (by have:=J.sum;lia) J;obtain⟨c,T,h,k,G⟩:=LW (a:=a) (mB:=mB) F.jo (w:=w) (p:=p) (o:=o) (n:=n) (by walk_at "l") 100 O (ig (tri .here)) C (by lia) (by have:=R.sum;lia) R;refine⟨c,gu [] [c] p o,⟨h.1,by rw[h.2];exact V⟩,k,?_⟩;rw[lq L,lq G];unfold jE zR;obtain⟨u,v,e⟩:=yh (ts:=[].map tri) (cs:=[c].map hJ) (p:=p) (o:=o) (w:=cw w) (s4:=ig (tri .here)) (s5:=T);rw[e];have U:(i6 3 0) [.no,iW<|cw w,iD<|[].map tri,iD<|[c].map hJ,u,v]=.ok (hJ c):=rfl;rw[U];dsimp only;rw[af<|aeI c];rfl
 by_cases z:ts.length+cs.length=0
 ·have L:ts=[]:=cA (by simp_all);have G:cs=[]:=cA (by simp_all);subst L G;rw[lq<|j _<|by simp];obtain⟨c,S',h,k,e⟩:=fin [.here,.here] 4 1 0 rfl (by simp) ⟨by intro t i;simp at i;subst i;trivial,nofun,rfl,rfl⟩ (by simp) (by simp);exact⟨c,S',h,by simp_all,e⟩
 ·rw[ao z,lq<|j ts<|by lia];by_cases y:ts.length%2=1
  ·rw[af y];obtain⟨c,S',h,k,e⟩:=fin (ts++[.here]) (wt ts+wc cs+ts.length+cs.length+2) ((ts.length+1)/2) (vt ts+vc cs) (by simp;lia) (by simp;lia) ⟨λt i=>by
      simp only[a9,aS]at i;rcases i with i|rfl;· exact I.tO t i
      · trivial,I.cO,by rw[nh,pW];simp only[aa,bH,Tm.sz];lia,by rw[vJ,vK];rfl⟩ (by unfold jy at f P;split at f<;>lia) (by have q:=I.ov;lia)
   refine⟨c,S',h,?_,e⟩;unfold jy at f;split at f<;>omega
  ·rw[ao y];obtain⟨c,S',h,k,e⟩:=fin ts (wt ts+wc cs+ts.length+cs.length) (ts.length/2) (vt ts+vc cs) (by lia) (by lia) ⟨I.tO,I.cO,rfl,rfl⟩ (by unfold jy at f P;split at f<;>lia) (by have q:=I.ov;lia);refine⟨c,S',h,?_,e⟩;unfold jy at f;split at f<;>lia
theorem turns{q:gw}{l:hL}{Ze}(O:∀t c:Int,q [.int t,.int c]=.ok (.int<|jy t c))
 (T:∀f d (p o c h:Int),Inv f d p o->p+1+jy f.length d.length<=30->p+1+jy (f.length+1) d.length<=30->∃i j m,Inv i j (p+1) m/\l [.loc 0,.d<|.int c,.d<|.int h] (gu f d p o)=.ok (.d .non) (gu i j (p+1) m)){h:Int}:
   ∀(F:kY) f d (p o:Int) s4 s5 s6,Inv f d p o->∃i j C m L J G,Inv i j C m/\lF (hV 4) (qJ a q l Ze) (F.map D.int) (ox h s1 s2 s4 s5 s6) (gu f d p o)=.nx (ox h s1 s2 L J G) (gu i j C m)
  |[],f,d,p,o,s4,s5,s6,I=>⟨f,d,p,o,s4,s5,s6,I,rfl⟩
  |n::F,f,d,p,o,s4,s5,s6,I=>by
   have lc:∀(ρ:hU),ρ[3]?=some (gz 0)->sv (kc (zV 3)<|gs "conds") ρ (gu f d p o)=.ok (.d<|.int d.length) (gu f d p o):=λρ e=>by unfold sv;rw[Dr e];show RX.ok (Z.d<|.int (((d.map hJ).map Z.d).length:Nat)) _=_;rw[ae,ae]
   have lt:∀(ρ:hU),ρ[3]?=some (gz 0)->sv (kc (zV 3)<|gs "terms") ρ (gu f d p o)=.ok (.d<|.int f.length) (gu f d p o):=λρ e=>by unfold sv;rw[Ds e];show RX.ok (Z.d<|.int (((f.map tri).map Z.d).length:Nat)) _=_;rw[ae,ae]
   have V:∀x y:Int,tj [.int x,.int y]=.ok (.int<|max x y):=λx y=>by
    show R.ok (D.int<|if y>x then y else x)=_
    congr 2
    split<;>lia
   have U:∀z:Int,(qJ a q l Ze) (ox h s1 s2 (jF n) s5 s6) (gu f d p o)=gG (jg (JW) jK.bk j5) (jD<|zZ l<|C0) (ox h s1 s2 (jF n) (jF d.length)<|jF<|max (jy f.length d.length)<|jy (f.length+1) d.length) (gu f d p o):=λz=>by unfold qJ;rw[lq<|n9 (lc _ rfl)<|by simp];exact lq (n9 (qC (ds:=[.int<|jy f.length d.length,.int<|jy (f.length+1) d.length]) (kd (qC (ds:=[.int f.length,.int d.length]) (kd (lt _ rfl)<|kd (ku rfl) pq)<|O _ _)<|kd (qC (ds:=[.int<|f.length+1,.int d.length]) (kd (tX (lt _ rfl) (ku rfl) rfl)<|kd (ku rfl) pq)<|O _ _) pq)<|V _ _)<|by simp)
   have k:(JW) (ox h s1 s2 (jF n) (jF d.length)<|jF<|max (jy f.length d.length)<|jy (f.length+1) d.length) (gu f d p o)=.ok (decide<|p+1+max (jy f.length d.length) (jy (f.length+1) d.length)>30) (gu f d p o):=Pc (tX (tX (tX (Kw rfl) (ku rfl) rfl) (ku rfl) rfl) (ku rfl) rfl) rfl;by_cases z:p+1+max (jy f.length d.length) (jy (f.length+1) d.length)>30
   ·rw[aB z]at k;refine⟨f,d,p,o,jF n,jF d.length,jF<|max (jy f.length d.length)<|jy (f.length+1) d.length,I,?_⟩;show m4 ((qJ a q l Ze) (ox h s1 s2 (jF n) s5 s6) (gu f d p o)) _=_;rw[U 0];unfold gG;rw[tV k];rfl
   ·rw[az z]at k;obtain⟨r,v,P,I1,Y⟩:=T f d p o n h I (by omega) (by omega);obtain⟨i,j,C,m,L,J,G,I',e'⟩:=turns O T F r v (p+1) P (jF n) (jF d.length) (jF<|max (jy f.length d.length)<|jy (f.length+1) d.length) I1;refine⟨i,j,C,m,L,J,G,I',?_⟩;show m4 ((qJ a q l Ze) (ox h s1 s2 (jF n) s5 s6) (gu f d p o)) (lF (hV 4) (qJ a q l Ze)<|F.map D.int)=_;rw[U 0];unfold gG;rw[mP k];show m4 (jD _ _<|gu f d p o) _=_;have call:(zZ l<|C0) (ox h s1 s2 (jF n) (jF d.length)<|jF<|max (jy f.length d.length)<|jy (f.length+1) d.length) (gu f d p o)=.ok (.d .non) (gu r v (p+1) P):=by
     have ar:(C0) (ox h s1 s2 (jF n) (jF d.length)<|jF<|max (jy f.length d.length)<|jy (f.length+1) d.length) (gu f d p o)=.ok [.loc 0,.d<|.int n,.d<|.int h] (gu f d p o):=kd rfl (kd (ku rfl)<|kd (ku rfl) pq);unfold zZ;rw[ar];exact Y
    unfold jD;rw[call];exact e'
def Xe{q:gw}{n Ze:hL}(D:∀t c:Int,q [.int t,.int c]=.ok (.int<|jy t c))
 (C:∀k l (p o c h:Int),Inv k l p o->p+1+jy k.length l.length<=30->p+1+jy (k.length+1) l.length<=30->∃d f i,Inv d f (p+1) i/\n [.loc 0,.d<|.int c,.d<|.int h] (gu k l p o)=.ok (.d .non) (gu d f (p+1) i))
 (F:∀k l (p o:Int) w,Inv k l p o->∃c S',(c.Ok/\kh c<=3)/\c.sz<=30/\Ze [.loc 0,.d<|.str<|cw w] (gu k l p o)=.ok (.d<|hJ c) S')(h:Int)(j:kY)(w b):
   ∃c:Cn,(c.Ok/\kh c<=3)/\c.sz<=30/\clo (g7<|Du a q n Ze b (ij 7 [.d<|.int h,.d<|.lst<|j.map .int,.d<|.str<|cw w]) [])=.ok (hJ c):=by
  have R:Inv [] [] 0 0:=⟨nofun,nofun,rfl,by decide,rfl,by decide⟩;obtain⟨d,f,m,i,z,v,r,T,I⟩:=turns (a:=a) (Ze:=Ze) D C (h:=h) (s1:=yn (j.map .int)) (s2:=ig (.str (cw w))) j [] [] 0 0 none none none R;obtain⟨c,S',O,L,G⟩:=F d f m i w T;refine⟨c,O,L,?_⟩;unfold Du;have J:Hb [.inr "terms",.inr "conds",.inr "parts",.inr "over"] (gx (tW<|λρ=>(gk ρ).bind js)<|gx (tW<|λρ=>(gk ρ).bind js)<|gx (zD<|gq 0)<|gx (zD<|gq 0) gA) (ij 7 [.d<|.int h,.d<|.lst<|j.map .int,.d<|.str<|cw w]) []=.ok (.loc 0) (gu [] [] 0 0):=rfl;rw[lq<|n9 J<|by simp[ij]];show clo (g7<|gG (AZ (λρ=>((dV 1) ρ).bind mi) (hV 4)<|qJ a q n Ze) _ (ox h (yn<|j.map .int) (ig<|.str<|cw w) none none none)<|gu [] [] 0 0)=_;have fo:AZ (λρ=>((dV 1) ρ).bind mi) (hV 4) (qJ a q n Ze) (ox h (yn<|j.map .int) (ig<|.str<|cw w) none none none) (gu [] [] 0 0)=.nx (ox h (yn<|j.map .int) (ig<|.str<|cw w) z v r) (gu d f m i):=I;rw[lq fo];have P:(gx (zV 3)<|gx (zD<|dV 2) gA) (ox h (yn<|j.map .int) (ig<|.str<|cw w) z v r) (gu d f m i)=.ok [.loc 0,.d<|.str<|cw w] (gu d f m i):=kd rfl (kd (ku rfl) pq);unfold jE zZ;rw[P];show clo (g7<|toZ (Ze [.loc 0,.d<|.str<|cw w]<|gu d f m i) jK.rt)=_;rw[G];rfl
end WC
namespace pG
open PySem L2 P2 WP TM T2 PySem.NumText WR WC WS
variable{a:Ad}
def wt(d x:hZ):Nat:=(x.map λc=>if c∈d then 4 else 1).sum
def nh(ss x y):wt ss (x++y)=wt ss x+wt ss y:=by unfold wt;rw[aH,dQ]
theorem AY(ss):∀x:gi Nat,x.length<=wt ss x/\wt ss x<=4*x.length
 |[]=>⟨au _,au _⟩
 |c::x=>by obtain⟨f,d⟩:=AY ss x;have e:wt ss (c::x)=(if c∈ss then 4 else 1)+wt ss x:=rfl;rw[e,ag];split<;>lia
theorem G1(ss):∀x:gi Nat,wt ss x<=wt (s::ss) x
 |[]=>au _
 |c::x=>by
  have h:=G1 (s:=s) ss x;have e:wt ss (c::x)=(if c∈ss then 4 else 1)+wt ss x:=rfl;have d:wt (s::ss) (c::x)=(if c∈s::ss then 4 else 1)+wt (s::ss) x:=rfl;rw[e,d];by_cases q:c∈ss;·rw[af q,af<|aQ _ q];simp_all
  ·rw[ao q];split<;>lia
theorem Lr(f:s∉ss)(d:32∉ss):∀c:gi (gi Nat),wt ss (jn [32,32,s,32] c)<=wt (s::ss) (jn [s] c)
 |[]=>au _
 |[p]=>G1 ss p
 |p::q::r=>by
  have l:=Lr f d (q::r);have k:jn [32,32,s,32] (p::q::r)=p++([32,32,s,32]++jn [32,32,s,32] (q::r)):=rfl;have j:jn [s] (p::q::r)=p++([s]++jn [s] (q::r)):=rfl;rw[k,j,nh,nh,nh,nh];have i:wt ss [32,32,s,32]=4:=by show(if 32∈ss then 4 else 1)+((if 32∈ss then 4 else 1)+((if s∈ss then 4 else 1)+((if 32∈ss then 4 else 1)+0)))=4;rw[ao f,ao d];rfl
  have h:wt (s::ss) [s]=4:=by show(if s∈s::ss then 4 else 1)+0=4;rw[af<|bf ..];rfl
  rw[i,h];have:=G1 (s:=s) ss p
  lia
theorem Lq(f:jz s=false)(c:s≠32):∀d x,gI (x++jn [32,32,s,32] d)=gI (x++jn [s] d)
 |[],_=>rfl
 |[p],_=>rfl
 |p::q::r,x=>by
  have h:=Lq f c (q::r) (x++p++[s]);have j:x++jn [32,32,s,32] (p::q::r)=(x++p)++(List.replicate 2 32++s::(List.replicate 1 32++jn [32,32,s,32] (q::r))):=by show x++(p++([32,32,s,32]++jn [32,32,s,32] (q::r)))=_;rw[aV];rfl
  have i:x++jn [s] (p::q::r)=(x++p++[s])++jn [s] (q::r):=by show x++(p++([s]++jn [s] (q::r)))=_;simp only[aV]
  rw[j,i,aeF f c,<-h,aV<|x++p];rfl
theorem Ln:∀d:gi (gi Nat),c∈jn [32,32,s,32] d->c∈jn [s] d\/c=32
 |[],h=>by cases h
 |[p],h=>.inl h
 |p::q::r,h=>by
  have i:jn [32,32,s,32] (p::q::r)=p++([32,32,s,32]++jn [32,32,s,32] (q::r)):=rfl;have f:jn [s] (p::q::r)=p++([s]++jn [s] (q::r)):=rfl;rw[i]at h;rw[f];rcases a9.mp h with h|h;·exact .inl (cx _ h)
  ·rcases a9.mp h with h|h
   ·have:c=32\/c=s:=by simp at h;lia
    rcases this with h|h;·exact .inr h
    ·exact .inl (aU _<|cx _<|by rw[h];exact aS.mpr rfl)
   ·rcases Ln (q::r) h with h|h;·exact .inl (aU _<|aU _ h)
    ·exact .inr h
def acD:∀(d:hZ),d.Nodup->(∀s∈d,jz s=false/\s≠32)->∀x:gp,wt d (gj x)<=1000000->∃z,nG true "  " " " d x=some z/\gI (gj z)=gI (gj x)/\(gj z).length<=wt d (gj x)/\∀c∈gj z,c∈gj x\/c=32:=by
 intro d;induction d with
 |nil=>intro _ _ x _;exact⟨x,rfl,rfl,(AY [] _).1,λ_ h=>.inl h⟩
 |cons s d q=>
  intro p m x M;obtain⟨o,n⟩:=m s (.head _);obtain⟨l,j,i⟩:=acE x ⟨#[s]⟩ (Str.ofString "  "++⟨#[s]⟩++Str.ofString " ");have L:gj (Str.ofString "  "++⟨#[s]⟩++Str.ofString " ")=[32,32,s,32]:=by rw[mV,mV];rfl
  have J:gj (⟨#[s]⟩:gp)=[s]:=rfl;rw[J]at j;rw[L]at i;have f:=dO.mp p;have k:=Lr f.1 (λz=>(m 32<|.tail _ z).2 rfl) l;rw[<-j,<-i]at k;have I:nG true "  " " " (s::d) x=if true=true then(if x.length<=1000000 then nG true "  " " " d (Txt.replace x ⟨#[s]⟩<|Str.ofString "  "++⟨#[s]⟩++Str.ofString " ")else none)else nG true "  " " " d x:=rfl
  generalize Txt.replace x ⟨#[s]⟩ (Str.ofString "  "++⟨#[s]⟩++Str.ofString " ")=y at i k I;have r:wt d (gj y)<=1000000:=by walk_at "l"
  obtain⟨z,O,G,F,D⟩:=q f.2 (λt v=>m t<|.tail _ v) y r;refine⟨z,?_,?_,av F k,λc C=>?_⟩
  ·have N:x.length<=1000000:=by
    have o:=(AY (s::d)<|gj x).1;have n:=la x;walk_at "l"
   simp_all
  ·rw[G,j,i];exact Lq o n l []
  ·rcases D c C with h|h
   ·rw[i]at h;rw[j];exact Ln l h
   ·exact .inr h
theorem NL:∀c x,nG false "  " " " c x=some x
 |[],_=>rfl
 |s::c,x=>by unfold nG;rw[ao<|by simp];exact NL c x
def acC(b)(x:hZ)(l:x.length<=1000):∃z:gi Nat,nG b "  " " " (Str.ofString "()[]+-*<=:").cps.toList (gm x)=some (gm z)/\gI z=gI x/\z.length<=4*x.length/\∀c∈z,c∈x\/c=32:=by
 cases b with
 |false=>exact⟨x,NL _ _,rfl,by lia,λ_ h=>.inl h⟩
 |true=>have k:=AY (Str.ofString "()[]+-*<=:").cps.toList x;obtain⟨z,j,f,i,d⟩:=acD (Str.ofString "()[]+-*<=:").cps.toList (by decide) (by decide) (gm x) (by rw[lL];lia);rw[lL]at f i d;exact⟨gj z,by rw[mq];exact j,f,by lia,d⟩
def X1:∀n:Nat,n<4->rW (Str.ofString " ") (n:Int)=true/\Txt.mul (Str.ofString " ") (n:Int)=gm (List.replicate n 32):=by decide+kernel
def Aa{n:Int}(c:0<=n)(d:n<4):iU (.str " ") (.int n)=.ok (tS (List.replicate n.toNat 32)):=by obtain⟨k,rfl⟩:=aO c;obtain⟨o,t⟩:=X1 k (by lia);rw[xQ o,t];rfl
structure nk(r:hZ):Prop where
 l:r.length<=4000
 p:∀c∈r,32<=c/\c<=126
 t:∀t∈gI r,t.length<=1000
def nk.ok(h:nk r):oR r:=⟨av h.l<|by decide,λc d=>by have:=(h.p c d).2;walk_at "l",h.t⟩
def NV{r:hZ}(h:r.length<=900)(d:∀c∈r,32<=c/\c<=126):nk r:=⟨by walk_at "l",d,(NU h λc f=>by have:=(d c f).2;walk_at "l").t⟩
def NW{n}(h:n<=10):nk (List.replicate n 32):=NV (by rw[bG];walk_at "l") λc d=>by rw[(List.mem_replicate.mp d).2];decide
def Mr(x y):kg (x++y)=kg x++kg y:=by unfold kg;rw[dY,aH]
def Yb(h:blk r=false):kg [r]=[gI r]:=by unfold kg;simp_all
def Ya(h:blk r=true):kg [r]=[]:=by unfold kg;simp_all
def jA{A:g0}(c:A ρ=.nx jr):gy A B ρ=B jr:=by show tJ (A ρ) B=_;rw[c];rfl
def lh{f:hP}{d}(h:f ρ=.ok d)(c:i<ρ.length):gS i f ρ=.nx (ρ.set i<|.sh d):=by rw[Nx,h,lN,af c]
def B5{f:hP}{d}(h:f (s0::s1::.ow ds::r)=.ok d)(c:ds.length<=1000):n7 2 f (s0::s1::.ow ds::r)=.nx (s0::s1::.ow (ds++[d])::r):=by show toS (f<|s0::s1::.ow ds::r) (λd=>if ds.length<sizeLine then .nx (s0::s1::.ow (ds++[d])::r)else .bad)=_;rw[h,lN,af<|lt_size<|by walk_at "l"]
def Wh{c:mU}{k:Nat}{x:hZ}(h:c[k]?=some x):gK (.lst<|c.map tS) (.int (k:Nat))=.ok (tS x):=by
 have e:L2.hI (c.map tS) (k:Int)=some (tS x):=by
  unfold L2.hI qR
  grind
 rw[xO,e]
def Qo{d:mU}{k:Nat}{x:hZ}(J:d[k]?=some x)(hl:x.length<=900)(hp:∀c∈x,32<=c/\c<=126)(j:gI x≠[])(c:Int){rs:mU}(h:rs.length<=900){s4 s5:Sl}:
    ∃(new:mU) (m l:Sl),(∀r∈new,nk r)/\new.length<=2/\kg new=[gI x]/\ug a [.sh<|.lst<|d.map tS,.sh<|.int c,.ow<|rs.map tS,.sh<|.int (k:Nat),s4,s5]=.nx [.sh<|.lst<|d.map tS,.sh<|.int c,.ow<|(rs++new).map tS,.sh<|.int (k:Nat),m,l]:=by
 obtain⟨z,z1,z2,Z,Y⟩:=acC ((c+(k:Int)).fmod 3==1) x (by walk_at "l");have I:=Aa (n:=(c+(k:Int))%4) (by grind) (by grind);have G:=Aa (n:=c/5%2) (by lia) (by lia);have F:=Aa (n:=c/3%3) (by lia) (by lia);have n1:((c+(k:Int))%4).toNat<=3:=by grind
 have n2:(c/5%2).toNat<=3:=by lia
 have n3:(c/3%3).toNat<=3:=by lia
 generalize((c+(k:Int))%4).toNat=i1 at*;generalize(c/5%2).toNat=i2 at*;generalize(c/3%3).toNat=i3 at*;have v:gv (tS<|List.replicate i1 32) (tS z)=.ok (tS<|List.replicate i1 32++z):=jU (by simp;walk_at "l") (by lia);have p:gv (tS<|List.replicate i1 32++z) (tS<|List.replicate i2 32)=.ok (tS<|(List.replicate i1 32++z)++List.replicate i2 32):=jU (by simp;lia) (by simp;walk_at "l");have f:gI ((List.replicate i1 32++z)++List.replicate i2 32)=gI x:=by rw[OF,Gk,z2]
 have o:nk ((List.replicate i1 32++z)++List.replicate i2 32):=by
  refine⟨by simp;lia,λch hc=>?_,λt j=>?_⟩;·grind
  ·rw[f]at j;have:=OG j
   lia
 have i:kg [(List.replicate i1 32++z)++List.replicate i2 32]=[gI x]:=by rw[Yb<|Af<|by rw[f];exact j,f]
 generalize(List.replicate i1 32++z)++List.replicate i2 32=w at*;generalize List.replicate i1 32++z=w1 at*;have D:=NW (n:=i3) (by walk_at "l");have U:=IK i3;generalize List.replicate i3 32=w3 at*;unfold ug;have R:d2 gK (dV 0) (dV 3) [.sh<|.lst<|d.map tS,.sh<|.int c,.ow<|rs.map tS,.sh<|.int (k:Nat),s4,s5]=.ok (tS x):=by rw[oF,oG,gM,tH,gM,Wh J]
 have P:AE 5 4 1 3 3 1 "  " " " "()[]+-*<=:" [.sh<|.lst<|d.map tS,.sh<|.int c,.ow<|rs.map tS,.sh<|.int (k:Nat),.sh<|tS x,s5]=.nx [.sh<|.lst<|d.map tS,.sh<|.int c,.ow<|rs.map tS,.sh<|.int (k:Nat),.sh<|tS z,.sh<|.str ":"]:=by
  show(match nG ((c+(k:Int)).fmod 3==1) "  " " " (Str.ofString "()[]+-*<=:").cps.toList (gm x),(Str.ofString "()[]+-*<=:").cps.toList.getLast? with
   |some z,some T=>if 5<6 then RT.nx [.sh<|.lst<|d.map tS,.sh<|.int c,.ow<|rs.map tS,.sh<|.int (k:Nat),.sh<|.str z,.sh<|.str ⟨#[T]⟩]else .bad
   |_,_=>.bad)=_
  rw[z1];rfl
 have O:d2 gv (d2 gv (d2 iU (dC<|.str " ")<|d2 hR (d2 gv (dV 1)<|dV 3)<|dC<|.int 4)<|dV 4) (d2 iU (dC<|.str " ")<|d2 hR (d2 iE (dV 1)<|dC<|.int 5)<|dC<|.int 2) [.sh<|.lst<|d.map tS,.sh<|.int c,.ow<|rs.map tS,.sh<|.int (k:Nat),.sh<|tS z,.sh<|.str ":"]=.ok (tS w):=by have V:gv (.int c) (.int (k:Nat))=.ok (.int<|c+(k:Int)):=rfl;generalize gv=ni at*;generalize iU=wb at*;iterate 6 (walk_at "d";try simp only[V,I,G,v,p])
 have N:∀(C s4 s5:Sl),b1 tB (d2 gW (d2 hR (d2 gv (dV 1)<|dV 3)<|dC<|.int 3)<|dC<|.int 2) [.sh<|.lst<|d.map tS,.sh<|.int c,C,.sh<|.int (k:Nat),s4,s5]=.ok (decide<|(c+(k:Int))%3=2):=λ_ _ _=>by iterate 3 (walk_at "d")
 rw[jA<|lh R<|show 4<6 by decide];have M:[.sh<|.lst<|d.map tS,.sh<|.int c,.ow<|rs.map tS,.sh<|.int (k:Nat),s4,s5].set 4 (.sh<|tS x)=[.sh<|.lst<|d.map tS,.sh<|.int c,.ow<|rs.map tS,.sh<|.int (k:Nat),.sh<|tS x,s5]:=rfl;rw[M,jA P,jA<|B5 O<|by rw[ae];walk_at "l"];rw[pO,N,lN];by_cases q:(c+(k:Int))%3=2
 ·rw[aB q,af rfl];have L:d2 iU (dC<|.str " ") (d2 hR (d2 iE (dV 1)<|dC<|.int 3)<|dC<|.int 3) [.sh<|.lst<|d.map tS,.sh<|.int c,.ow<|rs.map tS++[tS w],.sh<|.int (k:Nat),.sh<|tS z,.sh<|.str ":"]=.ok (tS w3):=by
   generalize iU=wb at*;iterate 5 (walk_at "d";try simp only[F])
  refine⟨[w,w3],.sh<|tS z,.sh<|.str ":",λr h=>?_,au _,?_,(B5 L<|by simp;walk_at "l").trans ?_⟩
  ·rcases aT.mp h with rfl|h;·exact o
   ·rw[aS.mp h];exact D
  ·rw[show[w,w3]=[w]++[w3]from rfl,Mr,i,Ya U];rfl
  ·rw[aH,aV];rfl
 ·rw[az q];refine⟨[w],.sh<|tS z,.sh<|.str ":",λr h=>?_,c6 1,i,?_⟩;·rw[aS.mp h];exact o
  ·rw[aH];rfl
theorem LB{f:mU}(p:∀x∈f,x.length<=900/\(∀c∈x,32<=c/\c<=126)/\gI x≠[])(R:f.length<=100)(c:Int):∀(j k:Nat) (rs:mU) (l s4 s5:Sl),k+j=f.length->rs.length<=2*k->(∀r∈rs,nk r)->kg rs=(f.take k).map gI->
 ∃(d:mU) (m i h:Sl),d.length<=2*f.length/\(∀r∈d,nk r)/\kg d=f.map gI/\qM (gV 3) (ug a) ((List.range' k j).map λ(k:Nat)=>D.int k) [iD<|f.map tS,il c,.ow<|rs.map tS,l,s4,s5]=.nx [iD<|f.map tS,il c,.ow<|d.map tS,m,i,h]
 |0,k,rs,l,s4,s5,U,T,o,n=>⟨rs,l,s4,s5,by simp_all,o,by rw[n,bY<|by simp_all],rfl⟩
 |j+1,k,rs,l,s4,s5,U,T,o,n=>by
  have q:k<f.length:=by lia
  have v:=bw q;obtain⟨Z,Y,V⟩:=p _ (ey q);obtain⟨new,i,h,O,n2,N,M⟩:=Qo (a:=a) v Z Y V c (rs:=rs) (by lia) (s4:=s4) (s5:=s5);obtain⟨d,F,C,z,L,J,I,G⟩:=LB p R c j (k+1) (rs++new) (il (k:Nat)) i h (by lia) (by rw[aa];walk_at "l") (λr P=>(a9.mp P).elim (o r) (O r)) (by rw[Mr,n,N,List.take_succ,v,aH];rfl);refine⟨d,F,C,z,L,J,I,?_⟩;rw[List.range'_succ,aF];show turnT (ug a [iD<|f.map tS,il c,.ow<|rs.map tS,il (k:Nat),s4,s5]) _=_;rw[M];exact G
def FR{j:Nat}(c:j<1000000):mL [.int j]=.ok ((List.range j).map λ(k:Nat)=>D.int k):=by
 have e:vu 0 j=(List.range j).map λ(k:Nat)=>D.int k:=by unfold vu;simp
 rw[<-e];unfold mL;dsimp only;rw[af<|by lia,Int.toNat_natCast]
def NQ{ρ:Ev}{i n:Nat}{c:ja}(h:dV i ρ=.ok (.lst c))(f:c.length=n)(j:n<1000000):((gh (dA ih<|gh (dV i) gk) gk) ρ).bind mL=.ok ((List.range' 0 n).map λ(k:Nat)=>D.int k):=by subst f;have d:=FR j;rw[List.range_eq_range']at d;rw[jZ,mK,jZ,h,gM,kF,gM,gM,vp,gM,gM,gM,d]
def XD{d:mU}(p:∀x∈d,x.length<=900/\(∀c∈x,32<=c/\c<=126)/\gI x≠[])(q:d.length<=100)(c:Int):
    ∃rs:gi (gi Nat),rs.length<=2*d.length/\(∀r∈rs,nk r)/\kg rs=d.map gI/\gB (DP a<|gJ 6 [.lst<|d.map tS,.int c])=.ok (.lst<|rs.map tS):=by
 obtain⟨rs,k,j,h,o,n,m,l⟩:=LB (a:=a) p q c d.length 0 [] .no .no .no (by simp) (au _) nofun rfl;refine⟨rs,o,n,m,?_⟩;unfold DP;show gB (gy _ _ [iD<|d.map tS,il c,.no,.no,.no,.no])=_;have z:pP 2 (λρ=>(gk ρ).bind js) [iD<|d.map tS,il c,.no,.no,.no,.no]=.nx [iD<|d.map tS,il c,.ow [],.no,.no,.no]:=rfl;have v:vx (λρ=>((gh (dA ih<|gh (dV 0) gk) gk) ρ).bind mL) (gV 3) (ug a) [iD<|d.map tS,il c,.ow [],.no,.no,.no]=.nx [iD<|d.map tS,il c,.ow<|rs.map tS,k,j,h]:=by rw[FF];have:=NQ (i:=0) (ρ:=[iD<|d.map tS,il c,.ow [],.no,.no,.no]) rfl (ae (f:=tS) (as:=d)) (by walk_at "l");rw[this];exact l
 rw[jA z,jA v];rfl
variable{a:Ad}
def nm(s p k:Nat):gi Nat:=(List.replicate p 120++[98+k])++List.replicate (s - p) 120
def Mo:∀n:Nat,n<8->rW (Str.ofString "x") (n:Int)=true/\Txt.mul (Str.ofString "x") (n:Int)=gm (List.replicate n 120):=by decide+kernel
def YJ:∀k:Nat,k<13->L2.hI (Str.ofString "bcdefghijklmn").cps.toList (k:Int)=some (98+k):=by decide
def Mt:∀s:Nat,s<8->∀p:Nat,p<s+1->∀j:Nat,j<13->TR.ki (nm s p j)=true:=by decide+kernel
def Yf{k}(h:nm s p k=nm s p l):k=l:=by unfold nm at h;have:=List.append_cancel_left (List.append_cancel_right h);have:=(List.cons.inj this).1;simp_all
def Xm(c:Int):∃s p:Nat,s<8/\p<s+1/\∀j:Nat,j<13->gB (DC a<|gJ 4 [.int c,.int (j:Nat)])=.ok (tS<|nm s p j):=by
 have J:0<=c%8/\c%8<8:=by lia
 obtain⟨s,G⟩:=aO J.1;have k:(0:Int)<1+(s:Int):=by lia
 have f:=c9 (c/8) (show(1:Int)+s≠0 by lia);have i:=cM (c/8) k;obtain⟨p,h⟩:=aO f;have q:s<8:=by lia
 have r:p<s+1:=by lia
 refine⟨s,p,q,r,λj d=>?_⟩;have I:((j:Nat):Int)%13=(j:Nat):=by lia
 have N:=YJ j d;obtain⟨z,o⟩:=Mo p (by walk_at "l");obtain⟨v,n⟩:=Mo (s - p) (by lia);have L:(1:Int)+(s:Int) - 1 - (p:Int)=((s - p:Nat):Int):=by grind
 have D:iU (.str<|Str.ofString "x") (.int (p:Int))=.ok (.str<|gm<|List.replicate p 120):=by rw[xQ z,o]
 have C:iU (.str<|Str.ofString "x") (.int ((s - p:Nat):Int))=.ok (.str<|gm<|List.replicate (s - p) 120):=by rw[xQ v,n]
 have F:(Str.ofString "bcdefghijklmn").length<=sizeLine:=by decide
 have m:gv (.str<|gm<|List.replicate p 120) (.str ⟨#[98+j]⟩)=.ok (.str<|gm<|List.replicate p 120++[98+j]):=jU (y:=[98+j]) (by rw[bG];lia) (by simp);have l:gv (.str<|gm<|List.replicate p 120++[98+j]) (.str<|gm<|List.replicate (s - p) 120)=.ok (.str<|gm<|(List.replicate p 120++[98+j])++List.replicate (s - p) 120):=jU (by simp;lia) (by simp;lia);have M:gv (.int 1) (.int (s:Int))=.ok (.int<|1+s):=rfl;unfold DC nm;generalize iU=wb at*;generalize gv=ni at*;iterate 9 (walk_at "d";try simp only[G,h,I,r6 k,N,af F,L,D,C,m,l,M])
def Jw{c:Type}(f)(d:gi c)(lo hi):∃h:gi c,cutD (d.map f) lo hi=h.map f:=by
 unfold cutD;refine⟨?_,?_⟩
 rotate_left
 ·rw[ae,<-List.map_drop,<-fZ]
def Iu{f:hP}{d}(h:f (s0::s1::s2::.ow ds::r)=.ok d)(c:ds.length<=1000):n7 3 f (s0::s1::s2::.ow ds::r)=.nx (s0::s1::s2::.ow (ds++[d])::r):=by rw[abm,h,lN,af<|lt_size<|by walk_at "l"]
def ju(r:Tk×Cn):D:=kq (tI r)
section
variable{Fc H I:gw}
abbrev ou(ns:kY)(L:qb)(ms:kY)(v1 v5 v6 v7 v8 v9:Sl):Ev:=[iD<|ns.map .int,v1,iD<|L.map ju,.ow<|L.map λr=>tS<|jc r,iD<|ms.map .int,v5,v6,v7,v8,v9]
abbrev lE(ns:kY)(v1 v2 v3 v4 v5 v6 v7 v8 v9:Sl):Ev:=[iD<|ns.map .int,v1,v2,v3,v4,v5,v6,v7,v8,v9]
def Qm{d:kY}{h:Int}{s p k:Nat}(z:s<8)(F:p<s+1)(O:k<12){c:Cn}(M:c.Ok)(P:c.sz<=30){f:kY}(G:cutD (d.map D.int) (some<|14+4*(k:Int)) (some<|18+4*(k:Int))=f.map D.int)(L:H [.int h,.lst<|f.map .int,.str "and"]=.ok (hJ c))(i:I [.int h,.int (k:Nat)]=.ok (tS<|nm s p k))
    {rs ls:ja}(C:rs.length<=1000)(J:ls.length<=1000){s4 s6 s7 s8 s9:Sl}:
    ue a Fc H I (lE d (.sh<|.int h) (.ow rs) (.ow ls) s4 (.sh<|.int (k:Nat)) s6 s7 s8 s9)=.nx (lE d (.sh<|.int h) (.ow<|rs++[ju (nm s p k,c)]) (.ow<|ls++[tS<|jc (nm s p k,c)]) s4 (.sh<|.int (k:Nat)) (.sh<|hJ c) s7 s8 s9):=by
 have w:=vV (Mt s z p F k<|by walk_at "l");have N:=Cn.oB M;have q:iU (.int 4) (.int (k:Nat))=.ok (.int<|4*(k:Int)):=Az (by decide) (by decide);unfold ue;have l:dA H (gh (dV 1)<|gh (ot nH (dV 0) (λρ=>((d2 gv (dC<|.int 14)<|d2 iU (dC<|.int 4)<|dV 5) ρ).bind pI)<|λρ=>((d2 gv (dC<|.int 18)<|d2 iU (dC<|.int 4)<|dV 5) ρ).bind pI)<|gh (dC<|.str "and") gk) (lE d (.sh<|.int h) (.ow rs) (.ow ls) s4 (.sh<|.int (k:Nat)) s6 s7 s8 s9)=.ok (hJ c):=by generalize iU=wb at*;iterate 6 (walk_at "d";try simp only[q,G,L])
 rw[jA<|lh l<|show 6<10 by decide];show gy _ _ (lE d (.sh<|.int h) (.ow rs) (.ow ls) s4 (.sh<|.int (k:Nat)) (.sh<|hJ c) s7 s8 s9)=_;have v:gK (hJ c) (.int 0)=.ok c.d:=rfl;have r:gK (hJ c) (.int 1)=.ok (.str<|gm c.tx):=rfl;generalize hJ c=tc at*;have j:dA gY (gh (dA I<|gh (dV 1)<|gh (dV 5) gk)<|gh (d2 gK (dV 6)<|dC<|.int 0) gk) (lE d (.sh<|.int h) (.ow rs) (.ow ls) s4 (.sh<|.int (k:Nat)) (.sh tc) s7 s8 s9)=.ok (ju (nm s p k,c)):=by
  iterate 4 (walk_at "d";try simp only[i,v])
  rfl
 rw[jA<|B5 j C];refine Iu ?_ J;have o:gv (.str<|Str.ofString "mark ") (tS<|nm s p k)=.ok (tS<|[109,97,114,107,32]++nm s p k):=jU (x:=[109,97,114,107,32]) (by decide) (by lia);have n:gv (tS<|[109,97,114,107,32]++nm s p k) (.str<|Str.ofString ": ")=.ok (tS<|([109,97,114,107,32]++nm s p k)++[58,32]):=jU (y:=[58,32]) (by simp;lia) (by decide);have m:gv (tS<|([109,97,114,107,32]++nm s p k)++[58,32]) (.str<|gm c.tx)=.ok (tS<|(([109,97,114,107,32]++nm s p k)++[58,32])++c.tx):=jU (by simp;lia) (by lia);have e:jc (nm s p k,c)=(([109,97,114,107,32]++nm s p k)++[58,32])++c.tx:=by unfold jc;simp
 rw[e];clear e l j;generalize(([109,97,114,107,32]++nm s p k)++[58,32])++c.tx=w3 at*;generalize([109,97,114,107,32]++nm s p k)++[58,32]=w2 at*;generalize[109,97,114,107,32]++nm s p k=w1 at*;generalize gv=ni at*;iterate 5 (walk_at "d";try simp only[i,r,o,n,m])
theorem LA{ns:kY}{h:Int}{s p:Nat}(o:s<8)(q:p<s+1)(G:∀n:gi Int,∃c:Cn,(c.Ok/\kh c<=3)/\c.sz<=30/\H [.int h,.lst<|n.map .int,.str "and"]=.ok (hJ c))(F:∀k:Nat,k<13->I [.int h,.int (k:Nat)]=.ok (tS<|nm s p k)){s4 s7 s8 s9:Sl}:
 ∀(j k:Nat) (L:qb) (m s6:Sl),k+j<=12->L.length=k->(∀r∈L,nr r)->L.map Prod.fst=(List.range k).map (nm s p)->∃(i:qb) (f d:Sl),(∀r∈i,nr r)/\i.length=k+j/\i.map Prod.fst=(List.range<|k+j).map (nm s p)/\
  qM (gV 5) (ue a Fc H I) ((List.range' k j).map λ(k:Nat)=>D.int k) (lE ns (il h) (.ow<|L.map ju) (.ow<|L.map λr=>tS<|jc r) s4 m s6 s7 s8 s9)=.nx (lE ns (il h) (.ow<|i.map ju) (.ow<|i.map λr=>tS<|jc r) s4 f d s7 s8 s9)
 |0,k,L,m,s6,_,C,z,v=>⟨L,m,s6,z,C,v,rfl⟩
 |j+1,k,L,m,s6,V,C,z,v=>by
  obtain⟨n,em⟩:=Jw D.int ns (some<|14+4*(k:Int)) (some<|18+4*(k:Int));obtain⟨c,⟨N,U⟩,M,T⟩:=G n;have O:=Qm (a:=a) (Fc:=Fc) o q (show k<12 by lia) N M em T (F k (by lia)) (rs:=L.map ju) (ls:=L.map λr=>tS (jc r)) (by rw[ae];lia) (by rw[ae];lia) (s4:=s4) (s6:=s6) (s7:=s7) (s8:=s8) (s9:=s9);obtain⟨i,f,d,R,Y,P,J⟩:=LA (ns:=ns) o q G F (s4:=s4) (s7:=s7) (s8:=s8) (s9:=s9) j (k+1) (L++[(nm s p k,c)]) (il (k:Nat)) (.sh (hJ c)) (by lia) (by rw[aa,C];rfl) (λr l=>by
   rcases a9.mp l with l|l;· exact z r l
   · rw[aS.mp l];exact⟨Mt s o p q k (by lia),N,M,U⟩) (by rw[aH,v,List.range_succ,aH];rfl)
  refine⟨i,f,d,R,by lia,by rw[P];congr 2;lia,?_⟩;rw[List.range'_succ,aF];show turnT (ue a Fc H I<|lE ns (il h) (.ow<|L.map ju) (.ow<|L.map λr=>tS<|jc r) s4 (il (k:Nat)) s6 s7 s8 s9) _=_;rw[O];rw[aH,aH]at J;exact J
def gX(L:qb)(f:sO):gi (gi Nat):=L.map jc++(match f with
 |some f=>[lG f]
 |none=>[])
def j9(L:qb)(f:sO):D:=.tup [.lst<|L.map ju,fD<|f.map kZ]
structure mz(L:qb)(f:sO):Prop where
 r:∀r∈L,nr r
 f:∀g,f=some g->qE g
 l:L.length<=12
 n:(L.map Prod.fst).Nodup
def aaI(x y z w:Int):∃v,L2.hI [D.int y,D.int z,D.int w] (x%3)=some (.int v)/\(v=y\/v=z\/v=w):=by
 have:x%3=0\/x%3=1\/x%3=2:=by lia
 rcases this with h|h|h<;>rw[h];·exact⟨y,rfl,.inl rfl⟩
 ·exact⟨z,rfl,.inr<|.inl rfl⟩
 ·exact⟨w,rfl,.inr<|.inr rfl⟩
def Tb(c:Int)(f:dV 8 ρ=.ok (.int c)):d2 gv (dC<|.int 1) (d2 hR (d2 iE (dV 8)<|dC<|.int 2)<|d2 rZ (dC<|.int 10)<|dC<|.int 6) ρ=.ok (.int<|1+c/2%1000000):=by have d:rZ (.int 10) (.int 6)=.ok (.int 1000000):=rfl;generalize rZ=PW at*;iterate 4 (walk_at "d";try simp only[f,d])
def S9(c n:Int)(l:1<=n)(k:dV 8 ρ=.ok (.int c))(j:dV 9 ρ=.ok (.int n)):∃v,0<=v/\v<=99*n/\dA gY (gh (dV 9)<|gh (d2 gv (dV 9)<|d2 gK (je<|λρ=>((gh (dC<|.int 0)<|gh (d2 iU (dC<|.int 99)<|dV 9)<|gh (d2 hR (d2 iE (dV 8)<|dC<|.int 3)<|d2 gv (d2 iU (dC<|.int 99)<|dV 9)<|dC<|.int 1) gk) ρ).bind js)<|d2 hR (d2 iE (dV 8)<|dC<|.int 4)<|dC<|.int 3) gk) ρ=.ok (.tup [.int n,.int<|n+v]):=by
 have i:iU (.int 99) (.int n)=.ok (.int<|99*n):=Az (by decide) (by decide);have d:(0:Int)<99*n+1:=by lia
 obtain⟨v,e,h⟩:=aaI (c/4) 0 (99*n) (c/3%(99*n+1));have b1:=c9 (c/3) (show 99*n+1≠0 by lia);have m:=cM (c/3) d;refine⟨v,by lia,by lia,?_⟩;have f:hR (.int<|c/3) (.int<|99*n+1)=.ok (.int<|c/3%(99*n+1)):=r6 d;generalize iU=wb at*;iterate 6 (walk_at "d";try simp only[k,j,i,f,e])
def LN(L):(gX L none).map tS=L.map λr=>tS (jc r):=by unfold gX;rw[aP,bu];rfl
def LO(L f):(gX L<|some f).map tS=(L.map λr=>tS<|jc r)++[tS<|lG f]:=by unfold gX;rw[aH,bu];rfl
def S8(hf:qE f)(n:dV 7 ρ=.ok (.tup [.int (f.1:Nat),.int (f.2:Nat)])):d2 gv (d2 gv (d2 gv (dC<|.str "fill ")<|dA lQ<|gh (d2 gK (dV 7)<|dC<|.int 0) gk)<|dC<|.str " ") (dA lQ<|gh (d2 gK (dV 7)<|dC<|.int 1) gk) ρ=.ok (tS<|lG f):=by
 have q:=hf.q;have s:=hf.s;have p:(num f.1).length<=20:=nZ (k:=19) (by walk_at "l");have o:(num f.2).length<=20:=nZ (k:=19) (by lia);have j:lQ [.int (f.1:Nat)]=.ok (tS<|num f.1):=by rw[x5<|ak (show(f.1:Int).natAbs<10^10 by walk_at "l")<|by decide,rS<|by simp];rfl
 have i:lQ [.int (f.2:Nat)]=.ok (tS<|num f.2):=by rw[x5<|ak (show(f.2:Int).natAbs<10^10 by lia)<|by decide,rS<|by simp];rfl
 have m:L2.hI [D.int (f.1:Nat),D.int (f.2:Nat)] 0=some (.int (f.1:Nat)):=rfl;have l:L2.hI [D.int (f.1:Nat),D.int (f.2:Nat)] 1=some (.int (f.2:Nat)):=rfl;have h:gv (.str<|Str.ofString "fill ") (tS<|num f.1)=.ok (tS<|[102,105,108,108,32]++num f.1):=jU (x:=[102,105,108,108,32]) (by decide) (by walk_at "l");have d:gv (tS<|[102,105,108,108,32]++num f.1) (.str<|Str.ofString " ")=.ok (tS<|([102,105,108,108,32]++num f.1)++[32]):=jU (y:=[32]) (by simp;walk_at "l") (by decide);have c:gv (tS<|([102,105,108,108,32]++num f.1)++[32]) (tS<|num f.2)=.ok (tS<|(([102,105,108,108,32]++num f.1)++[32])++num f.2):=jU (by simp;walk_at "l") (by walk_at "l");have e:lG f=(([102,105,108,108,32]++num f.1)++[32])++num f.2:=by unfold lG;simp
 rw[e];clear e;generalize(([102,105,108,108,32]++num f.1)++[32])++num f.2=w3 at*;generalize([102,105,108,108,32]++num f.1)++[32]=w2 at*;generalize[102,105,108,108,32]++num f.1=w1 at*;generalize gv=ni at*;generalize lQ=STR at*;iterate 6 (walk_at "d";try simp only[n,m,l,j,i,h,d,c])
abbrev Cg:g0:=iA (b1 tB<|d2 gW (d2 hR (dV 8)<|gq 2)<|gq 1) (gy (gS 9<|d2 gv (gq 1)<|d2 hR (d2 iE (dV 8)<|gq 2)<|d2 rZ (gq 10)<|gq 6)<|gy (gS 7<|dA gY<|gh (dV 9)<|gh (d2 gv (dV 9)<|d2 gK (je<|λρ=>((gh (gq 0)<|gh (d2 iU (gq 99)<|dV 9)<|gh (d2 hR (d2 iE (dV 8)<|gq 3)<|d2 gv (d2 iU (gq 99)<|dV 9)<|gq 1) gk) ρ).bind js)<|d2 hR (d2 iE (dV 8)<|gq 4)<|gq 3) gk)<|n7 3<|d2 gv (d2 gv (d2 gv (gs "fill ")<|dA lQ<|gh (i6 7 0) gk)<|gs " ")<|dA lQ<|gh (i6 7 1) gk) iC
def W2(o:∀(ns:kY) (k:Nat),Fc [.lst<|ns.map .int,.int (k:Nat)]=.ok (.int<|ns.getD k 0))(G:∀(h:Int) (d:kY),∃c:Cn,(c.Ok/\kh c<=3)/\c.sz<=30/\H [.int h,.lst<|d.map .int,.str "and"]=.ok (hJ c))(F:∀h:Int,∃s p:Nat,s<8/\p<s+1/\∀k:Nat,k<13->I [.int h,.int (k:Nat)]=.ok (tS<|nm s p k))(ns:kY)(h63:ns.length<=63):
    ∃L f,mz L f/\gB (zq a Fc H I<|gJ 10 [.lst<|ns.map .int])=.ok (.tup [j9 L f,.lst<|(gX L f).map tS]):=by
 obtain⟨s,p,hs,hp,F⟩:=F (ns.getD 0 0);have G:=G (ns.getD 0 0);have R:=o ns 0;have P:=o ns 1;generalize ns.getD 0 0=hd at*;generalize ns.getD 1 0=ce at*;obtain⟨d,em⟩:=Jw D.int ns (some 2) (some 14);have ml:d.length<=12:=by
  have:(cutD (ns.map D.int) (some 2)<|some 14).length<=12:=by unfold cutD;rw[show(some (2:Int))=some ((2:Nat):Int)from rfl,show(some (14:Int))=some ((14:Nat):Int)from rfl,HT.AF,HT.AF,cX];omega
  rw[em,ae]at this;exact this
 obtain⟨L,l,j,L1,N,Z,L4⟩:=LA (a:=a) (Fc:=Fc) (ns:=ns) hs hp G F (s4:=.sh (.lst (d.map .int))) (s7:=.no) (s8:=.no) (s9:=.no) d.length 0 [] .no .no (by simp_all) rfl nofun rfl;rw[Nat.zero_add]at N Z;have O:(L.map Prod.fst).Nodup:=by rw[Z];exact List.Pairwise.map (nm s p) (λx y z h=>z<|Yf h) List.nodup_range
 have p1:zq a Fc H I (gJ 10 [.lst<|ns.map .int])=gy (gS 7<|dC .non)
  (gy (gS 8 (dA Fc (gh (dV 0) (gh (dC (.int 1)) gk))))
  (gy Cg
  (λρ=>(g9 (dA gY (gh (dA gY (gh (dV 2) (gh (dV 7) gk))) (gh (dV 3) gk)))) (rL 3 ρ)))) (ou ns L d (.sh (.int hd)) l j .no .no .no):=by
  unfold zq;show gy _ _ (lE ns .no .no .no .no .no .no .no .no .no)=_;have e1:dA Fc (gh (dV 0)<|gh (dC<|.int 0) gk) (lE ns .no .no .no .no .no .no .no .no .no)=.ok (.int hd):=by
   iterate 2 (walk_at "d";try simp only[R])
   exact R
  rw[jA<|lh e1<|show 1<10 by decide];show gy _ _ (lE ns (.sh<|.int hd) .no .no .no .no .no .no .no .no)=_;have e2:pP 2 (λρ=>(gk ρ).bind js) (lE ns (.sh<|.int hd) .no .no .no .no .no .no .no .no)=.nx (lE ns (.sh<|.int hd) (.ow []) .no .no .no .no .no .no .no):=rfl;have e3:pP 3 (λρ=>(gk ρ).bind js) (lE ns (.sh<|.int hd) (.ow []) .no .no .no .no .no .no .no)=.nx (lE ns (.sh<|.int hd) (.ow []) (.ow []) .no .no .no .no .no .no):=rfl;rw[jA e2,jA e3];have e4:ot nH (dV 0) (λρ=>((dC<|.int 2) ρ).bind pI) (λρ=>((dC<|.int 14) ρ).bind pI) (lE ns (.sh<|.int hd) (.ow []) (.ow []) .no .no .no .no .no .no)=.ok (.lst<|d.map .int):=by iterate 2 (walk_at "d";try simp only[em])
  rw[jA<|lh e4<|show 4<10 by decide];show gy _ _ (lE ns (.sh<|.int hd) (.ow []) (.ow []) (.sh<|.lst<|d.map .int) .no .no .no .no .no)=_;have M:vx (λρ=>((gh (dA ih<|gh (dV 4) gk) gk) ρ).bind mL) (gV 5) (ue a Fc H I) (lE ns (.sh<|.int hd) (.ow []) (.ow []) (.sh<|.lst<|d.map .int) .no .no .no .no .no)=.nx (lE ns (.sh<|.int hd) (.ow<|L.map ju) (.ow<|L.map λr=>tS<|jc r) (.sh<|.lst<|d.map .int) l j .no .no .no):=by rw[FF];have:=NQ (i:=4) (ρ:=(lE ns (.sh<|.int hd) (.ow []) (.ow []) (.sh<|.lst<|d.map .int) .no .no .no .no .no)) rfl (ae (f:=D.int) (as:=d)) (by walk_at "l");rw[this];exact L4
  rw[jA M];rfl
 rw[p1];have e6:dA Fc (gh (dV 0)<|gh (dC<|.int 1) gk) (ou ns L d (.sh<|.int hd) l j (.sh .non) .no .no)=.ok (.int ce):=by
  iterate 2 (walk_at "d";try simp only[P])
  exact P
 have M:gS 7 (dC .non) (ou ns L d (.sh<|.int hd) l j .no .no .no)=.nx (ou ns L d (.sh<|.int hd) l j (.sh .non) .no .no):=rfl;rw[jA M,jA<|lh e6<|show 8<10 by decide];have Y:∀(x y:Sl),b1 tB (d2 gW (d2 hR (dV 8)<|dC<|.int 2)<|dC<|.int 1) (ou ns L d (.sh<|.int hd) l j x (.sh<|.int ce) y)=.ok (decide<|ce%2=1):=λx y=>by iterate 3 (walk_at "d")
 by_cases w:ce%2=1
 ·obtain⟨n,C⟩:=aO (show 0<=1+ce/2%1000000 by grind);have U:=Tb ce (ρ:=(ou ns L d (.sh<|.int hd) l j (.sh .non) (.sh<|.int ce) .no)) rfl;rw[C]at U;obtain⟨v,v1,v2,T⟩:=S9 ce (n:Nat) (by lia) (ρ:=(ou ns L d (.sh (.int hd)) l j (.sh .non) (.sh (.int ce)) (.sh (.int (n:Nat))))) rfl rfl;obtain⟨m,hm⟩:=aO (show 0<=(n:Int)+v by lia);have V:qE (n,m):=⟨by show 1<=n;lia,by show n<=1000000;lia,by show n<=m;lia,by show m<=100*n;lia⟩;rw[hm]at T;refine⟨L,some (n,m),⟨L1,λg hg=>by cases hg;exact V,by simp_all,O⟩,?_⟩;have g3:=S8 V (ρ:=(ou ns L d (.sh<|.int hd) l j (.sh<|.tup [.int (n:Nat),.int (m:Nat)]) (.sh<|.int ce)<|.sh<|.int (n:Nat))) rfl;have g4:=Iu g3 (by rw[ae];lia);rw[LO];show gB (gy _ _<|ou ns L d (.sh<|.int hd) l j (.sh .non) (.sh<|.int ce) .no)=_;have J:∀q:g0,gy Cg q (ou ns L d (.sh<|.int hd) l j (.sh .non) (.sh<|.int ce) .no)=q (lE ns (.sh<|.int hd) (.sh<|.lst<|L.map ju) (.ow<|(L.map λr=>tS<|jc r)++[tS<|lG (n,m)]) (.sh<|.lst<|d.map .int) l j (.sh<|.tup [.int (n:Nat),.int (m:Nat)]) (.sh<|.int ce)<|.sh<|.int (n:Nat)):=λq=>by
   refine jA ?_;rw[Cg,pO,Y,aB w,lN,af rfl,jA<|lh U<|show 9<10 by decide];refine(jA<|lh T<|show 7<10 by decide).trans ?_;exact g4
  rw[J];rfl
 ·refine⟨L,none,⟨L1,nofun,by simp_all,O⟩,?_⟩;rw[LN];show gB (gy _ _<|ou ns L d (.sh<|.int hd) l j (.sh .non) (.sh<|.int ce) .no)=_;have J:∀A q:g0,gy (iA (b1 tB<|d2 gW (d2 hR (dV 8)<|dC<|.int 2)<|dC<|.int 1) A iC) q (ou ns L d (.sh<|.int hd) l j (.sh .non) (.sh<|.int ce) .no)=q (ou ns L d (.sh<|.int hd) l j (.sh .non) (.sh<|.int ce) .no):=λA q=>by
   refine jA ?_;rw[pO,Y,az w,lN];rfl
  exact(aI gB<|J _ _).trans rfl
variable{a:Ad}
noncomputable def jY:Nat->D->gL
 |0,_=>false
 |n+1,.tup c=>c.length.ble 1000&&c.all (jY n)
 |n+1,.lst c=>c.length.ble 1000&&c.all (jY n)
 |_+1,.str _=>true
 |_+1,.int _=>true
 |_+1,.non=>true
 |_+1,_=>false
def Qs(n):oS ((List.range n).map λ_=>D.bl true)=some ((List.range n).map λ_=>true):=by
 have:∀l:gi Nat,oS (l.map λ_=>D.bl true)=some (l.map λ_=>true):=λl=>by
  induction l with
  |nil=>rfl
  |cons x r c=>show(oS<|r.map λ_=>D.bl true).map (true:: ·)=_;rw[c];rfl
 exact this _
def Ms(b):ky (.bl b) (.bl b)=.ok (.bl false):=by cases b<;>rfl
def Yd(n:Int):ky (.int n) (.int n)=.ok (.bl false):=by rw[Nv,aB rfl];rfl
def Iq{F:gw}{d}{xs:ja}{y}(N:xs.length<=1000)(L:oX [d,.tup [.ty "list",.ty "tuple"]]=.ok (.bl true))(J:jQ a.iV [d,.ty "list"]=.ok (.bl x))(G:jQ a.iV [d,.ty "tuple"]=.ok (.bl y))(l:ih [d]=.ok (.int xs.length))(h:∀i (f:i<xs.length),gK d (.int (i:Nat))=.ok xs[i])(C:∀z∈xs,F [z,z]=.ok (.bl true)):
    gB (qO a F [.sh d,.sh d])=.ok (.bl true):=by
 have v:kR (gV 0) (λ_=>.ok true) (dA F<|gh (d2 gK (dV 2)<|dV 0)<|gh (d2 gK (dV 1)<|dV 0) gk) [.no,.sh d,.sh d] ((List.range xs.length).map λ(k:Nat)=>D.int k)=some ((List.range xs.length).map λ_=>D.bl true):=by
  have:=rJ (a:=gV 0) (c:=λ_=>.ok true) (e:=dA F (gh (d2 gK (dV 2) (dV 0)) (gh (d2 gK (dV 1) (dV 0)) gk))) (mR:=[.no,.sh d,.sh d]) (λz=>[.sh z,.sh d,.sh d]) (λ_=>.bl true) ((List.range xs.length).map λ(k:Nat)=>D.int k) λz r=>by obtain⟨i,f,rfl⟩:=bJ.mp r;have f:=d8.mp f;refine⟨rfl,rfl,?_⟩;rw[mK,jZ,oF,vq,gM,oG,gM,h i f,gM,jZ,oF,o6,gM,oG,gM,h i f,gM,kF,gM,gM,gM];exact C _ (ey f)
  rw[this,bu];rfl
 have m:=FR (j:=xs.length) (by walk_at "l");have M:je (kS (λρ=>((gh (dA ih<|gh (dV 1) gk) gk) ρ).bind mL) 1 [1,0] (gV 0) (λ_=>.ok true)<|dA F<|gh (d2 gK (dV 2)<|dV 0)<|gh (d2 gK (dV 1)<|dV 0) gk) [.sh d,.sh d]=.ok (.lst<|(List.range xs.length).map λ_=>D.bl true):=by
  have n:((gh (dA ih<|gh (dV 1) gk) gk) [.sh d,.sh d]).bind mL=.ok ((List.range xs.length).map λ(k:Nat)=>D.int k):=by rw[jZ,mK,jZ,o6,gM,kF,gM,gM,l,gM,gM,gM,m]
  rw[Fz,Aw,n,gM,af<|size_of<|by rw[ae,fv];omega];show R.bind (xA<|kR _ _ _ [.no,.sh d,.sh d] _) _=_;rw[v];rfl
 have bl:=Qs xs.length;have al:(((List.range xs.length).map λ_=>true).all id)=true:=by simp
 have q:=Ms x;have p:=Ms y;have o:=Yd xs.length;unfold qO;generalize je (kS (λρ=>((gh (dA ih<|gh (dV 1) gk) gk) ρ).bind mL) 1 [1,0] (gV 0) (λ_=>.ok true)<|dA F<|gh (d2 gK (dV 2)<|dV 0)<|gh (d2 gK (dV 1)<|dV 0) gk)=Q at*;generalize jQ a.iV=IS at*;generalize oX=IT at*;generalize ky=NE at*;generalize ih=LE at*;iterate 8 (walk_at "d";try simp only[L,J,G,l,q,p,o,M,bl,al])
def yP{c:Type}{xs:gi c}{k}(h:k<xs.length):L2.hI xs (k:Int)=some xs[k]:=by unfold L2.hI qR;simp_all
theorem BZ:∀n d,jY n d=true->qi (λF p=>gB<|qO a F<|gJ 2 p) n [d,d]=.ok (.bl true)
 |0,_,h=>by cases h
 |n+1,d,h=>by
  show gB (qO a (qi (λF p=>gB<|qO a F<|gJ 2 p) n) [.sh d,.sh d])=_;cases d with
  |tup xs=>simp only[jY,aq,aZ]at h;exact Iq (xs:=xs) (bP h.1) rfl rfl rfl rfl (λi o=>by rw[Nu,yP o]) λz m=>BZ n z (h.2 z m)
  |lst xs=>simp only[jY,aq,aZ]at h;exact Iq (xs:=xs) (bP h.1) rfl rfl rfl rfl (λi o=>by rw[xO,yP o]) λz m=>BZ n z (h.2 z m)
  |str s=>
   have f:oX [.str s,.tup [.ty "list",.ty "tuple"]]=.ok (.bl false):=rfl;have l:jQ a.iV [.str s,.ty "str"]=.ok (.bl true):=rfl;have c:oW (.str s) .non=.ok (.bl false):=rfl;have k:gW (.str s) (.str s)=.ok (.bl true):=by rw[xK,aB rfl]
   unfold qO;generalize jQ a.iV=IS at*;generalize oX=IT at*;generalize oW=HH at*;generalize gW=EQ at*;iterate 6 (walk_at "d";try simp only[f,l,c,k])
  |int j=>
   have f:oX [.int j,.tup [.ty "list",.ty "tuple"]]=.ok (.bl false):=rfl;have l:jQ a.iV [.int j,.ty "str"]=.ok (.bl false):=rfl;have c:oW (.int j) .non=.ok (.bl false):=rfl;have k:jQ a.iV [.int j,.ty "int"]=.ok (.bl true):=rfl;have r:jQ a.iV [.int j,.ty "bool"]=.ok (.bl false):=rfl;have q:gW (.int j) (.int j)=.ok (.bl true):=by rw[FC,aB rfl]
   unfold qO;generalize jQ a.iV=IS at*;generalize oX=IT at*;generalize oW=HH at*;generalize gW=EQ at*;iterate 6 (walk_at "d";try simp only[f,l,c,k,r,q])
  |non=>have f:oX [.non,.tup [.ty "list",.ty "tuple"]]=.ok (.bl false):=rfl;have c:oW .non .non=.ok (.bl true):=rfl;unfold qO;generalize jQ a.iV=IS at*;generalize oX=IT at*;generalize oW=HH at*;iterate 6 (walk_at "d";try simp only[f,c])
  |_=>cases h
def M0:∀(t:Tm) n,t.sz+2<=n->jY n t.d=true:=by
 intro t;induction t with
 |bin s x y d c=>intro n h;have j:x.sz+y.sz+1+2<=n:=h;obtain⟨m,rfl⟩:=bc (show 1<=n by lia);obtain⟨k,rfl⟩:=bc (show 1<=m by lia);show(true&&(jY (k+1) (.str<|sg s)&&(jY (k+1) x.d&&(jY (k+1) y.d&&true))))=true;rw[d (k+1)<|by lia,c (k+1)<|by lia];rfl
 |times p q x f=>intro n h;have j:x.sz+1+2<=n:=h;obtain⟨m,rfl⟩:=bc (show 3<=n by lia);show(true&&(jY (m+2) (.str "times")&&(jY (m+2) (WC.pr p q)&&(jY (m+2) x.d&&true))))=true;rw[f (m+2)<|by walk_at "l"];rfl
 |abs x f=>intro n h;have j:x.sz+1+2<=n:=h;obtain⟨m,rfl⟩:=bc (show 3<=n by lia);show(true&&(jY (m+2) (.str "abs")&&(jY (m+2) x.d&&true)))=true;rw[f (m+2)<|by walk_at "l"];rfl
 |num p q=>intro n h;obtain⟨m,rfl⟩:=bc (show 3<=n from h);rfl
 |here=>intro n h;obtain⟨m,rfl⟩:=bc (show 3<=n from h);rfl
 |kM w i=>intro n h;obtain⟨m,rfl⟩:=bc (show 3<=n from h);rfl
 |«at» m=>intro n h;obtain⟨m,rfl⟩:=bc (show 3<=n from h);rfl
def aaN:∀(c:Cn) n,c.sz+2<=n->jY n c.d=true:=by
 intro c;induction c with
 |cmp s x y=>intro n h;have i:x.sz+y.sz+1+2<=n:=h;obtain⟨m,rfl⟩:=bc (show 2<=n by lia);show(true&&(jY (m+1) (.str<|cg s)&&(jY (m+1) x.d&&(jY (m+1) y.d&&true))))=true;rw[M0 x (m+1)<|by lia,M0 y (m+1)<|by lia];rfl
 |not c j=>intro n h;have i:c.sz+1+2<=n:=h;obtain⟨m,rfl⟩:=bc (show 2<=n by lia);show(true&&(jY (m+1) (.str "not")&&(jY (m+1) c.d&&true)))=true;rw[j (m+1)<|by walk_at "l"];rfl
 |two s c e f d=>intro n h;have i:c.sz+e.sz+1+2<=n:=h;obtain⟨m,rfl⟩:=bc (show 2<=n by lia);show(true&&(jY (m+1) (.str<|cw s)&&(jY (m+1) c.d&&(jY (m+1) e.d&&true))))=true;rw[f (m+1)<|by lia,d (m+1)<|by lia];rfl
def aaM(h:mz L f):jY 60 (j9 L f)=true:=by
 have k:jY 59 (.lst<|L.map ju)=true:=by show((L.map ju).length.ble 1000&&(L.map ju).all (jY 58))=true;rw[aq];refine⟨cN (by rw[ae];have:=h.l;walk_at "l"),aZ.mpr λd i=>?_⟩;obtain⟨r,c,rfl⟩:=bJ.mp i;show(true&&(jY 57 (tS r.1)&&(jY 57 r.2.d&&true)))=true;rw[aaN r.2 57 (by have:=(h.r r c).sz;lia)];rfl
 have j:jY 59 (fD<|f.map kZ)=true:=by
  cases f with
  |_=>rfl
 show(true&&(jY 59 (.lst<|L.map ju)&&(jY 59 (fD<|f.map kZ)&&true)))=true;simp_all
def Xr{c:gw}{n}(i:l0 a.iV a.NoText a.NoText=true)(m:k4 (.str "\n") [.lst ds]=.ok (tS x))(h:c [tS x]=.ex a.NoText ["row"] [.int (n:Nat)]∨c [tS x]=.ex a.NoText ["row","row"] [.int (n:Nat),.int (n:Nat)]):
    gB (DH a c<|gJ 4 [.lst ds,.int (n:Nat)])=.ok (.bl true):=by
 unfold DH;show gB (gy _ _ [.sh<|.lst ds,.sh<|.int (n:Nat),.no,.no])=_;have r:gS 2 (dC<|.int 0) [.sh<|.lst ds,.sh<|.int (n:Nat),.no,.no]=.nx [.sh<|.lst ds,.sh<|.int (n:Nat),.sh<|.int 0,.no]:=rfl;rw[jA r];have p:(wI c<|gh (jW "str" k4 (dC<|.str "\n")<|gh (dV 0) gk) gk) [.sh<|.lst ds,.sh<|.int (n:Nat),.sh<|.int 0,.no]=c [tS x]:=by
  have q:(gh (jW "str" k4 (dC<|.str "\n")<|gh (dV 0) gk) gk) [.sh<|.lst ds,.sh<|.int (n:Nat),.sh<|.int 0,.no]=.ok [tS x]:=by rw[jZ,r4,lM,gM,jZ,oG,gM,kF,gM,gM,m,af<|show oV "str" (.str "\n")=true by rfl,gM,gM]
  show(match(gh (jW "str" k4 (dC (.str "\n")) (gh (dV 0) gk)) gk) [.sh (.lst ds),.sh (.int (n:Nat)),.sh (.int 0),.no]with
   |.ok xs=>c xs
   |_=>.bad)=_
  rw[q]
 have o:xW 3 (l0 a.iV a.NoText) (λρ=>((wI c<|gh (jW "str" k4 (dC<|.str "\n")<|gh (dV 0) gk) gk) ρ).bind λ_=>.ok ρ) (gS 2<|d1 (so a.NoText "row")<|dV 3) [.sh<|.lst ds,.sh<|.int (n:Nat),.sh<|.int 0,.no]=.nx [.sh<|.lst ds,.sh<|.int (n:Nat),.sh<|.int (n:Nat),.no]:=by
  unfold xW;dsimp only;rw[p];rcases h with h|h
  ·rw[h,vn];dsimp only;rw[af ⟨i,show 3<4 by decide⟩];have f:so a.NoText "row" (.exc a.NoText ["row"] [.int (n:Nat)])=.ok (.int (n:Nat)):=by
    show(if a.NoText=a.NoText then _ else _)=_;rw[af rfl];rfl
   show Cy 3 (gS 2 (d1 (so a.NoText "row")<|dV 3) [.sh<|.lst ds,.sh<|.int (n:Nat),.sh<|.int 0,.sh<|.exc a.NoText ["row"] [.int (n:Nat)]])=_;rw[lh (d:=.int (n:Nat)) (by rw[vo,tH,gM,f])<|show 2<4 by decide];rfl
  ·rw[h,vn];dsimp only;rw[af ⟨i,show 3<4 by decide⟩];have f:so a.NoText "row" (.exc a.NoText ["row","row"] [.int (n:Nat),.int (n:Nat)])=.ok (.int (n:Nat)):=by
    show(if a.NoText=a.NoText then _ else _)=_;rw[af rfl];rfl
   show Cy 3 (gS 2 (d1 (so a.NoText "row")<|dV 3) [.sh<|.lst ds,.sh<|.int (n:Nat),.sh<|.int 0,.sh<|.exc a.NoText ["row","row"] [.int (n:Nat),.int (n:Nat)]])=_;rw[lh (d:=.int (n:Nat)) (by rw[vo,tH,gM,f])<|show 2<4 by decide];rfl
 rw[jA o];have l:jQ a.iV [.int (n:Nat),.ty "int"]=.ok (.bl true):=rfl;have k:jQ a.iV [.int (n:Nat),.ty "bool"]=.ok (.bl false):=rfl;have j:gW (.int (n:Nat)) (.int (n:Nat))=.ok (.bl true):=by rw[FC,aB rfl]
 generalize oX=IT at*;generalize gW=EQ at*;iterate 6 (walk_at "d";try simp only[l,k,j])
variable{a:Ad}
def X2:gi gp:=["mark","mark a","mark a:","mark a here < 1","mark a: here","mark : here < 1","mark a b: here < 1"]
def X3:gi gp:=["mark on: here < 1","mark A: here < 1","mark a1: here < 1","mark abcdefghi: here < 1"]
def X4:gi gp:=["mark z: here < 1 1","marka: here < 1","Mark z: here < 1","z: here < 1","fill","fill 10"]
def X5:gi gp:=["fill 10 9","fill 10 1001","fill 0 0","fill 1000001 1000001","fill 10 20 30","fill 01 10"]
def X6:gi gp:=["fill 10 010","fill 1/2 1","fill -1 1","fill a 10","fill: 10 20","fill10 20","?","\t"]
def X7:gi gp:=["mark z: here > 1","mark z: back 0 < 1","mark z; here < 1","fills 10 20","fill 10, 20"]
def X8:gi gp:=["here < 1"]
def X9:gi gp:=["mark z:: here < 1","mark z: [here < 1","mark z: here < 1\t"]
def pM:gi gp:=(((((((X2++X3)++X4)++X5)++X6)++X7)++X8)++X9)
def aaJ(c:Int):∃s∈pM,L2.hI (pM.map D.str) (c%40)=some (.str s):=by
 obtain⟨j,f⟩:=aO (show 0<=c%40 by lia);have h:pM.length=40:=by decide
 have d:j<pM.length:=by lia
 refine⟨pM[j],ey d,?_⟩;rw[f,yP<|by rw[ae];exact d,List.getElem_map]
def Ma(c:Int):∃s∈pM,gB (gl_none a (gJ 2 [.int c]))=.ok (.str s):=by obtain⟨s,d,e⟩:=aaJ c;refine⟨s,d,?_⟩;rw[show gl_none a (gJ 2 [.int c])=g9 (d2 gK (dV 1)<|d2 hR (dV 0)<|gq 40) [il c,iD<|pM.map D.str]by kernel_rfl];iterate 4 (walk_at "d";try simp only[e])
def ET(T:kC):gL:=match lg [] T with
 |.no=>true
 |_=>false
def Mu(d:hZ):gL:=Nat.ble d.length 900&&(d.all λc=>Nat.ble c 127&&!Nat.beq c 10)&&!blk d&&ET (gI d)
def Yo:(pM.all λs=>Mu<|gj s)=true:=by decide+kernel
def aaW{G k}(ns)(h:n0 G [] T k b=.no):n0 G ns T k b=.no:=by
 unfold n0 xp tk at h⊢;match T,h with
 |x::t::y::d,h=>
  dsimp only at h⊢;cases j:gD x [109,97,114,107]with
  |false=>rfl
  |true=>
   rw[j,bB]at h;cases i:TR.ki t with
   |false=>rfl
   |true=>
    rw[i,bB]at h;cases f:gD y [58]with
    |false=>rfl
    |true=>
     rw[f,bB]at h;unfold jV at h⊢;cases c:G d k b with
     |no=>rfl
     |bad=>rw[c]at h;cases h
     |ok d2 l k3 m=>rw[c]at h;cases h
 |[x,t],h=>exact h
 |[x],h=>exact h
 |[],h=>exact h
def Yk(h:ET T=true)(ns):lg ns T=.no:=by
 unfold ET lg at h;unfold lg;cases e:gD (nx T) [102,105,108,108]with
 |true=>lia
 |false=>
  rw[bo];have:n0 qt [] T 0 0=.no:=by lia
  rw[aaW ns this]
structure rC(x:hZ):Prop where
 l:x.length<=900
 s:∀c∈x,c<=127
 n:10∉x
 b:blk x=false
def Mw(h:s∈pM):rC (gj s)/\∀f,lg f (gI<|gj s)=.no:=by have:=aZ.mp Yo s h;unfold Mu at this;simp only[aq,bW,bZ,aZ]at this;obtain⟨⟨⟨l,d⟩,k⟩,j⟩:=this;refine⟨⟨l,λc i=>(d c i).1,λz=>?_,k⟩,Yk j⟩;have:=(d 10 z).2;cases this
variable{a:Ad}
def Xz{c:gw}(h:nr r)(l:c [r.2.d]=.ok (.str<|gm r.2.tx)):gB (Dn a c<|gJ 3 [ju r])=.ok (tS<|jc r):=by
 have q:=(vV h.w).2.2;have p:=Cn.oB h.ok;have o:=h.sz;unfold Dn;show gB (gy _ _ [.sh<|ju r,.no,.no])=_;have n:d2 gK (dV 0) (dC<|.int 0) [.sh<|ju r,.no,.no]=.ok (tS r.1):=rfl;rw[jA<|lh n<|show 1<3 by decide];show gB (gy _ _ [.sh<|ju r,.sh<|tS r.1,.no])=_;have m:dA c (gh (d2 gK (dV 0)<|dC<|.int 1) gk) [.sh<|ju r,.sh<|tS r.1,.no]=.ok (.str<|gm r.2.tx):=by have k:d2 gK (dV 0) (dC<|.int 1) [.sh<|ju r,.sh<|tS r.1,.no]=.ok r.2.d:=rfl;rw[mK,jZ,k,gM,kF,gM,gM,l]
 rw[jA<|lh m<|show 2<3 by decide];show gB (toS ((g8 (dC<|.str "mark ")<|g8 (d1 iI<|dV 1)<|g8 (dC<|.str ": ")<|g8 (d1 iI<|dV 2) kn) (gm []) [.sh<|ju r,.sh<|tS r.1,.sh<|tS r.2.tx]) RT.rt)=_;have j:(dC<|.str<|Str.ofString "mark ") [.sh<|ju r,.sh<|tS r.1,.sh<|tS r.2.tx]=.ok (.str<|gm [109,97,114,107,32]):=rfl;have i:(dC<|.str<|Str.ofString ": ") [.sh<|ju r,.sh<|tS r.1,.sh<|tS r.2.tx]=.ok (.str<|gm [58,32]):=rfl;have f:(d1 iI<|dV 1) [.sh<|ju r,.sh<|tS r.1,.sh<|tS r.2.tx]=.ok (.str<|gm r.1):=qj (by walk_at "l");have d:(d1 iI<|dV 2) [.sh<|ju r,.sh<|tS r.1,.sh<|tS r.2.tx]=.ok (.str<|gm r.2.tx):=qj (by lia);rw[jC j<|by decide,jC f<|by simp;lia,jC i<|by simp;walk_at "l",jC d<|by simp;lia,jN<|by simp;lia];show R.ok (D.str _)=R.ok (D.str<|gm<|jc r);unfold jc;simp
def Xy(h:qE f):gB (Dm a<|gJ 3 [.tup<|kZ f])=.ok (tS<|lG f):=by
 have q:=h.q;have s:=h.s;have o:(num f.1).length<=20:=nZ (k:=19) (by walk_at "l");have n:(num f.2).length<=20:=nZ (k:=19) (by lia);unfold Dm;show gB (gy _ _ [.sh<|.tup<|kZ f,.no,.no])=_;have m:d2 gK (dV 0) (dC<|.int 0) [.sh<|.tup<|kZ f,.no,.no]=.ok (.int (f.1:Nat)):=rfl;rw[jA<|lh m<|show 1<3 by decide];show gB (gy _ _ [.sh<|.tup<|kZ f,.sh<|.int (f.1:Nat),.no])=_;have l:d2 gK (dV 0) (dC<|.int 1) [.sh<|.tup<|kZ f,.sh<|.int (f.1:Nat),.no]=.ok (.int (f.2:Nat)):=rfl;rw[jA<|lh l<|show 2<3 by decide];show gB (toS ((g8 (dC<|.str "fill ")<|g8 (d1 iI<|dV 1)<|g8 (dC<|.str " ")<|g8 (d1 iI<|dV 2) kn) (gm []) [.sh<|.tup<|kZ f,.sh<|.int (f.1:Nat),.sh<|.int (f.2:Nat)]) RT.rt)=_;have j:(dC<|.str<|Str.ofString "fill ") [.sh<|.tup<|kZ f,.sh<|.int (f.1:Nat),.sh<|.int (f.2:Nat)]=.ok (.str<|gm [102,105,108,108,32]):=rfl;have i:(dC<|.str<|Str.ofString " ") [.sh<|.tup<|kZ f,.sh<|.int (f.1:Nat),.sh<|.int (f.2:Nat)]=.ok (.str<|gm [32]):=rfl;have d:(d1 iI<|dV 1) [.sh<|.tup<|kZ f,.sh<|.int (f.1:Nat),.sh<|.int (f.2:Nat)]=.ok (.str<|gm<|num f.1):=by show iI (.int (f.1:Nat))=_;rw[C8<|ak (show(f.1:Int).natAbs<10^10 by walk_at "l")<|by decide,rS<|by simp];rfl
 have c:(d1 iI<|dV 2) [.sh<|.tup<|kZ f,.sh<|.int (f.1:Nat),.sh<|.int (f.2:Nat)]=.ok (.str<|gm<|num f.2):=by show iI (.int (f.2:Nat))=_;rw[C8<|ak (show(f.2:Int).natAbs<10^10 by lia)<|by decide,rS<|by simp];rfl
 rw[jC j<|by decide,jC d<|by simp;lia,jC i<|by simp;walk_at "l",jC c<|by simp;lia,jN<|by simp;lia];show R.ok (D.str _)=R.ok (D.str<|gm<|lG f);unfold lG;simp
theorem Lp{y}:∀{rows} {m},(∀r∈rows,r.length<=m)->(jn y rows).length<=rows.length*(m+y.length)
 |[],_,_=>cy _
 |[p],m,h=>by have:=h p (.head _);show p.length<=1*(m+y.length);lia
 |p::q::r,m,h=>by
  have f:=h p (.head _);have d:=Lp (rows:=q::r) (m:=m) (y:=y) λx c=>h x (.tail _ c);have e:(jn y<|p::q::r).length=p.length+(y.length+(jn y<|q::r).length):=by show(p++(y++jn y (q::r))).length=_;rw[aa,aa]
  rw[e,ag,Nat.add_mul]
  lia
theorem Ow{m:Nat}:∀(l:hZ),(∀x∈l,x<=m)->l.sum<=l.length*m
 |[],_=>cy _
 |x::l,h=>by
  have:=Ow l λy c=>h y (.tail _ c);have:=h x (.head _);rw[List.sum_cons,ag,Nat.add_mul]
  lia
def join_rows{rows:mU}(n:rows.length<=100)(l:∀r∈rows,r.length<=4000):k4 (.str "\n") [.lst<|rows.map tS]=.ok (tS<|jn [10] rows):=by
 have e:q7 (rows.map tS)=some (rows.map gm):=strs_map (λc=>c) rows;have i:(Str.ofString "\n").length=1:=by decide
 show(match q7 (rows.map tS)with
  |some f=>if JoinOk "\n" f=true then R.ok (D.str<|Txt.join "\n" f)else .bad
  |none=>.bad)=_
 rw[e];dsimp only;have h:=Ow (m:=4000) ((rows.map gm).map (·.length)) (λx k=>by obtain⟨z,j,rfl⟩:=bJ.mp k;obtain⟨r,d,rfl⟩:=bJ.mp j;exact l r d)
 rw[ae,ae]at h;have o:rows.length*4000<=400000:=by lia
 rw[af<|fN<|by rw[i,ae];lia]
 congr 2
 refine ext ?_;rw[lL];show gj (Builtin.Str.glued _ _)=_;rw[dm,WS.sR,bu];have:(gj∘gm)=(id:gi Nat->gi Nat):=funext λc=>lL c;rw[this,List.map_id];rfl
def xj(L f):(gX L f).length=L.length+(if f=none then 0 else 1):=by
 unfold gX
 grind
def qm(h:mz L f):∀x∈gX L f,x.length<=900/\iP x/\gI x≠[]:=by
 intro x c;unfold gX at c;rcases a9.mp c with c|c
 ·obtain⟨r,d,rfl⟩:=bJ.mp c;have:=h.r r d;refine⟨av (LJ this) (by decide),Fl this,by rw[yc this];unfold n8;simp⟩
 ·cases f with
  |none=>cases c
  |some g=>rw[aS.mp c];exact⟨av (LH<|h.f g rfl)<|by decide,Fj g,by rw[Gp];unfold tM;simp⟩
def EH(h:mz L f):(gX L f).map gI=sf L f:=by
 unfold gX sf;rw[aH,bu]
 congr 1
 ·exact dI λr c=>yc (h.r r c)
 ·cases f with
  |none=>rfl
  |some g=>show[gI<|lG g]=_;rw[Gp]
def Mq(h:∀x∈rows,gI x≠[]):kg rows=rows.map gI:=by unfold kg;rw[List.filter_eq_self.mpr λx c=>by rw[Af<|h x c];rfl]
def Xx{c i:gw}(h:mz L f)(k:∀r∈L,c [ju r]=.ok (tS<|jc r))(hf:∀g,f=some g->i [.tup<|kZ g]=.ok (tS<|lG g)):
    gB (Dp a c i<|gJ 2 [j9 L f])=.ok (tS<|jn [10]<|gX L f):=by
 have D:=h.l;have j:=join_rows (rows:=gX L f) (by rw[xj];split<;>walk_at "l") λr k=>av (qm h r k).1 (by decide);unfold Dp;show gB (gy _ _ [.sh<|j9 L f,.no])=_;have C:kR (gV 0) (λ_=>.ok true) (dA c<|gh (dV 0) gk) [.no] (L.map ju)=some (L.map λr=>tS<|jc r):=by
  have:∀M:gi (Tk×Cn),(∀r∈M,c [ju r]=.ok (tS<|jc r))->kR (gV 0) (λ_=>.ok true) (dA c<|gh (dV 0) gk) [.no] (M.map ju)=some (M.map λr=>tS<|jc r):=by
   intro M n;induction M with
   |nil=>rfl
   |cons r M p=>rw[aF];unfold kR;have m:gV 0 (ju r) [Sl.no]=some [.sh<|ju r]:=rfl;rw[m,dH];show(xC<|dA c (gh (dV 0) gk) [.sh<|ju r]).bind _=_;rw[mK,jZ,oG,gM,kF,gM,gM,n r<|.head _,p λx z=>n x<|.tail _ z];rfl
  exact this L k
 have m:pP 1 (kS (λρ=>((d2 gK (dV 0)<|dC<|.int 0) ρ).bind mi) 1 [] (gV 0) (λ_=>.ok true)<|dA c<|gh (dV 0) gk) [.sh<|j9 L f,.no]=.nx [.sh<|j9 L f,.ow<|L.map λr=>tS<|jc r]:=by have v:((d2 gK (dV 0)<|dC<|.int 0) [.sh<|j9 L f,.no]).bind mi=.ok (L.map ju):=rfl;rw[abS,Aw,v,gM,af<|size_of<|by rw[ae];walk_at "l"];show toS (xA<|kR _ _ _ [.no] _) _=_;rw[C];rfl
 rw[jA m];cases f with
 |none=>have l:iA (b1 tB<|d2 oA (d2 gK (dV 0)<|dC<|.int 1)<|dC .non) (n7 1<|dA i<|gh (d2 gK (dV 0)<|dC<|.int 1) gk) iC [.sh<|j9 L none,.ow<|L.map λr=>tS<|jc r]=.nx [.sh<|j9 L none,.ow<|L.map λr=>tS<|jc r]:=rfl;rw[jA l];rw[LN]at j;show gB (toS (jW "str" k4 (dC<|.str "\n") (gh (dV 1) gk) [.sh<|j9 L none,.sh<|.lst<|L.map λr=>tS<|jc r]) RT.rt)=_;rw[r4,lM,gM,jZ,o6,gM,kF,gM,gM,j,af<|show oV "str" (.str "\n")=true by rfl];rfl
 |some g=>
  have q:d2 gK (dV 0) (dC<|.int 1) [.sh<|j9 L<|some g,.ow<|L.map λr=>tS<|jc r]=.ok (.tup<|kZ g):=rfl;have l:iA (b1 tB<|d2 oA (d2 gK (dV 0)<|dC<|.int 1)<|dC .non) (n7 1<|dA i<|gh (d2 gK (dV 0)<|dC<|.int 1) gk) iC [.sh<|j9 L<|some g,.ow<|L.map λr=>tS<|jc r]=.nx [.sh<|j9 L<|some g,.ow<|(L.map λr=>tS<|jc r)++[tS<|lG g]]:=by have o:b1 tB (d2 oA (d2 gK (dV 0)<|dC<|.int 1)<|dC .non) [.sh<|j9 L<|some g,.ow<|L.map λr=>tS<|jc r]=.ok true:=rfl;rw[pO,o,lN,af rfl];show toS (dA i (gh (d2 gK (dV 0)<|dC<|.int 1) gk) [.sh<|j9 L<|some g,.ow<|L.map λr=>tS<|jc r]) (λd=>if(L.map λr=>tS<|jc r).length<sizeLine then .nx [.sh<|j9 L<|some g,.ow<|(L.map λr=>tS<|jc r)++[d]]else .bad)=_;rw[mK,jZ,q,gM,kF,gM,gM,hf g rfl,lN,af<|lt_size<|by rw[ae];walk_at "l"]
  rw[jA l];rw[LO]at j;show gB (toS (jW "str" k4 (dC<|.str "\n") (gh (dV 1) gk) [.sh<|j9 L<|some g,.sh<|.lst<|(L.map λr=>tS<|jc r)++[tS<|lG g]]) RT.rt)=_;rw[r4,lM,gM,jZ,o6,gM,kF,gM,gM,j,af<|show oV "str" (.str "\n")=true by rfl];rfl
variable{a:Ad}
def cH:Cn:=.cmp true .here (.num 1 1)
def xT(h:TR.ki t=true):nr (t,cH):=⟨h,⟨trivial,⟨by decide,⟨by decide,by decide⟩,by decide,by decide,by decide⟩⟩,(by decide:cH.sz<=30),(by decide:kh cH<=3)⟩
def WL(t):jc (t,cH)=([109,97,114,107,32]++t)++[58,32,104,101,114,101,32,60,32,49]:=by rfl
def EU(h:nr r):rC (jc r):=⟨av (LJ h)<|by decide,λc d=>by have:=(Fl h c d).2;walk_at "l",λz=>absurd (Fl h 10 z).1 (by decide),Af<|by rw[yc h];unfold n8;simp⟩
def Yi(h:qE f):rC (lG f):=⟨av (LH h)<|by decide,λc d=>by have:=(Fj f c d).2;walk_at "l",λz=>absurd (Fj f 10 z).1 (by decide),Af<|by rw[Gp];unfold tM;simp⟩
def Po:(.str "mark zz: here < 1":D)=tS (jc ([122,122],cH)):=by rfl
def Tq:(.str "fill 1 1":D)=tS (lG (1,1)):=aI D.str (ext<|by decide)
def aaH(x:Int)(y z:D):L2.hI [y,z] (x%2)=some y\/L2.hI [y,z] (x%2)=some z:=by
 have:x%2=0\/x%2=1:=by lia
 rcases this with h|h<;>rw[h];·exact .inl rfl
 ·exact .inr rfl
def xh{d:Type}(f)(c:gi d):ih [.lst<|c.map f]=.ok (.int c.length):=by rw[vp,ae]
def zM{C:kv}{B:g0}{d}(h:C ρ=.ok true)(c:B ρ=.rt d):gB (gy (iA C B iC) R' ρ)=.ok d:=by show gB (tJ (iA C B iC ρ) R')=_;rw[pO,h,lN,af rfl,c];rfl
def wZ{C:kv}(h:C ρ=.ok false):gy (iA C B iC) R' ρ=R' ρ:=by refine jA ?_;rw[pO,h,lN];rfl
def B0{x y z:kv}(d:x ρ=.ok p)(c:y ρ=.ok q)(f:z ρ=.ok r):mj x (mj y z) ρ=.ok (p&&(q&&r)):=by
 rw[FA,d,gM];cases p with
 |false=>rfl
 |true=>
  rw[af rfl,FA,c,gM];cases q with
  |false=>rfl
  |true=>walk_at "l"
def Xn{I:gw}{L:qb}{f:sO}(h:mz L f)(hn:∀c:Int,∃s∈pM,I [.int c]=.ok (.str s))(p:Nat)(hp:p<=(gX L f).length)(c:Int):
    ∃x:gi Nat,rC x/\((p<=L.length\/f=none)->lg ((L.take p).map Prod.fst) (gI x)=.no)/\gB (DD a I<|gJ 4 [.lst<|(gX L f).map tS,.int (p:Nat),.int c,j9 L f])=.ok (tS x):=by
 have j:=xj L f;have G:gK (j9 L f) (.int 0)=.ok (.lst<|L.map ju):=rfl;have U:gK (j9 L f) (.int 1)=.ok (fD<|f.map kZ):=rfl;have O:=xh ju L;have T:=xh tS (gX L f);generalize hB:j9 L f=B at*;unfold DD;show∃x,_/\_/\gB (gy _ _ [.sh<|.lst<|(gX L f).map tS,.sh<|.int (p:Nat),.sh<|.int c,.sh B])=_;have F:∀k:Int,b1 tB (d2 gW (d2 hR (dV 2)<|dC<|.int 4)<|dC<|.int k) [.sh<|.lst<|(gX L f).map tS,.sh<|.int (p:Nat),.sh<|.int c,.sh B]=.ok (decide<|c%4=k):=λk=>by iterate 3 (walk_at "d")
 have a1:b1 tB (d2 jX (dA ih<|gh (d2 gK (dV 3)<|dC<|.int 0) gk)<|dC<|.int 0) [.sh<|.lst<|(gX L f).map tS,.sh<|.int (p:Nat),.sh<|.int c,.sh B]=.ok (decide<|(L.length:Int)>0):=by generalize ih=LE at*;iterate 4 (walk_at "d";try simp only[G,O])
 have a2:b1 tB (d2 jX (dV 1)<|dC<|.int 0) [.sh<|.lst<|(gX L f).map tS,.sh<|.int (p:Nat),.sh<|.int c,.sh B]=.ok (decide<|(p:Int)>0):=by iterate 3 (walk_at "d")
 have a3:b1 tB (d2 gW (dA ih<|gh (d2 gK (dV 3)<|dC<|.int 0) gk)<|dC<|.int 12) [.sh<|.lst<|(gX L f).map tS,.sh<|.int (p:Nat),.sh<|.int c,.sh B]=.ok (decide<|(L.length:Int)=12):=by generalize ih=LE at*;iterate 4 (walk_at "d";try simp only[G,O])
 have a4:b1 tB (d2 uM (dV 1)<|dC<|.int 12) [.sh<|.lst<|(gX L f).map tS,.sh<|.int (p:Nat),.sh<|.int c,.sh B]=.ok (decide<|(p:Int)≥12):=by iterate 3 (walk_at "d")
 have a5:b1 tB (d2 oA (d2 gK (dV 3)<|dC<|.int 1)<|dC .non) [.sh<|.lst<|(gX L f).map tS,.sh<|.int (p:Nat),.sh<|.int c,.sh B]=.ok (!decide (f=none)):=by
  have M:oA (fD<|f.map kZ) .non=.ok (.bl<|!decide (f=none)):=by cases f<;>rfl
  generalize oA=IS at*;iterate 4 (walk_at "d";try simp only[U,M])
 have a6:b1 tB (d2 gW (dV 1)<|dA ih<|gh (dV 0) gk) [.sh<|.lst<|(gX L f).map tS,.sh<|.int (p:Nat),.sh<|.int c,.sh B]=.ok (decide<|(p:Int)=((gX L f).length:Int)):=by generalize ih=LE at*;iterate 4 (walk_at "d";try simp only[T])
 have C:=B0 (F 1) a1 a2;have v:=B0 (F 2) a3 a4;have l:=B0 (F 3) a5 a6;cases o:decide (c%4=1)&&(decide ((L.length:Int)>0)&&decide ((p:Int)>0))with
 |true=>
  rw[o]at C;simp only[aq,aA]at o;obtain⟨_,i,N⟩:=o;cases L with
  |nil=>exact absurd i (by decide)
  |cons r L=>
   have rk:=h.r r (.head _);have w:=vV rk.w;refine⟨jc (r.1,cH),EU<|xT rk.w,λ_=>?_,zM C ?_⟩
   ·rw[yc<|xT rk.w];refine NR (xT rk.w) ?_;obtain⟨k,rfl⟩:∃k,p=k+1:=⟨p - 1,by lia⟩;unfold full;rw[List.take_succ_cons,aF,bF,wN];simp
   ·have M:gK (ju r) (.int 0)=.ok (tS r.1):=rfl;have R:gv (.str<|Str.ofString "mark ") (tS r.1)=.ok (tS<|[109,97,114,107,32]++r.1):=jU (x:=[109,97,114,107,32]) (by decide) (by lia);have P:gv (tS<|[109,97,114,107,32]++r.1) (.str<|Str.ofString ": here < 1")=.ok (tS<|([109,97,114,107,32]++r.1)++[58,32,104,101,114,101,32,60,32,49]):=jU (y:=[58,32,104,101,114,101,32,60,32,49]) (by simp;lia) (by decide);rw[WL];generalize(([109,97,114,107,32]++r.1)++[58,32,104,101,114,101,32,60,32,49])=w2 at*;generalize[109,97,114,107,32]++r.1=w1 at*;have Z:gK (.lst<|(r::L).map ju) (.int 0)=.ok (ju r):=by
     have:=yP (xs:=(r::L).map ju) (k:=0) (f7 _);rw[xO,show(0:Int)=((0:Nat):Int)from rfl,this];rfl
    generalize gK=IX at*;generalize gv=ni at*;simp only[FG,oF,lM,tH,gM,G,Z,M,R,P,lN]
 |false=>
  rw[o]at C;rw[wZ C];cases n:decide (c%4=2)&&(decide ((L.length:Int)=12)&&decide ((p:Int)≥12))with
  |true=>
   rw[n]at v;simp only[aq,aA]at n;obtain⟨_,i,N⟩:=n;have J:nr ([122,122],cH):=xT (by decide);refine⟨jc ([122,122],cH),EU J,λ_=>?_,zM v ?_⟩
   ·rw[yc J];refine NR J ?_;unfold full;rw[bY<|by lia,ae,show L.length=12 by lia];rfl
   ·rw[<-Po];rfl
  |false=>
   rw[n]at v;rw[wZ v];cases m:decide (c%4=3)&&(!decide (f=none)&&decide ((p:Int)=((gX L f).length:Int)))with
   |true=>
    rw[m]at l;simp only[aq,aA,bW,cY]at m;obtain⟨_,i,N⟩:=m;have no:¬(p<=L.length\/f=none):=by
     rw[ao i]at j
     rintro (z|z)
     ·lia
     ·exact i z
    have ev:∀d:D,L2.hI [D.str<|Str.ofString "fill 1 1",D.str<|Str.ofString "mark zz: here < 1"] (c/4%2)=some d->g9 (d2 gK (je<|λρ=>((gh (dC<|.str "fill 1 1")<|gh (dC<|.str "mark zz: here < 1") gk) ρ).bind js)<|d2 hR (d2 iE (dV 2)<|dC<|.int 4)<|dC<|.int 2) [.sh<|.lst<|(gX L f).map tS,.sh<|.int (p:Nat),.sh<|.int c,.sh B]=.rt d:=λd hd=>by iterate 5 (walk_at "d";try simp only[hd])
    rcases aaH (c/4) (D.str (Str.ofString "fill 1 1")) (D.str (Str.ofString "mark zz: here < 1"))with q|q;·exact⟨lG (1,1),Yi ⟨by decide,by decide,by decide,by decide⟩,λz=>absurd z no,by rw[<-Tq];exact zM l (ev _ q)⟩
    ·exact⟨jc ([122,122],cH),EU<|xT<|by decide,λz=>absurd z no,by rw[<-Po];exact zM l (ev _ q)⟩
   |false=>rw[m]at l;rw[wZ l];obtain⟨s,hs,e⟩:=hn (c/4);obtain⟨Y,V⟩:=Mw hs;refine⟨gj s,Y,λ_=>V _,?_⟩;rw[show tS (gj s)=.str s from aI D.str (mq s)];iterate 4 (walk_at "d";try simp only[e])
variable{a:Ad}
structure Rows(rows:mU):Prop where
 l:rows.length<=100
 o:∀r∈rows,oR r
 n:∀r∈rows,10∉r
 s:∀r∈rows,r.length<=4000
def FT(h:∀r∈rows,10∉r):gO 10 (jn [10] rows)=rows\/(rows=[]/\gO 10 (jn [10] rows)=[[]]):=by
 cases rows with
 |nil=>exact .inr ⟨rfl,rfl⟩
 |cons r rows=>exact .inl (Oh _ (by simp) h)
def Rows.ok(h:Rows rows):(jn [10] rows).length<=900000/\∀r∈gO 10 (jn [10] rows),oR r:=by
 constructor
 ·have:=Lp (y:=[10]) h.s;have:=h.l
  grind
 ·rcases FT h.n with e|⟨_,e⟩;·rw[e];exact h.o
  ·rw[e];intro r c;rw[aS.mp c];exact⟨by decide,nofun,nofun⟩
def Yc(h:∀r∈rows,10∉r):kg (gO 10<|jn [10] rows)=kg rows:=by
 rcases FT h with e|⟨e0,e⟩;·rw[e]
 ·rw[e,e0];rfl
def nk.nl(h:nk r):10∉r:=λz=>absurd (h.p 10 z).1 (by decide)
def NX{c:mU}(f:c.length<=100)(h:∀r∈c,nk r):Rows c:=⟨f,λr d=>(h r d).ok,λr d=>(h r d).nl,λr d=>(h r d).l⟩
abbrev BH(a:Ad)(Fr:gw):Prop:=∀cs:gi Nat,cs.length<=900000->(∀r∈gO 10 cs,oR r)->MK a (Fr [tS cs]) (kN 1 [] none<|gO 10 cs)
def NJ(i:BH a Fr)(h:mz L f)(R:Rows rows)(e:kg rows=sf L f):Fr [tS (jn [10] rows)]=.ok (j9 L f):=by obtain⟨d,c⟩:=R.ok;have:=i _ d c;have b:kN 1 [] none (gO 10 (jn [10] rows))=.ok (L.map tI) (f.map kZ):=AA (gO 10 (jn [10] rows)) 1 [] L f h.r h.f h.l h.n (by rw[Yc R.n];exact e);rw[b]at this;have j:Fr [tS<|jn [10] rows]=.ok (.tup [.lst<|(L.map tI).map kq,fD<|f.map kZ]):=this;rw[j,bu];rfl
def WK(h:mz L f)(j:p<=(gX L f).length):∃g,mz (L.take p) g/\(gX L f).take p=gX (L.take p) g/\(g=none->p<=L.length\/f=none):=by
 have sub:(L.take p).Sublist L:=List.take_sublist p L;have c:∀g,(∀x,g=some x->qE x)->mz (L.take p) g:=λg k=>⟨λr d=>h.r r<|sub.subset d,k,by have:=sub.length_le;have:=h.l;walk_at "l",(sub.map Prod.fst).nodup h.n⟩;rw[xj]at j;by_cases q:p<=L.length
 ·refine⟨none,c none nofun,?_,λ_=>.inl q⟩;unfold gX;rw[aP,List.take_append_of_le_length<|by rw[ae];exact q,fZ]
 ·refine⟨f,c f h.f,?_,λz=>.inr z⟩;have i:(gX L f).length<=p:=by
   rw[xj]
   lia
  rw[bY i,bY (l:=L)<|by lia]
def acv(h:mz L f)(k:p<=(gX L f).length){bl}(n:∀x∈bl,blk x=true)(j:blk x=false)(l:(p<=L.length\/f=none)->lg ((L.take p).map Prod.fst) (gI x)=.no)(rest):
    kN 1 [] none ((((gX L f).take p++bl)++[x])++rest)=.no (p+bl.length+1):=by
 obtain⟨g,b,e,m⟩:=WK h k;have c:kN 1 [] none ((gX L f).take p)=.ok ((L.take p).map tI) (g.map kZ):=AA ((gX L f).take p) 1 [] (L.take p) g b.r b.f b.l b.n (by rw[e,Mq λy i=>(qm b y i).2.2];exact EH b);have d:((gX L f).take p).length=p:=by grind
 rw[aV,aV,xR _ _ 1 [] none c,xR _ _ _ _ _<|NH bl n _ _ _,d];show kN (1+p+bl.length) _ _ (x::rest)=_;rw[acx j λz=>?_];·congr 1;lia
 ·have:g=none:=by cases g with
   |none=>rfl
   |some y=>cases z
  rw[bu];exact l (m this)
def Rf{c:ja}(h:p<=c.length):cutD c (some (p:Int)) none=c.drop p:=by unfold cutD;rw[HT.AF,HT.N3,eH h];exact bY (by rw[dF];simp)
def Rg{c:ja}(h:p<=c.length):cutD c none (some (p:Int))=c.take p:=by unfold cutD;rw[HT.AF,HT.N3,List.drop_zero,Nat.sub_zero,eH h]
variable{U K E S J O P N:gw}
def rC.ok(h:rC x):oR x:=NU h.l h.s
def Qr(n)(f:n<=4):∀r∈(List.range n).map (λk=>List.replicate k 32),nk r/\blk r=true/\r.length<=900:=λr c=>by obtain⟨k,d,rfl⟩:=bJ.mp c;have:=d8.mp d;exact⟨NW (by lia),IK k,by rw[bG];lia⟩
def S7(n)(q:n<4){f:hP}(hf:f ρ=.ok (.int (n:Nat))):je (kS (λρ=>((gh f gk) ρ).bind mL) 1 [] (gV 0) (λ_=>.ok true)<|d2 iU (dC<|.str " ")<|dV 0) ρ=.ok (.lst<|((List.range n).map λk=>List.replicate k 32).map tS):=by
 have h:=FR (j:=n) (by walk_at "l");have i:((gh f gk) ρ).bind mL=.ok ((List.range n).map λ(k:Nat)=>D.int k):=by rw[jZ,hf,gM,kF,gM,gM,h]
 have o:∀mR:Ev,(∀d,gV 0 d mR=some [.sh d])->kR (gV 0) (λ_=>.ok true) (d2 iU (dC<|.str " ")<|dV 0) mR ((List.range n).map λ(k:Nat)=>D.int k)=some (((List.range n).map λk=>List.replicate k 32).map tS):=λmR p=>by
  have:=rJ (a:=gV 0) (c:=λ_=>.ok true) (e:=d2 iU (dC (.str " ")) (dV 0)) (mR:=mR) (λd=>[.sh d]) (λd=>match d with|.int k=>tS (List.replicate k.toNat 32)|_=>.non) ((List.range n).map λ(k:Nat)=>D.int k) λd m=>by obtain⟨k,l,rfl⟩:=bJ.mp m;have:=d8.mp l;refine⟨p _,rfl,?_⟩;exact Aa (n:=(k:Int)) (by simp) (by omega)
  rw[this,bu,bu];rfl
 rw[Fz,Aw,i,gM,af<|size_of<|by rw[ae,fv];omega,o _ λd=>rfl];rfl
end
variable{a:Ad}
structure Lw(a:Ad)(Fb yu Fr A9 Fc yv yr Ba yt:gw):Prop where
 bk:∀ns:gi Int,ns.length<=63->∃L f,mz L f/\Fb [.lst<|ns.map .int]=.ok (.tup [j9 L f,.lst<|(gX L f).map tS])
 sh:∀L f,mz L f->yu [j9 L f]=.ok (tS<|jn [10]<|gX L f)
 rd:BH a Fr
 al:∀L f,mz L f->A9 [j9 L f,j9 L f]=.ok (.bl true)
 ce:∀(ns:kY) (k:Nat),Fc [.lst<|ns.map .int,.int (k:Nat)]=.ok (.int<|ns.getD k 0)
 st:∀xs:gi (gi Nat),(∀x∈xs,x.length<=900/\(∀c∈x,32<=c/\c<=126)/\gI x≠[])->xs.length<=100->∀c:Int,∃rs:gi (gi Nat),rs.length<=2*xs.length/\(∀r∈rs,nk r)/\kg rs=xs.map gI/\yv [.lst<|xs.map tS,.int c]=.ok (.lst<|rs.map tS)
 od:∀L f,mz L f->∀p:Nat,p<=(gX L f).length->∀c:Int,∃x:gi Nat,rC x/\((p<=L.length\/f=none)->lg ((L.take p).map Prod.fst) (gI x)=.no)/\yr [.lst<|(gX L f).map tS,.int (p:Nat),.int c,j9 L f]=.ok (tS x)
 no:∀c:Int,∃s∈pM,Ba [.int c]=.ok (.str s)
 re:∀(ds:ja) (x:hZ) (n:Nat),k4 (.str "\n") [.lst ds]=.ok (tS x)→(Fr [tS x]=.ex a.NoText ["row"] [.int (n:Nat)]∨Fr [tS x]=.ex a.NoText ["row","row"] [.int (n:Nat),.int (n:Nat)])->yt [.lst ds,.int (n:Nat)]=.ok (.bl true)
section
variable{F B v b E A C t m:gw}{ns:kY}{L:qb}{f:sO}{c:Int}{ws rs bl:mU}{p:Nat}{x:hZ}
def or3{x y z:kv}(i:x ρ=.ok false)(h:y ρ=.ok false)(d:z ρ=.ok false):lB x (lB y z) ρ=.ok false:=by rw[Av,i,gM,ao<|by simp,Av,h,gM,ao<|by simp,d]
def JT{y}(d:dV i ρ=.ok (.lst ds))(h:k4 (.str "\n") [.lst ds]=.ok (tS y)):jW "str" k4 (dC<|.str "\n") (gh (dV i) gk) ρ=.ok (tS y):=by rw[r4,lM,gM,jZ,d,gM,kF,gM,gM,h,af<|show oV "str" (.str "\n")=true by rfl]
def JS{i h:hP}{y d}(n:i ρ=.ok (tS y))(l:h ρ=.ok d)(j:v [tS y]=.ok d)(k:b [d,d]=.ok (.bl true)):mF (b1 tT<|dA b<|gh (dA v<|gh i gk)<|gh h gk) ρ=.ok false:=by
 have e:dA b (gh (dA v<|gh i gk)<|gh h gk) ρ=.ok (.bl true):=by rw[mK,jZ,mK,jZ,n,gM,kF,gM,gM,j,gM,jZ,l,gM,kF,gM,gM,gM,k]
 rw[Nl,Nk,e];rfl
abbrev lV(ns:kY)(L:qb)(f:sO)(v4 v5 v6 v7 v8 v9:Sl):Ev:=[iD<|ns.map .int,.sh<|j9 L f,iD<|(gX L f).map tS,.sh<|tS<|jn [10]<|gX L f,v4,v5,v6,v7,v8,v9]
def k3(H:Lw a F B v b E A C t m)(h:mz L f)(R:Rows<|gX L f):(lB (mF<|b1 tT<|dA (jQ a.iV)<|gh (dV 3)<|gh (dC<|.ty "str") gk)<|lB (b1 tB<|d2 ky (dV 3)<|jW "str" k4 (gs "\n")<|gh (dV 2) gk)<|mF<|b1 tT<|dA b<|gh (dA v<|gh (dV 3) gk)<|gh (dV 1) gk) (lV ns L f .no .no .no .no .no .no)=.ok false:=by
 have j:=join_rows R.l R.s;refine or3 ?_ ?_ ?_;·rfl
 ·have e:jW "str" k4 (gs "\n") (gh (dV 2) gk) (lV ns L f .no .no .no .no .no .no)=.ok (tS<|jn [10]<|gX L f):=JT rfl j;rw[tG,oF,tH,gM,e,gM,FE,aB rfl];rfl
 ·exact JS rfl rfl (NJ H.rd h R<|by rw[Mq λy d=>(qm h y d).2.2];exact EH h) (H.al L f h)
def k6(H:Lw a F B v b E A C t m)(h:mz L f)(R:Rows ws)(e:kg ws=sf L f):(mF<|b1 tT<|dA b<|gh (dA v<|gh (jW "str" k4 (gs "\n")<|gh (dV 5) gk) gk)<|gh (dV 1) gk) (lV ns L f (il c) (iD<|ws.map tS) .no .no .no .no)=.ok false:=
 JS (JT rfl<|join_rows R.l R.s) rfl (NJ H.rd h R e) (H.al L f h)
def k7:∃p:Nat,p<=(gX L f).length/\(d2 hR (d2 iE (dV 4)<|gq 8)<|d2 gv (dA ih<|gh (dV 2) gk)<|gq 1) (lV ns L f (il c) (iD<|ws.map tS) .no .no .no .no)=.ok (.int (p:Nat)):=by
 have d:(0:Int)<((gX L f).length:Int)+1:=by simp
 have b1:=c9 (c/8) (show((gX L f).length:Int)+1≠0 by lia);have j:=cM (c/8) d;obtain⟨p,e⟩:=aO b1;refine⟨p,by lia,?_⟩;have i:=xh tS (gX L f);have h:hR (.int<|c/8) (.int<|((gX L f).length:Int)+1)=.ok (.int (p:Nat)):=by rw[r6 d,e]
 generalize ih=LE at*;generalize hR=MD at*;iterate 5 (walk_at "d";try simp only[i,h])
def k8(i:p<=(gX L f).length):∃q:Nat,q<=(gX L f).length/\(iA (b1 tB<|d2 gW (d2 hR (d2 iE (dV 4)<|gq 5)<|gq 3)<|gq 1) (gS 6<|dA ih<|gh (dV 2) gk) iC) (lV ns L f (il c) (iD<|ws.map tS) (il (p:Nat)) .no .no .no)=.nx (lV ns L f (il c) (iD<|ws.map tS) (il (q:Nat)) .no .no .no):=by
 have h:=xh tS (gX L f);have d:(b1 tB<|d2 gW (d2 hR (d2 iE (dV 4)<|gq 5)<|gq 3)<|gq 1) (lV ns L f (il c) (iD<|ws.map tS) (il (p:Nat)) .no .no .no)=.ok (decide<|c/5%3=1):=by iterate 4 (walk_at "d")
 by_cases w:c/5%3=1
 ·refine⟨(gX L f).length,au _,?_⟩;have j:(dA ih<|gh (dV 2) gk) (lV ns L f (il c) (iD<|ws.map tS) (il (p:Nat)) .no .no .no)=.ok (.int ((gX L f).length:Nat)):=by
   rw[mK,jZ,vq,gM,kF,gM,gM,h]
  rw[pO,d,aB w,lN,af rfl];exact lh j (show 6<10 by decide)
 ·refine⟨p,i,?_⟩;rw[pO,d,az w,lN];rfl
structure BI(r:hZ):Prop where
 o:oR r
 n:10∉r
 l:r.length<=900
def Wq(H:Lw a F B v b E A C t m)(j:∀r∈rs,BI r)(q:rs.length<=40):∃h:gi (gi Nat),(∀r∈h,BI r)/\h.length<=41/\(iA (b1 tB<|d2 gW (d2 hR (d2 iE (dV 4)<|gq 13)<|gq 2)<|gq 1) (gS 8<|d2 gv (dV 8)<|je<|λρ=>((gh (dA t<|gh (d2 iE (dV 4)<|gq 17) gk) gk) ρ).bind js) iC) (lV ns L f (il c) (iD<|ws.map tS) (il (p:Nat)) (.sh<|tS x) (iD<|rs.map tS) .no)=.nx (lV ns L f (il c) (iD<|ws.map tS) (il (p:Nat)) (.sh<|tS x) (iD<|h.map tS) .no):=by
 have k:(b1 tB<|d2 gW (d2 hR (d2 iE (dV 4)<|gq 13)<|gq 2)<|gq 1) (lV ns L f (il c) (iD<|ws.map tS) (il (p:Nat)) (.sh<|tS x) (iD<|rs.map tS) .no)=.ok (decide<|c/13%2=1):=by iterate 4 (walk_at "d")
 by_cases w:c/13%2=1
 ·obtain⟨s,l,e⟩:=H.no (c/17);obtain⟨i,_⟩:=Mw l;refine⟨rs++[gj s],λr d=>?_,by rw[aa];show rs.length+1<=41;walk_at "l",?_⟩
  ·rcases a9.mp d with d|d;·exact j r d
   ·rw[aS.mp d];exact⟨i.ok,i.n,i.l⟩
  ·have o:gv (.lst<|rs.map tS) (.lst [.str s])=.ok (.lst<|(rs++[gj s]).map tS):=by
    rw[Au (x:=rs.map tS) (y:=[.str s]) (by rw[ae];walk_at "l")<|show 1<=1000 by decide,aH,show([.str s]:gi D)=[gj s].map tS from by rw[aF,c8];exact aI (λz=>[D.str z]) (mq s).symm]
   have n:(d2 gv (dV 8)<|je<|λρ=>((gh (dA t<|gh (d2 iE (dV 4)<|gq 17) gk) gk) ρ).bind js) (lV ns L f (il c) (iD<|ws.map tS) (il (p:Nat)) (.sh<|tS x) (iD<|rs.map tS) .no)=.ok (.lst<|(rs++[gj s]).map tS):=by iterate 5 (walk_at "d";try simp only[e,o])
   rw[pO,k,aB w,lN,af rfl];exact lh n (show 8<10 by decide)
 ·refine⟨rs,j,by walk_at "l",?_⟩;rw[pO,k,az w,lN];rfl
def Wr(h:p<=(gX L f).length)(z:(gX L f).length<=100)(r:bl.length<=100)(q:rs.length<=100):(dA m<|gh (d2 gv (d2 gv (d2 gv (ot nH (dV 2) (λ_=>.ok none)<|λρ=>((dV 6) ρ).bind pI)<|dV 9)<|je<|λρ=>((gh (dV 7) gk) ρ).bind js)<|dV 8)<|gh (d2 gv (d2 gv (dV 6)<|dA ih<|gh (dV 9) gk)<|gq 1) gk) (lV ns L f (il c) (iD<|ws.map tS) (il (p:Nat)) (.sh<|tS x) (iD<|rs.map tS)<|iD<|bl.map tS)=m [.lst<|(((((gX L f).take p)++bl)++[x])++rs).map tS,.int ((p+bl.length+1:Nat):Int)]:=by
 have i:cutD ((gX L f).map tS) none (some (p:Int))=((gX L f).take p).map tS:=by rw[Rg<|by rw[ae];exact h,fZ]
 have o:((gX L f).take p).length<=100:=by rw[cX];lia
 have n:gv (.lst<|((gX L f).take p).map tS) (.lst<|bl.map tS)=.ok (.lst<|(((gX L f).take p)++bl).map tS):=by rw[Au (by rw[ae];walk_at "l")<|by rw[ae];walk_at "l",aH]
 have l:gv (.lst<|(((gX L f).take p)++bl).map tS) (.lst [tS x])=.ok (.lst<|((((gX L f).take p)++bl)++[x]).map tS):=by rw[Au (x:=(((gX L f).take p)++bl).map tS) (y:=[tS x]) (by rw[ae,aa];lia)<|show 1<=1000 by decide,aH (l₂:=[x])];rfl
 have k:gv (.lst<|((((gX L f).take p)++bl)++[x]).map tS) (.lst<|rs.map tS)=.ok (.lst<|(((((gX L f).take p)++bl)++[x])++rs).map tS):=by rw[Au (by rw[ae,aa,aa];show _+_+1<=1000;lia)<|by rw[ae];walk_at "l",aH (l₂:=rs)]
 have d:=xh tS bl;have b1:gv (.int (p:Nat)) (.int bl.length)=.ok (.int<|(p:Int)+(bl.length:Int)):=rfl;have j:gv (.int<|(p:Int)+(bl.length:Int)) (.int 1)=.ok (.int ((p+bl.length+1:Nat):Int)):=by rfl
 generalize(((((gX L f).take p)++bl)++[x])++rs).map tS=Y3 at*;generalize((((gX L f).take p)++bl)++[x]).map tS=Y2 at*;generalize(((gX L f).take p)++bl).map tS=Y1 at*;generalize(((p+bl.length+1:Nat)):Int)=Y0 at*;generalize(p:Int)+(bl.length:Int)=Y4 at*;generalize((gX L f).take p).map tS=Y5 at*;generalize gv=ni at*;generalize ih=LE at*;iterate 7 (walk_at "d";try simp only[i,n,l,k,d,b1,j])
end
def Xd(H:Lw a Fb yu Fr A9 Fc yv yr Ba yt)(ns:kY)(M:ns.length<=63):gB (Di a Fb yu Fr A9 Fc yv yr Ba yt<|gJ 10 [.lst<|ns.map .int])=.ok (.bl true):=by
 obtain⟨L,f,h,eb⟩:=H.bk ns M;have n:=xj L f;have h12:=h.l;have l14:(gX L f).length<=13:=by rw[n];split<;>walk_at "l"
 have o:∀r∈gX L f,nk r:=λr d=>NV (qm h r d).1 (qm h r d).2.1;have R0:Rows (gX L f):=NX (by walk_at "l") o;have ec:=H.ce ns 1;generalize ns.getD 1 0=c at*;obtain⟨ws,w1,V,U,ew⟩:=H.st (gX L f) (λx G=>⟨(qm h x G).1,(qm h x G).2.1,(qm h x G).2.2⟩) (by walk_at "l") (c/7%1000);have RW:Rows ws:=NX (by lia) V;obtain⟨p0,I,e7⟩:=k7 (L:=L) (f:=f) (c:=c) (ns:=ns) (ws:=ws);obtain⟨p,z,e8⟩:=k8 (L:=L) (f:=f) (c:=c) (ns:=ns) (ws:=ws) I;obtain⟨x,v,T,ex⟩:=H.od L f h p z (c/11);obtain⟨rs,C,Z,O⟩:=Wq (L:=L) (f:=f) (c:=c) (ns:=ns) (ws:=ws) (p:=p) (x:=x) (rs:=(gX L f).drop p) H (λr d=>by have i:=fX d;exact⟨(o r i).ok,(o r i).nl,(qm h r i).1⟩) (by rw[dF];grind)
 obtain⟨j,J⟩:=aO (show 0<=c/19%4 by lia);have F:j<4:=by lia
 have m:=Qr j (by walk_at "l");have bll:((List.range j).map λk=>List.replicate k 32).length=j:=by rw[ae,fv]
 have N:(je<|kS (λρ=>((gh (d2 hR (d2 iE (dV 4)<|dC<|.int 19)<|dC<|.int 4) gk) ρ).bind mL) 1 [] (gV 0) (λ_=>.ok true)<|d2 iU (dC<|.str " ")<|dV 0) (lV ns L f (.sh<|.int c) (.sh<|.lst<|ws.map tS) (.sh<|.int (p:Nat)) (.sh<|tS x) (.sh<|.lst<|rs.map tS) .no)=.ok (.lst<|((List.range j).map λk=>List.replicate k 32).map tS):=by refine S7 j F ?_;rw[show(.int (j:Nat):D)=.int (c/19%4)from by rw[J]];iterate 3 (walk_at "d")
 generalize((List.range j).map λk=>List.replicate k 32)=bl at*;have q:Rows ((((gX L f).take p++bl)++[x])++rs):=by
  have l:∀r∈(((gX L f).take p++bl)++[x])++rs,BI r:=λr d=>by
   rcases a9.mp d with d|d
   ·rcases a9.mp d with d|d
    ·rcases a9.mp d with d|d
     ·have i:=List.mem_of_mem_take d;exact⟨(o r i).ok,(o r i).nl,(qm h r i).1⟩
     ·have:=(m r d).1;exact⟨this.ok,this.nl,(m r d).2.2⟩
    ·rw[aS.mp d];exact⟨v.ok,v.n,v.l⟩
   ·exact C r d
  refine⟨?_,λr d=>(l r d).o,λr d=>(l r d).n,λr d=>av (l r d).l (by decide)⟩;rw[aa,aa,aa,cX];show _+_+1+_<=100
  lia
 have rd:=acv h z (λy hy=>(m y hy).2.1) v.b T rs;have Y:gO 10 (jn [10]<|(((gX L f).take p++bl)++[x])++rs)=(((gX L f).take p++bl)++[x])++rs:=by
  rcases FT q.n with e|⟨e,_⟩;·exact e
  ·exact absurd e (by simp)
 have R:=H.rd _ q.ok.1 q.ok.2;rw[Y,rd]at R;have fin:=H.re _ _ _ (join_rows q.l q.s) R;unfold Di;show gB (gy _ _ [.sh<|.lst<|ns.map .int,.no,.no,.no,.no,.no,.no,.no,.no,.no])=_;have e1:(FX (dA Fb<|gh (dV 0) gk)<|gT 2<|gC (gV 1)<|gC (gV 2) gN) [.sh<|.lst<|ns.map .int,.no,.no,.no,.no,.no,.no,.no,.no,.no]=.nx [.sh<|.lst<|ns.map .int,.sh<|j9 L f,.sh<|.lst<|(gX L f).map tS,.no,.no,.no,.no,.no,.no,.no]:=by show toS (dA Fb (gh (dV 0) gk) [.sh<|.lst<|ns.map .int,.no,.no,.no,.no,.no,.no,.no,.no,.no]) _=_;rw[mK,jZ,oG,gM,kF,gM,gM,eb];rfl
 rw[jA e1];have e2:(dA yu<|gh (dV 1) gk) [.sh<|.lst<|ns.map .int,.sh<|j9 L f,.sh<|.lst<|(gX L f).map tS,.no,.no,.no,.no,.no,.no,.no]=.ok (tS<|jn [10]<|gX L f):=by rw[mK,jZ,o6,gM,kF,gM,gM,H.sh L f h]
 rw[jA<|lh e2<|show 3<10 by decide];refine(aI gB<|wZ<|k3 (ns:=ns) H h R0).trans ?_;have e4:(dA Fc<|gh (dV 0)<|gh (dC<|.int 1) gk) (lV ns L f .no .no .no .no .no .no)=.ok (.int c):=by rw[mK,jZ,oG,gM,jZ,lM,gM,kF,gM,gM,gM];exact ec
 rw[jA<|lh e4<|show 4<10 by decide];have e5:(dA yv<|gh (dV 2)<|gh (d2 hR (d2 iE (dV 4)<|dC<|.int 7)<|dC<|.int 1000) gk) (lV ns L f (.sh<|.int c) .no .no .no .no .no)=.ok (.lst<|ws.map tS):=by iterate 4 (walk_at "d";try simp only[ew])
 refine(aI gB<|jA<|lh e5<|show 5<10 by decide).trans ?_;refine(aI gB<|wZ<|k6 (ns:=ns) (c:=c) H h RW<|by rw[U];exact EH h).trans ?_;refine(aI gB<|jA<|lh e7<|show 6<10 by decide).trans ?_;refine(aI gB<|jA e8).trans ?_;have e9:(dA yr<|gh (dV 2)<|gh (dV 6)<|gh (d2 iE (dV 4)<|dC<|.int 11)<|gh (dV 1) gk) (lV ns L f (.sh<|.int c) (.sh<|.lst<|ws.map tS) (.sh<|.int (p:Nat)) .no .no .no)=.ok (tS x):=by iterate 4 (walk_at "d";try simp only[ex])
 refine(aI gB<|jA<|lh e9<|show 7<10 by decide).trans ?_;have P:(ot nH (dV 2) (λρ=>((dV 6) ρ).bind pI)<|λ_=>.ok none) (lV ns L f (.sh<|.int c) (.sh<|.lst<|ws.map tS) (.sh<|.int (p:Nat)) (.sh<|tS x) .no .no)=.ok (.lst<|((gX L f).drop p).map tS):=by
  have cf:cutD ((gX L f).map tS) (some (p:Int)) none=((gX L f).drop p).map tS:=by rw[Rf<|by rw[ae];exact z,List.map_drop]
  iterate 4 (walk_at "d";try simp only[cf])
 refine(aI gB<|jA<|lh P<|show 8<10 by decide).trans ?_;refine(aI gB<|jA O).trans ?_;refine(aI gB<|jA<|lh N<|show 9<10 by decide).trans ?_;show gB (toS ((dA yt<|gh (d2 gv (d2 gv (d2 gv (ot nH (dV 2) (λ_=>.ok none)<|λρ=>((dV 6) ρ).bind pI)<|dV 9)<|je<|λρ=>((gh (dV 7) gk) ρ).bind js)<|dV 8)<|gh (d2 gv (d2 gv (dV 6)<|dA ih<|gh (dV 9) gk)<|dC<|.int 1) gk) (lV ns L f (.sh<|.int c) (.sh<|.lst<|ws.map tS) (.sh<|.int (p:Nat)) (.sh<|tS x) (.sh<|.lst<|rs.map tS)<|.sh<|.lst<|bl.map tS)) RT.rt)=_;rw[Wr z (by walk_at "l") (by lia)<|by walk_at "l",fin];rfl
end pG
namespace P2
open PySem PySem.Spec PyProof.Rows Fx L2
structure Wt(P:iQ)(w:iK)(K:gF)(mg:iY)(base h:gU):Prop where
 X:K.In h
 G:h.Ns mainGlobals mg
abbrev lz(K:gF)(x:gp)(v:gE):Prop:=W.nsIn K mainGlobals x=some (some v)
abbrev oh(K:gF)(x:gp):Prop:=W.nsIn K mainGlobals x=some none
abbrev ry(K:gF)(C:gr)(x:gp)(b:String):Prop:=W.findIn K (.ref C) x=some (some<|.builtin b)
abbrev rz(K:gF)(C:gr)(x:gp):Prop:=W.findIn K (.ref C) x=some none
def ix(K:gF)(x:gp)(st:Stmt):Prop:=∃f a,mD K x x st f a/\lz K x (.ref f)
def nJ(K:gF)(C:gr)(x a:gp)(st:Stmt):Prop:=∃f c,pB K x a st .none f c/\W.findIn K (.ref C) x=some (some<|.ref f)/\W.isFn K (.ref f)=true
def ups(u:Nat->gE):gi gp->gi gE
 |[]=>[]
 |_::r=>u r.length::ups u r
abbrev Bd(x qual:gp)(st:Stmt)(ps:iH):Prop:=∀(kV doc pm:gE) (an:kD) (cdv ct:gE) (u:Nat->gE),bindArgs (W.fnOf x qual (ny st) (kx st) (iz st) .none kV doc pm an cdv ct) ⟨ups u ps,[]⟩=pure (ps.zip<|ups u ps)
variable{P:iQ}{w:iK}{K:gF}{B:iY}{i h:gU}{x t:gp}{q:Stmt}{C:gr}{k:Nat}{z:iH}{I:Sp}
def Wt.g{v:gE}(Y:Wt P w K B i h)(e:lz K x v):B x=some v:=W.mg_of Y.X Y.G e
def Wt.n(Y:Wt P w K B i h)(e:oh K x):B x=none:=W.mg_none_of Y.X Y.G e
theorem OP{u v:Nat->gE}:∀{z:iH},(∀n,n<z.length->u n=v n)->ups u z=ups v z
 |[],_=>rfl
 |_::r,h=>by show u r.length::ups u r=v r.length::ups v r;rw[h _<|bL _,OP λn a=>h n<|Nat.lt_succ_of_lt a]
theorem OQ:∀(z:iH) (us:jP),us.length=z.length->∃u,us=ups u z
 |[],[],_=>⟨λ_=>.none,rfl⟩
 |_::r,x::us,h=>by obtain⟨u,e⟩:=OQ r us (Nat.succ.inj h);refine⟨λn=>if n=r.length then x else u n,?_⟩;show x::us=(if r.length=r.length then x else _)::ups _ r;rw[af rfl,e,OP (v:=u) λn a=>ao<|aW a]
def Bd.o(b:Bd x t q z)(kV c f:gE)(j:kD)(d ct:gE)(a:jP)(h:a.length=z.length):bindArgs (W.fnOf x t (ny q) (kx q) (iz q) .none kV c f j d ct) ⟨a,[]⟩=pure (z.zip a):=by obtain⟨u,rfl⟩:=OQ z a h;exact b ..
def ix.mk{f:gr}{p:gE}{o r:kD}{j:sM}{kV m n d ct:gE}(a:autoParam (W.nsIn K mainGlobals x=some (some<|.ref f)) aZ3)
    (l:autoParam (K.lookup f=some ⟨p,o,.func<|W.fnOf x x (ny q) (kx q) (iz q) .none kV m n r d ct,j⟩) aZ3)(c:autoParam (W.codeIn K d x=true) aZ3)(k:autoParam (W.keepIn K (.ref f)=true) aZ3):ix K x q:=⟨f,_,Dc l c k,a⟩
def nJ.mk{f:gr}{r:gE}{p v:kD}{j:sM}{kV m o d ct:gE}(a:autoParam (W.findIn K (.ref C) x=some (some<|.ref f)) aZ3)(n:autoParam (W.isFn K (.ref f)=true) aZ3)
    (l:autoParam (K.lookup f=some ⟨r,p,.func<|W.fnOf x t (ny q) (kx q) (iz q) .none kV m o v d ct,j⟩) aZ3)(c:autoParam (W.codeIn K d t=true) aZ3)(k:autoParam (W.keepIn K (.ref f)=true) aZ3):nJ K C x t q:=⟨f,_,Kn l c k,a,n⟩
def ix.get(p:ix K x q)(Y:Wt P w K B i h)(z:iH)(b:autoParam (Bd x x q z) aZ6):
    ∃f c,mD K x x q f c/\Binds K c z []/\W.keepIn K (.ref f)=true/\B x=some (.ref f):=let⟨f,c,F,a⟩:=p;⟨f,c,F,F.binds b.o,F.kp,Y.g a⟩
def ix.has(p:ix K x q)(Y:Wt P w K B i h)(o:∀f a,mD K x x q f a->kX P w K B i k f a z I)(b:autoParam (Bd x x q z) aZ6):ik P w K B i k x z I:=let⟨f,a,F,b,k,m⟩:=p.get Y z b;⟨f,a,o f a F,b,k,m⟩
def nJ.has(p:nJ K C x t q)(Y:Wt P w K B i h)(o:∀f c,pB K x t q .none f c->kX P w K B i k f c z I)(b:autoParam (Bd x t q z) aZ6):
    lK P w K B i k C x z [] I:=let⟨f,c,F,a,n⟩:=p;⟨f,c,[],[],o f c F,F.binds b.o,.nil,λ_ _=>.nil,⟨a,n,F.kp⟩⟩
def nJ.UN(p:nJ K C "__init__" t q)(Y:Wt P w K B i h)(m:W.makesIn K C=true)(d:W.keepIn K (.ref C)=true)(o:∀f c,pB K "__init__" t q .none f c->kX P w K B i k f c z I)(b:autoParam (Bd "__init__" t q z) aZ6):
    pZ P w K B i k C z I:=let⟨f,c,F,a,n⟩:=p;⟨f,c,o f c F,F.binds b.o,⟨m,a,n,d⟩⟩
def _root_.L2.oQ.u{j:Nat}(G:ik P w K B i j x z I)(h:autoParam (j<=k) aZ9):ik P w K B i k x z I:=oQ.up G h
def lK.u{j:Nat}{a:ja}(G:lK P w K B i j C x z a I)(h:autoParam (j<=k) aZ9):lK P w K B i k C x z a I:=G.up h
def pZ.u{j:Nat}(G:pZ P w K B i j C z I)(h:autoParam (j<=k) aZ9):pZ P w K B i k C z I:=G.up h
def _root_.L2.j7.cl{f:gr}{a:kP}{n:Nat}{F:hL}(h:kX P w K B i k f a z<|jv n K F):kX P w K B i k f a z (iJ n K<|λc=>clo<|F (c.map .d) []):=j7.close h
def lc(s:Scope):gi gp:=(s.names.filter λp=>p.2 !=.globalImplicit).map (·.1)
noncomputable def wU(s:Scope)(z:iH)(n:Nat):gL:=decide (s.kind=.function)&&!s.isCoroutine&&!s.isGenerator&&decide (lc s).Nodup&&decide ((lc s).take z.length=z)&&decide ((lc s).length=n)&&z.all (λx=>decide (s.names.lookup x=some .local)||decide (s.names.lookup x=some .cell))&&s.names.all λy=>decide (y.2≠.free)
def qN{s:Scope}{n:Nat}(h:wU s z n=true):pz (lc s) z s/\(lc s).length=n:=by simp only[wU,aq,bW,ba,aZ,aA]at h;obtain⟨⟨⟨⟨⟨⟨⟨o,m⟩,l⟩,j⟩,f⟩,d⟩,c⟩,a⟩:=h;exact⟨⟨o,m,l,j,f,c,a⟩,d⟩
def TJ{f:gr}{j:kP}{n:Nat}{g:g0}(F:mD K x x q f j)(S:wU (iz q) z n=true)
    (d:(lc<|iz q).Nodup->∀(c:gE) (A:jd) (a:kH) (s:gQ) (H:Hp) (E:XK),iX k (iL (iu P w) P w K B i (lc<|iz q) x (iz q) f c A a s H E).A->nI (iL (iu P w) P w K B i (lc<|iz q) x (iz q) f c A a s H E) E (kx q) g):
    kX P w K B i (k+1) f j z (iJ z.length K λl=>gB<|g<|gJ n l):=by
 have:=TK F (qN S).1 (d (qN S).1.nd);rwa [(qN S).2]at this
def TU{f:gr}{j:kP}{n:Nat}{g:Nat->gZ}(F:mD K x x q f j)(S:wU (iz q) z n=true)
    (d:(lc<|iz q).Nodup->∀(b:Nat) (c:gE) (A:jd) (a:kH) (s:gQ) (H:Hp) (E:XK),iX k (iL (iu P w) P w K B i (lc<|iz q) x (iz q) f c A a s H E).A->nN (iL (iu P w) P w K B i (lc<|iz q) x (iz q) f c A a s H E) E b (kx q) (g b)):
    kX P w K B i (k+1) f j z (jv z.length K λl S=>g7<|g S.length (ij n l) S):=by
 have:=TN F (qN S).1 (d (qN S).1.nd);rwa [(qN S).2]at this
def TQ{dV:gE}{f:gr}{j:kP}{n:Nat}{g:Nat->gZ}(F:pB K x t q dV f j)(S:wU (iz q) z n=true)
    (d:(lc<|iz q).Nodup->∀(b:Nat) (c:gE) (A:jd) (a:kH) (s:gQ) (H:Hp) (E:XK),iX k (iL (iu P w) P w K B i (lc<|iz q) t (iz q) f c A a s H E).A->nN (iL (iu P w) P w K B i (lc<|iz q) t (iz q) f c A a s H E) E b (kx q) (g b)):
    kX P w K B i (k+1) f j z (jv z.length K λl S=>g7<|g S.length (ij n l) S):=by
 have:=TL F (qN S).1 (d (qN S).1.nd);rwa [(qN S).2]at this
end P2
namespace pG
open PySem L2 P2 WP WR WC WS TM T2 PySem.NumText
abbrev FY:Stmt:=inClass (at_ 3) 0
def N8:pz xl xl (iz FY):=⟨rfl,rfl,rfl,by decide+kernel,rfl,by decide+kernel,by decide+kernel⟩
abbrev fo(x q:gp)(st:Stmt)(dV kV doc pm:gE)(an:kD)(cdv ct:gE):kP:=PySem.W.fnOf x q (ny st) (kx st) (iz st) dV kV doc pm an cdv ct
def F5(K:PySem.W.Frag):Sp:=λc H Q E=>∃(al:ji) (ns:kY),c.length=1/\(∀a,H a=none->al a)/\ns.length<=63/\gR K al H c [.lst<|ns.map D.int]/\lA K H/\∀H',j8 K H H'->Q (.bl true) H'
theorem FQ{K:PySem.W.Frag}{al:ji}{H:Hp}:∀a:gi Int,gR K al H (a.map V.int) (a.map D.int)
 |[]=>.nil
 |_::a=>.cons (.int _) (FQ a)
def adv{K:PySem.W.Frag}{H:Hp}{a:gr}{c:kY}(f:c.length<=63)(d:lA K H)(r:Rep K (λ_=>True) H (.ref a)<|.lst<|c.map D.int):F5 K [.ref a] H (λv _=>v=.bl true) λ_ _ _=>False:=
 ⟨λ_=>True,c,rfl,λ_ _=>trivial,f,.cons r .nil,d,λ_ _=>rfl⟩
def isF(K:PySem.W.Frag)(a:pD)(c:gr)(u:gE):gH gL:=if c∈a then PySem.W.kitOne K (.ref c) u else none
def We{K:PySem.W.Frag}{a:pD}(h:∀c∈a,qc K c):wa K (isF K a):=λc u b e=>by
 unfold isF at e;split at e;·rename_i z;exact⟨h c z,e⟩
 ·cases e
def Wd{K:PySem.W.Frag}{a:pD}{c:gr}{u:gE}{b:gH gL}(h:PySem.W.kitOne K (.ref c) u=b)(d:c∈a):isF K a c u=b:=by unfold isF;rw[af d];exact h
section
variable(a:Ad)
abbrev yB:gw:=λds=>gB (Dq a<|gJ 2 ds)
abbrev Ic:hL:=λzs S=>g7 (uS a (yB a) S.length (ij 2 zs) S)
abbrev pC:hL:=λzs S=>g7 (zw a S.length (ij 3 zs) S)
abbrev rB:hL:=λzs S=>g7 (uV a (pC a) S.length (ij 2 zs) S)
abbrev qF:hL:=λzs S=>g7 (uU a (rB a) S.length (ij 2 zs) S)
abbrev BB:hL:=λzs S=>g7 (zA a (pC a) S.length (ij 1 zs) S)
abbrev rA:hL:=λzs S=>g7 (zx a S.length (ij 1 zs) S)
abbrev BA:hL:=λzs S=>g7 (zy a (qF a) S.length (ij 2 zs) S)
abbrev BC:hL:=λzs S=>g7 (zC a (qF a) S.length (ij 2 zs) S)
abbrev HN:gw:=λds=>gB (Dj a<|gJ 1 ds)
abbrev yA:gw:=λds=>gB (Dg a (HN a)<|gJ 2 ds)
abbrev sH:gw:=λds=>gB (D8 a (yA a)<|gJ 4 ds)
abbrev HJ:gw:=λds=>gB (De a<|gJ 3 ds)
abbrev HL:gw:=λds=>gB (Ks a<|gJ 1 ds)
abbrev HK:gw:=λds=>gB (Df a (HL a) (HJ a)<|gJ 3 ds)
abbrev Bj:gw:=λds=>gB (zo a<|gJ 3 ds)
abbrev By:gw:=λds=>gB (D0 a (yA a) (HK a) (Bj a)<|gJ 6 ds)
abbrev yH:gw:=λds=>gB (D5 a (By a)<|gJ 2 ds)
abbrev HM:gw:=λds=>gB (Dh a<|gJ 1 ds)
abbrev t4:gw:=λds=>gB (D9 a (HM a)<|gJ 1 ds)
def oy:Nat->(hL)×(hL)×(hL)×(hL)
 |0=>(λ_ _=>.bad,λ_ _=>.bad,λ_ _=>.bad,λ_ _=>.bad)
 |n+1=>(λc S=>g7<|D6 a (oy n).2.1 (pC a) (rB a) (rA a) S.length (ij 3 c) S,λc S=>g7<|zv a (yH a) (pC a) (oy n).2.2.1 (rB a) (qF a) (rA a) S.length (ij 2 c) S,λc S=>g7<|D4 a (sH a) (t4 a) (yH a) (pC a) (oy n).2.2.2 (rA a) (rB a) S.length (ij 2 c) S,λc S=>g7<|DY a (BA a) (oy n).1 (BC a) S.length (ij 2 c) S)
abbrev Ib:hL:=(oy a 75).1
abbrev HY:hL:=λzs S=>g7 (DZ a (rA a) (Ib a) (rB a) S.length (ij 3 zs) S)
def pK:Nat->(hL)×(hL)×(hL)
 |0=>(λ_ _=>.bad,λ_ _=>.bad,λ_ _=>.bad)
 |n+1=>(λc S=>g7<|D3 a (pK n).2.1 (pC a) (qF a) (rA a) S.length (ij 2 c) S,λc S=>g7<|DV a (pK n).2.2 (pC a) (qF a) (rA a) S.length (ij 2 c) S,λc S=>g7<|D2 a (pC a) (qF a) (rA a) (pK n).2.2 (BA a) (pK n).1 (BC a) (HY a) S.length (ij 2 c) S)
abbrev H7:hL:=(pK a 85).1
abbrev yI:hL:=λzs S=>g7 (D7 a (H7 a) (BB a) S.length (ij 2 zs) S)
abbrev HZ:hL:=λzs S=>g7 (wW a (sH a) (qF a) (rB a) (BB a) S.length (ij 3 zs) S)
abbrev Ia:hL:=λzs S=>g7 (wX a (t4 a) (qF a) (rB a) (yI a) S.length (ij 4 zs) S)
abbrev P5:hL:=λzs S=>g7 (sX a (Ic a) (pC a) (HZ a) (Ia a) S.length (ij 6 zs) S)
abbrev wg:gw:=λds=>clo (P5 a (ds.map .d) [])
abbrev Bh:gw:=λds=>gB (zl a<|gJ 3 ds)
abbrev Ii(Fs:gw):gw:=λds=>gB (zp a Fs<|gJ 3 ds)
abbrev Ih(Fs:gw):gw:=λds=>gB (lX a (Ii a Fs) Fs (Bh a) (Bj a)<|gJ 4 ds)
abbrev Bm:gw:=qi (Ih a) 32
abbrev Ie(Fs:gw):gw:=λds=>gB (zm a Fs<|gJ 3 ds)
abbrev Ig(Fs:gw):gw:=λds=>gB (nX a (Ie a Fs) Fs (Bh a) (Bm a)<|gJ 2 ds)
abbrev Bi:gw:=qi (Ig a) 32
abbrev HQ:gw:=λds=>gB (Dn a (Bi a)<|gJ 3 ds)
abbrev HP:gw:=λds=>gB (Dm a<|gJ 3 ds)
abbrev Bl:gw:=λds=>gB (Dp a (HQ a) (HP a)<|gJ 2 ds)
abbrev we:gw:=λds=>gB (zr a<|gJ 2 ds)
abbrev HS:gw:=λds=>gB (Dy a<|gJ 5 ds)
abbrev yD:gw:=λds=>gB (wV a (HS a)<|gJ 1 ds)
abbrev HU:gw:=λds=>gB (Dz a<|gJ 4 ds)
abbrev yG:gw:=λds=>gB (DL a<|gJ 2 ds)
abbrev Bs:gw:=λds=>gB (uN a (yD a) (yG a) (HU a)<|gJ 7 ds)
abbrev tZ:gw:=λds=>gB (DF a<|gJ 3 ds)
abbrev Bx:gw:=λds=>gB (DQ a (tZ a)<|gJ 4 ds)
abbrev Bu:gw:=λds=>gB (zu a (yD a) (yG a) (tZ a)<|gJ 3 ds)
abbrev yC:gw:=λds=>gB (Dt a<|gJ 3 ds)
abbrev yE:gw:=λds=>gB (Dx a (tZ a)<|gJ 5 ds)
abbrev Br:gw:=λds=>gB (Dv a (tZ a)<|gJ 1 ds)
abbrev HW:gw:=λds=>gB (DK a<|gJ 3 ds)
abbrev HX:hL:=λzs S=>g7 (DM a (Bx a) (Bu a) (yC a) (Br a) (yE a) (Bs a) S.length (ij 7 zs) S)
abbrev HR:hL:=λzs S=>g7 (Dw a (yC a) (yE a) S.length (ij 6 zs) S)
abbrev P4:hL:=λzs S=>g7 (Du a (HW a) (HX a) (HR a) S.length (ij 7 zs) S)
abbrev Bq:gw:=λds=>clo (P4 a (ds.map .d) [])
abbrev HV:gw:=λds=>gB (DC a<|gJ 4 ds)
abbrev Bp:gw:=λds=>gB (zq a (we a) (Bq a) (HV a)<|gJ 10 ds)
abbrev yF:gw:=λds=>gB (gl_none a<|gJ 2 ds)
abbrev Ij(Fs:gw):gw:=λds=>gB (qO a Fs<|gJ 2 ds)
abbrev Bo:gw:=qi (Ij a) 60
abbrev Bw:gw:=λds=>gB (DP a<|gJ 6 ds)
abbrev Bv:gw:=λds=>gB (DH a (wg a)<|gJ 4 ds)
abbrev Bt:gw:=λds=>gB (DD a (yF a)<|gJ 4 ds)
abbrev PX:gw:=λds=>gB (Di a (Bp a) (Bl a) (wg a) (Bo a) (we a) (Bw a) (Bt a) (yF a) (Bv a)<|gJ 10 ds)
def E3(z:gp)(k:Nat)(c:z.length<=1000000):yA a [.str z,.int k]=.ok (.bl<|kz (gj z) k):=Xb (λz c=>Xo z c) z k c
def rdF(z:gp)(c:z.length<=1000):By a [.str z]=outF a (T2.n6<|gj z):=
 Xq (λz k c=>E3 a z k c) (λt b d h=>W7 (λi=>XF i) (λx y j f h=>W9 x y j f h) t b d h) (λt b d m l=>EN t b d m l) z c
def Of(t:Tk)(d:t.length<=1000):yH a [tS t]=outF a (o7 t):=XA (λz c=>rdF a z c) t d
def whM(t:Tk)(d:t.length<=1000):sH a [tS t,.int 1,.int 9]=mu a (kB t 1 9):=by have:=Mb (a:=a) (λz k c=>E3 a z k c) (gm t) 1 9 (by rw[rO];omega) (by decide);rw[lL]at this;exact this
def O5(t:Tk)(d:t.length<=1000):t4 a [tS t]=rX a (gm t):=Xv (λz c=>Xc z c) (gm t) (by rw[rO];omega)
def Tw{f:ic}{T:kC}(O:ke T)(d:∀t∈T,t.length<=1000):∀n:Nat,jB f a T (oy a n).1 (f0 n).su/\jB f a T (oy a n).2.1 (f0 n).pr/\jB f a T (oy a n).2.2.1 (f0 n).sg/\jB f a T (oy a n).2.2.2 (f0 n).br:=by
 intro n;induction n with
 |zero=>exact⟨λ_ _ _=>trivial,λ_ _ _=>trivial,λ_ _ _=>trivial,λ_ _ _=>trivial⟩
 |succ n h=>obtain⟨l,k,j,i⟩:=h;exact⟨ac6 O k,ac3 O (λt c=>Of a t<|d t c) j,ac5 O (λt c=>whM a t<|d t c) (λt c=>O5 a t<|d t c) (λt c=>Of a t<|d t c) i,acY O l⟩
def Tz{c:ic}{T:kC}(O:ke T)(h:∀t∈T,t.length<=1000):∀n:Nat,jB c a T (pK a n).1 (f1 n).or/\jB c a T (pK a n).2.1 (f1 n).and/\jB c a T (pK a n).2.2 (f1 n).not:=by
 intro n;induction n with
 |zero=>exact⟨λ_ _ _=>trivial,λ_ _ _=>trivial,λ_ _ _=>trivial⟩
 |succ n f=>obtain⟨j,i,d⟩:=f;exact⟨ac2 O i,acX O d,ac1 O d j<|acZ O (Tw a O h 75).1⟩
def Jl(c:kY)(k:Nat):we a [.lst<|c.map .int,.int k]=.ok (.int<|c.getD k 0):=WP.W3 (a:=a) c k
def Km(c:Int):∃p q,Fq p q/\yD a [.int c]=.ok (WC.pr p q):=W8 (λt b h f d=>Xi t b h f d) c
def LZ(p q:Int)(h:Fq p q):yG a [WC.pr p q]=.ok (.str<|gm<|iw p q):=Xw h
def Aq:wu (tZ a):=λd x r n o c h=>Xp h
def Kh:Bb (Bx a) (Bu a) (yC a) (Br a) (yE a) (Bs a) where
 su:=λx y s f d=>Xj (Aq a) f d
 ov:=λx c i h=>Xh (Km a) (LZ a) (Aq a) i h c
 co:=λx y s f d=>W4 f d
 de:=λx h=>W5 (Aq a) h
 jo:=λx y s f d=>Xg (Aq a) f d
 le:=λh c=>Xf (Km a) (LZ a) (λc k=>Xl c k) h c
def Q9(h:Int)(d:kY)(w:gL):∃c:Cn,(c.Ok/\kh c<=3)/\c.sz<=30/\Bq a [.int h,.lst<|d.map .int,.str<|cw w]=.ok (hJ c):=
 Xe (λt c=>Xs t c) (λf k p o c h I j i=>XC (Kh a) I j i c h _) (λf k p o w I=>W6 (Kh a) I w _) h d w _
def shM(c:Cn)(h:c.Ok)(f:c.sz<=30):Bi a [c.d]=.ok (.str<|gm c.tx):=
 vB (a:=a) (Ft:=Bm a) (m:=30) (λt d i=>xX t d (by omega) 32<|av t.CV<|by omega) c h (by omega) (av c.aeD f) 32 (av c.CV<|by omega)
def whG(t:Tk)(lo c:Nat)(h:t.length<=1000)(f:c<=100000000):sH a [tS t,.int (lo:Nat),.int (c:Nat)]=mu a (kB t lo c):=by have:=Mb (a:=a) (λz k d=>E3 a z k d) (gm t) lo c (by rw[rO];omega) (Nat.lt_of_le_of_lt f<|by decide);rw[lL]at this;exact this
def rdM(mt:l0 a.iV a.NoText a.NoText=true):Rd a (yB a) (sH a) (t4 a) (yI a) where
 sp:=λj h=>XB j h
 wh:=λt lo f c i=>whG a t lo f c i
 wo:=λt c=>O5 a t c
 en:=λk T O d=>s_end O (Tz a O d 85).1
 mt:=mt
def rrM(d:l0 a.iV a.NoText a.NoText=true):BH a (wg a):=λc j i=>by
 have h:=Xu (rdM a d) c j i 0;show MK a (clo<|g7<|sX a (Zi a<|yB a) (Za a) (Zf a<|sH a) (Zr a (t4 a)<|yI a) 0 (ij 6 [.d<|tS c]) []) _;cases e:kN 1 [] none (gO 10 c)with
 |bad=>trivial
 |no n=>
  rw[e]at h;obtain⟨S,h|h⟩:=h;·exact .inl (by rw[h];rfl)
  ·exact .inr (by rw[h];rfl)
 |ok rs f=>rw[e]at h;obtain⟨S,h⟩:=h;show clo _=_;rw[h];rfl
def WZ(i:l0 a.iV a.NoText a.NoText=true):Lw a (Bp a) (Bl a) (wg a) (Bo a) (we a) (Bw a) (Bt a) (yF a) (Bv a) where
 bk:=λj h=>W2 (Jl a) (λh k=>Q9 a h k true) (λh=>Xm h) j h
 sh:=λL f h=>Xx h (λr d=>Xz (h.r r d)<|shM a r.2 (h.r r d).ok (h.r r d).sz) (λg v=>Xy<|h.f g v)
 rd:=rrM a i
 al:=λL f h=>BZ 60 _ (aaM h)
 ce:=Jl a
 st:=λz l o c=>XD l o c
 od:=λL f h p m c=>Xn h (λc=>Ma c) p m c
 no:=λc=>Ma c
 re:=λC x n q h=>Xr i q h
end
structure Tx(K:PySem.W.Frag)(mg:iY)(a:Ad):Prop where
 yQ:mg "abs"=none
 yR:mg "all"=none
 yS:mg "bool"=none
 wz:mg "enumerate"=none
 yT:mg "int"=none
 yU:mg "isinstance"=none
 uj:mg "len"=none
 yV:mg "list"=none
 wA:mg "max"=none
 wB:mg "range"=none
 yW:mg "str"=none
 yX:mg "tuple"=none
 uA:mT mg "FIGURES" (.str "0123456789")
 uF:mT mg "MOST_FIGURES" (.int 60)
 uL:mT mg "TOP_BOUND" (.int 1000000000)
 uz:mT mg "BOTTOM_BOUND" (.int 1000000)
 uD:mT mg "LETTERS" (.str "abcdefghijklmnopqrstuvwxyz")
 uG:mT mg "MOST_LETTERS" (.int 8)
 sV:vZ K mg "KEY_WORDS" [(.str "mark"),(.str "fill"),(.str "here"),(.str "back"),(.str "on"),(.str "at"),(.str "ago"),(.str "until"),(.str "abs"),(.str "and"),(.str "or"),(.str "not")]
 uK:mT mg "RUN_SIGNS" (.str "abcdefghijklmnopqrstuvwxyz0123456789/")
 uH:mT mg "MOST_PARTS" (.int 30)
 uE:mT mg "MOST_BRACKETS" (.int 16)
 uB:mT mg "LAST_PLACE" (.int 9)
 uI:mT mg "MOST_RULES" (.int 12)
 uC:mT mg "LAST_STEP" (.int 1000000)
 uJ:mT mg "MOST_STEPS" (.int 100)
 Qy:mg "WeatherError"=some (.ref a.WeatherError)
 IQ:mg "NoFraction"=some (.ref a.NoFraction)
 um:mg "NoText"=some (.ref a.NoText)
 IU:mg "Tokens"=some (.ref a.Tokens)
 tU:om K a.NoText a.mW "row"
 afj:t8 K a.WeatherError
 Pa:t8 K a.NoFraction
 Ha:qc K a.NoText
 afi:qc K a.WeatherError
 mI:mS K a.Tokens
 Ae:nL K a.Tokens "tokens"
 Ac:nL K a.Tokens "place"
 Ab:nL K a.Tokens "parts"
 xw:nL K a.Tokens "brackets"
 zQ:wa K a.iV
structure Pm(K:PySem.W.Frag)(a:Ad):Prop where
 p1:ix K "split_row" (at_ 29)
 p2:nJ K a.Tokens "__init__" "Tokens.__init__" (inClass (at_ 30) 0)
 p4:nJ K a.Tokens "take" "Tokens.take" (inClass (at_ 30) 2)
 p5:nJ K a.Tokens "expect" "Tokens.expect" (inClass (at_ 30) 3)
 p6:nJ K a.Tokens "expect_end" "Tokens.expect_end" (inClass (at_ 30) 4)
 p7:nJ K a.Tokens "begin_part" "Tokens.begin_part" (inClass (at_ 30) 5)
 p8:nJ K a.Tokens "enter" "Tokens.enter" (inClass (at_ 30) 6)
 p9:nJ K a.Tokens "leave" "Tokens.leave" (inClass (at_ 30) 7)
 ZI:ix K "only_figures" (at_ 6)
 ZJ:ix K "is_number" (at_ 7)
 ZK:ix K "read_whole" (at_ 8)
 ZL:ix K "common_divisor" (at_ 15)
 ZM:ix K "is_whole" (at_ 14)
 ZN:ix K "fraction" (at_ 13)
 ZO:ix K "show_fraction" (at_ 16)
 ZP:ix K "read_fraction" (at_ 17)
 ZQ:ix K "read_small_fraction" (at_ 18)
 ZR:ix K "is_word" (at_ 23)
 ZU:ix K "read_word" (at_ 24)
 ZV:ix K "read_sum" (at_ 41)
 ZY:ix K "read_product" (at_ 42)
 ZZ:ix K "read_single" (at_ 43)
 Z1:ix K "read_bracketed" (at_ 44)
 Z2:ix K "read_comparison" (at_ 40)
 Z3:ix K "read_or" (at_ 37)
 Z4:ix K "read_and" (at_ 38)
 Z5:ix K "read_not" (at_ 39)
 Z6:ix K "read_to_end" (at_ 36)
 Z7:ix K "read_fill" (at_ 47)
 Z8:ix K "read_rule" (at_ 46)
 Z9:ix K "read_rules" (at_ 45)
 p33:ix K "joined" (at_ 53)
 p34:ix K "show_tight" (at_ 52)
 p35:ix K "show_term" (at_ 51)
 p36:ix K "show_bound" (at_ 50)
 p37:ix K "show_condition" (at_ 49)
 p38:ix K "show_rule" (at_ 55)
 p39:ix K "show_fill" (at_ 56)
 p40:ix K "show_rules" (at_ 54)
 p41:ix K "_law_cell_at" (at_ 58)
 p42:ix K "_law_lowest" (at_ 59)
 p43:ix K "_law_fraction" (at_ 60)
 p44:ix K "_law_mast" (at_ 61)
 p45:ix K "_law_show" (at_ 62)
 p46:ix K "_law_leaf" (at_ 63)
 p47:ix K "_law_put" (at_ 64)
 p48:ix K "_law_sum" (at_ 65)
 p49:ix K "_law_over_term" (at_ 66)
 p50:ix K "_law_compared" (at_ 67)
 p51:ix K "_law_joined" (at_ 68)
 p52:ix K "_law_denied" (at_ 69)
 p53:ix K "_law_rest" (at_ 70)
 p54:ix K "_law_step" (at_ 71)
 p55:ix K "_law_ended" (at_ 72)
 p56:ix K "_law_condition" (at_ 73)
 p57:ix K "_law_name" (at_ 74)
 p58:ix K "_law_book" (at_ 75)
 p59:ix K "_law_none" (at_ 76)
 p60:ix K "_law_alike" (at_ 77)
 p61:ix K "_law_strewn" (at_ 78)
 p62:ix K "_law_refused" (at_ 79)
 p63:ix K "_law_odd" (at_ 80)
structure Cm(P:iQ)(w:iK)(K:PySem.W.Frag)(mg:iY)(base h:gU)(a:Ad):Prop where
 T:Tx K mg a
 W:Wt P w K mg base h
 q:Pm K a
 zL:∃fd,j7 P w K mg base pY 1 a.mW fd xl (xY a.NoText "row")/\Binds K fd xl []
 V1:InitM P w K mg base a.NoText a.mW "row" 0
 Mg:PySem.W.makesIn K a.Tokens=true/\PySem.W.keepIn K (.ref a.Tokens)=true
 d3:∃f fd dV,pB K "ahead" "Tokens.ahead" (inClass (at_ 30) 1) dV f fd/\∀k sp,kX P w K mg base k f fd xm sp->lK P w K mg base k a.Tokens "ahead" xm [] sp/\lK P w K mg base k a.Tokens "ahead" xm [.int 0] sp
section
variable{P:iQ}{w:iK}{K:PySem.W.Frag}{e:iY}{c h:gU}{a:Ad}(C:Cm P w K e c h a)
include C
set_option hygiene false in
local macro_rules|`(tactic|walk_at "h")=>`(tactic|first|assumption|exact oQ.u (by assumption)|exact lK.u (by assumption)|exact pZ.u (by assumption))
set_option hygiene false in
local macro_rules|`(tactic|walk_at "o")=>do let l←("DE _ _ _ _ @@@@:zc _ @|pH|zb|Jz Ep ? ? @@@|RI ? ? ? @@@|Ru|RF|RL ? @|Rz ? ? ? @@@|Rr ? ? @@|RH ? @|RG ? @|RD ? ? ? @@@|RA ? @|RE ? @|RK ? ? ? ? @@@@|Rv #3 hr rfl #4 rfl ? @@@@@@|Rx ? rfl #5 #6 ? @@@@@|Ry ? rfl #5 #6 ? @@@@@|RM rfl #5 #6 @@@|RN ? ? @@|RB rfl #7 @@|DN.de ? @|za cE PySem.F.slot_str_join PySem.F.type_str_join Ml ? ? @@@@@@|za cE d7 PySem.F.type_str_split XW ? ? @@@@@@|za cE PySem.F.slot_str_startswith PySem.F.type_str_startswith XY ? ? @@@@@@&DA _ _ _ _ @@@@:Rm|Rk ? ? @@&ZE _ _ _ _ @@@@:pX ? @|mQ _ @|afC ? @|afz ? ? ? @@@|afu Ep ? ? @@@|afB ? @|afy ? @|afq #3 hr rfl vi rfl ? @@@@@@|afp #3 hr rfl vi rfl ? @@@@@@|Pg #3 T.mI hr vi ? rfl @@@@@@|afx #3 T.mI hr vi ? ? rfl @@@@@@@|afA _ c4 PySem.F.slot_list_pop PySem.F.type_list_pop @@@@|afr hr.units ? ? @@@|afv rfl rfl T.uj wF ? @@@@@&ZA _ _ _ _ @@@@:Pe|Pd ? ? @@&nI _ _ _ _ @@@@:Sz _ ? @@|SD ? @|Sy ? ? @@|SA&nN _ _ _ _ _ @@@@@:afW ? @|afU ? ? @@|afV&ZS _ _ _ _ _ @@@@@:afN _ ? @@|afR _ mJ rfl Or.inl rfl @ ? @@@@@|afQ ? @|afO ? ? ? @@@|afK ? @|afH _ c4 c5 dM ? @@@@@|afP #8 @|afT #9 vj ? ? @@@@&DT _ _ _ _ @@@@:SF ? ? ? @@@|SH ? @|SJ ? @|DW.dt ? @&DS _ _ _ _ @@@@:Su _ mJ rfl Or.inl rfl @ ? @@@@@|Ss ? @|Sn ? ? ? @@@|JP T.tU KW IC hr.mono #1 @ rfl T.um ? @@@@@@@|#10|So _ mJ rfl Or.inl rfl @ ? @@@@@|Sv _ mJ rfl Or.inl rfl @ CT ? #11 #11 #12 #13 #14 @@@@@@ @@@@@|Sq _ mJ rfl Or.inl rfl @ CT ? #11 #11 #12 #13 #14 @@@@@@ @@@@@|Sx wC vj ? ? @@@@&DN _ _ _ _ @@@@:Sb ? @|Sa ? #11 #11 #12 #13 #14 @@@@@@&ZT _ _ _ _ @@@@:afY ? @|afX ? ? ? @@@|afZ ? @&DW _ _ _ _ @@@@:SR ? ? @@|SO ? ? @@|SS ? @|SQ ? @&:R6|R5 ? ? @@|Sg ? @|RY ? @|JE|RP ? @|QM T.zQ @|YY hr.units @|R1 rfl T.wB ? @@@&w:YN|YR|Zh|YT|Jc|YX|Zo|Zs|Zz|QQ|Zg|adn|Ml|Jb|QE|Y9|zN|MG|YV|Y6|Zw|ae1|QK|Mm".splitOn "&").toArray.mapM mR3;`(tactic|repeat' first $[|$l:tactic]*)
set_option hygiene false in
local macro_rules|`(tactic|walk_at "g")=>`(tactic|(have T:=C.T;obtain⟨_,KW,IC⟩:=C.zL;have Ut:=C.V1;(first|refine TJ F (by kernel_rfl) fun mJ cdv A outer s H E hr=>?_|((try refine j7.cl ?_);refine TU F (by kernel_rfl) fun mJ b cdv A outer s H E hr=>?_)|refine TQ F (by kernel_rfl) fun mJ b cdv A outer s H E hr=>?_);walk_at "o"))
set_option hygiene false in
local macro_rules|`(tactic|walk_at "f")=>`(tactic|((first|refine ix.has p C.W fun _ _ F=>?_|refine nJ.has p C.W fun _ _ F=>?_);walk_at "g"))
theorem UK:ik P w K e c 1 "split_row" ["text"] (iJ 1 K<|yB a):=by have p:=C.q.p1;walk_at "f"
theorem VP:pZ P w K e c 2 a.Tokens ["self","text"] (jv 2 K<|Ic a):=by have:=UK C;refine C.q.p2.UN C.W C.Mg.1 C.Mg.2 λ_ _ F=>?_;walk_at "g";exact A5 T.mI T.Ae (mQ 0) (by walk_at "o");exact A5 T.mI T.Ac (mQ 0) (pX pH);exact A5 T.mI T.Ab (mQ 0) (pX pH);exact A5 T.mI T.xw (mQ 0) (pX pH)
theorem qP:lK P w K e c 1 a.Tokens "ahead" ["self","places"] [] (jv 2 K (pC a))/\lK P w K e c 1 a.Tokens "ahead" ["self","places"] [.int 0] (jv 2 K (pC a)):=by obtain⟨_,_,_,F,d⟩:=C.d3;refine d _ _ ?_;walk_at "g";exact ym T.mI T.Ac (mQ 0);exact aft (by walk_at "o";exact Pf Jc rfl T.uj wF (Pd (ym T.mI T.Ae (mQ 0)) Pe)) (by walk_at "o";exact ym T.mI T.Ae (mQ 0)) (pX zb)
theorem td:lK P w K e c 3 a.Tokens "take" ["self"] [] (jv 1 K<|rB a):=by have:=(qP C).2;have p:=C.q.p4;walk_at "f";exact A6 zN T.mI T.Ac (mQ 0) (pX pH)
theorem rM:lK P w K e c 4 a.Tokens "expect" ["self","token"] [] (jv 2 K<|qF a):=by have:=td C;have p:=C.q.p5;walk_at "f"
theorem Lc:lK P w K e c 3 a.Tokens "expect_end" ["self"] [] (jv 1 K<|BB a):=by have:=(qP C).2;have p:=C.q.p6;walk_at "f"
theorem sZ:lK P w K e c 3 a.Tokens "begin_part" ["self"] [] (jv 1 K<|rA a):=by have p:=C.q.p7;walk_at "f";exact A6 zN T.mI T.Ab (mQ 0) (pX pH);exact ym T.mI T.Ab (mQ 0)
theorem Lb:lK P w K e c 5 a.Tokens "enter" ["self","bracket"] [] (jv 2 K<|BA a):=by have:=rM C;have p:=C.q.p8;walk_at "f";exact A6 zN T.mI T.xw (mQ 0) (pX pH);exact ym T.mI T.xw (mQ 0)
theorem Ld:lK P w K e c 5 a.Tokens "leave" ["self","bracket"] [] (jv 2 K<|BC a):=by have:=rM C;have p:=C.q.p9;walk_at "f";exact A6 V6 T.mI T.xw (mQ 0) (pX pH)
theorem UB:ik P w K e c 1 "only_figures" ["text"] (iJ 1 K<|HN a):=by have p:=C.q.ZI;walk_at "f";exact y6 rfl
theorem KH:ik P w K e c 2 "is_number" ["text","most_figures"] (iJ 2 K<|yA a):=by have:=UB C;have p:=C.q.ZJ;walk_at "f";exact RJ (by walk_at "o") (by walk_at "o")
theorem K8:ik P w K e c 3 "read_whole" ["text","least","most"] (iJ 3 K<|sH a):=by have:=KH C;have p:=C.q.ZK;walk_at "f"
theorem Uw:ik P w K e c 1 "common_divisor" ["one","other"] (iJ 2 K<|HJ a):=by have p:=C.q.ZL;walk_at "f"
theorem Uy:ik P w K e c 1 "is_whole" ["thing"] (iJ 1 K<|HL a):=by have p:=C.q.ZM;walk_at "f"
theorem Ux:ik P w K e c 3 "fraction" ["top","bottom"] (iJ 2 K<|HK a):=by have:=Uy C;have:=Uw C;have p:=C.q.ZN;walk_at "f";exact Sr dE T.Pa.cls rfl T.IQ
theorem KJ:ik P w K e c 1 "show_fraction" ["one"] (iJ 1 K<|Bj a):=by have p:=C.q.ZO;walk_at "f"
theorem VF:ik P w K e c 4 "read_fraction" ["text"] (iJ 1 K<|By a):=by have:=KH C;have:=Ux C;have:=KJ C;have p:=C.q.ZP;walk_at "f";exact CU;exact y6 rfl
theorem K7:ik P w K e c 5 "read_small_fraction" ["text"] (iJ 1 K<|yH a):=by have:=VF C;have p:=C.q.ZQ;walk_at "f"
theorem Uz:ik P w K e c 1 "is_word" ["thing"] (iJ 1 K<|HM a):=by have p:=C.q.ZR;walk_at "f";exact y6 rfl;exact MH hr.units;exact RC rfl T.sV
theorem K9:ik P w K e c 3 "read_word" ["text"] (iJ 1 K<|t4 a):=by have:=Uz C;have p:=C.q.ZU;walk_at "f"
theorem Tu:∀n:Nat,ik P w K e c (5+n) "read_sum" oY (jv 1 K (oy a n).1)/\ik P w K e c (5+n) "read_product" oY (jv 1 K (oy a n).2.1)/\ik P w K e c (5+n) "read_single" oY (jv 1 K (oy a n).2.2.1)/\ik P w K e c (5+n) "read_bracketed" oY (jv 1 K (oy a n).2.2.2):=by
 obtain⟨_,_,I,v,o,j⟩:=C.q.ZV.get C.W ["tokens"];obtain⟨_,_,G,r,m,i⟩:=C.q.ZY.get C.W ["tokens"];obtain⟨_,_,D,q,l,f⟩:=C.q.ZZ.get C.W ["tokens"];obtain⟨_,_,z,p,k,d⟩:=C.q.Z1.get C.W ["tokens"];intro n;induction n with
 |zero=>exact⟨⟨_,_,sT,v,o,j⟩,⟨_,_,sT,r,m,i⟩,⟨_,_,sT,q,l,f⟩,⟨_,_,sT,p,k,d⟩⟩
 |succ n J=>
  obtain⟨O,N,M,L⟩:=J;refine⟨⟨_,_,?_,v,o,j⟩,⟨_,_,?_,r,m,i⟩,⟨_,_,?_,q,l,f⟩,⟨_,_,?_,p,k,d⟩⟩;·have F:=I;have:=(qP C).2;have:=td C;have:=sZ C;walk_at "g"
  ·have F:=G;have:=K7 C;have:=(qP C).1;have:=td C;have:=rM C;have:=sZ C;walk_at "g"
  ·have F:=D;have:=K8 C;have:=K9 C;have:=K7 C;have:=(qP C).2;have:=sZ C;have:=td C;walk_at "g"
  ·have F:=z;have:=Lb C;have:=Ld C;walk_at "g"
theorem VI:ik P w K e c 80 "read_sum" oY (jv 1 K<|Ib a):=(Tu C 75).1
theorem VD:ik P w K e c 81 "read_comparison" oY (jv 1 K<|HY a):=by have:=VI C;have:=sZ C;have:=td C;have p:=C.q.Z2;walk_at "f";exact MH hr.units
theorem Tv:∀n:Nat,ik P w K e c (81+n) "read_or" oY (jv 1 K (pK a n).1)/\ik P w K e c (81+n) "read_and" oY (jv 1 K (pK a n).2.1)/\ik P w K e c (81+n) "read_not" oY (jv 1 K (pK a n).2.2):=by
 obtain⟨_,_,v,p,l,i⟩:=C.q.Z3.get C.W ["tokens"];obtain⟨_,_,r,o,k,f⟩:=C.q.Z4.get C.W ["tokens"];obtain⟨_,_,q,m,j,d⟩:=C.q.Z5.get C.W ["tokens"];intro n;induction n with
 |zero=>exact⟨⟨_,_,sT,p,l,i⟩,⟨_,_,sT,o,k,f⟩,⟨_,_,sT,m,j,d⟩⟩
 |succ n z=>
  obtain⟨I,G,D⟩:=z;refine⟨⟨_,_,?_,p,l,i⟩,⟨_,_,?_,o,k,f⟩,⟨_,_,?_,m,j,d⟩⟩;·have F:=v;have:=(qP C).2;have:=rM C;have:=sZ C;walk_at "g"
  ·have F:=r;have:=(qP C).2;have:=rM C;have:=sZ C;walk_at "g"
  ·have F:=q;have:=VD C;have:=(qP C).2;have:=rM C;have:=sZ C;have:=Lb C;have:=Ld C;walk_at "g"
theorem VG:ik P w K e c 166 "read_or" oY (jv 1 K<|H7 a):=(Tv C 85).1
theorem VJ:ik P w K e c 167 "read_to_end" oY (jv 1 K<|yI a):=by have:=VG C;have:=Lc C;have p:=C.q.Z6;walk_at "f"
theorem VE:ik P w K e c 5 "read_fill" oY (jv 1 K<|HZ a):=by have:=K8 C;have:=rM C;have:=td C;have:=Lc C;have p:=C.q.Z7;walk_at "f"
theorem VH:ik P w K e c 168 "read_rule" ["tokens","rules"] (jv 2 K<|Ia a):=by have:=K9 C;have:=VJ C;have:=rM C;have:=td C;have p:=C.q.Z8;walk_at "f"
theorem K6:ik P w K e c 169 "read_rules" ["text"] (iJ 1 K<|wg a):=by have:=VE C;have:=VH C;have:=VP C;have:=(qP C).2;have p:=C.q.Z9;walk_at "f";exact afM vj rfl rfl T.wz (by walk_at "o") (afE rfl<|Ph (Hx 3 mJ rfl<|Or.inl rfl)<|Ph (Hx 4 mJ rfl<|Or.inl rfl) afF) (by walk_at "o";exact za cE PySem.F.slot_str_strip PySem.F.type_str_strip Mm (zc 4) (by walk_at "o");exact afJ;exact afw (by walk_at "h") hr rfl T.IU vi (by walk_at "o") rfl;exact afS 3 (l0 a.iV a.NoText) (afn (by walk_at "o";exact Pg (by walk_at "h") T.mI hr MP (mQ 5) rfl) (afo 2 mJ rfl (Or.inl rfl)<|Pn (by walk_at "h") hr rfl rfl<|by walk_at "o")<|afm 1 c4 c5 dM<|Pn (by walk_at "h") hr rfl rfl<|by walk_at "o") (Mj T.zQ T.Ha) rfl T.um T.tU Ut (hr.mono<|by decide) rfl T.um)
theorem KI:ik P w K e c 1 "joined" ["left","sign","right"] (iJ 3 K<|Bh a):=by have p:=C.q.p33;walk_at "f"
theorem UJ{k:Nat}{d:gw}(f:ik P w K e c k "show_term" ["term"]<|iJ 1 K d):ik P w K e c (k+1) "show_tight" ["term","loose"] (iJ 2 K<|Ii a d):=by have p:=C.q.p34;walk_at "f"
theorem UI:ik P w K e c 65 "show_term" ["term"] (iJ 1 K (Bm a)):=by obtain⟨_,_,F,b,k,m⟩:=C.q.p35.get C.W ["term"];exact⟨_,_,AB (k0:=1) (st:=2) (F0:=Ih a) (hn:=rfl) (λo=>⟨_,_,o,b,k,m⟩) (λi k f d=>by have:=UJ C d;have:=KI C;have:=KJ C;walk_at "g") 32,b,k,m⟩
theorem UC{k:Nat}{d:gw}(f:ik P w K e c k "show_condition" ["condition"]<|iJ 1 K d):ik P w K e c (k+1) "show_bound" ["condition","loose"] (iJ 2 K<|Ie a d):=by have p:=C.q.p36;walk_at "f"
theorem UD:ik P w K e c 129 "show_condition" ["condition"] (iJ 1 K (Bi a)):=by obtain⟨_,_,F,b,k,m⟩:=C.q.p37.get C.W ["condition"];exact⟨_,_,AB (k0:=65) (st:=2) (F0:=Ig a) (hn:=rfl) (λo=>⟨_,_,o,b,k,m⟩) (λi k f d=>by have:=UC C d;have:=KI C;have:=UI C;walk_at "g") 32,b,k,m⟩
theorem UG:ik P w K e c 130 "show_rule" ["rule"] (iJ 1 K<|HQ a):=by have:=UD C;have p:=C.q.p38;walk_at "f"
theorem UE:ik P w K e c 1 "show_fill" ["fill"] (iJ 1 K<|HP a):=by have p:=C.q.p39;walk_at "f"
theorem UH:ik P w K e c 131 "show_rules" ["book"] (iJ 1 K<|Bl a):=by have:=UG C;have:=UE C;have p:=C.q.p40;walk_at "f"
theorem KY:ik P w K e c 1 "_law_cell_at" ["_law_script","_law_k"] (iJ 2 K<|we a):=by have p:=C.q.p41;walk_at "f"
theorem Vh:ik P w K e c 1 "_law_lowest" ["_law_top","_law_bottom"] (iJ 2 K<|HS a):=by have p:=C.q.p42;walk_at "f"
theorem K0:ik P w K e c 2 "_law_fraction" ["_law_cell"] (iJ 1 K<|yD a):=by have:=Vh C;have p:=C.q.p43;walk_at "f"
theorem Vi:ik P w K e c 1 "_law_mast" ["_law_cell","_law_k"] (iJ 2 K<|HU a):=by have p:=C.q.p44;walk_at "f"
theorem K3:ik P w K e c 1 "_law_show" ["_law_one"] (iJ 1 K<|yG a):=by have p:=C.q.p45;walk_at "f"
theorem Vg:ik P w K e c 3 "_law_leaf" ["_law_head","_law_cell"] (iJ 2 K<|Bs a):=by have:=K0 C;have:=K3 C;have:=Vi C;have p:=C.q.p46;walk_at "f"
theorem zJ:ik P w K e c 1 "_law_put" ["_law_one","_law_least","_law_brackets"] (iJ 3 K<|tZ a):=by have p:=C.q.p47;walk_at "f"
theorem Vq:ik P w K e c 2 "_law_sum" ["_law_one","_law_other","_law_sign"] (iJ 3 K<|Bx a):=by have:=zJ C;have p:=C.q.p48;walk_at "f"
theorem Vl:ik P w K e c 3 "_law_over_term" ["_law_one","_law_cell"] (iJ 2 K<|Bu a):=by have:=K0 C;have:=K3 C;have:=zJ C;have p:=C.q.p49;walk_at "f"
theorem KZ:ik P w K e c 1 "_law_compared" ["_law_one","_law_other","_law_sign"] (iJ 3 K<|yC a):=by have p:=C.q.p50;walk_at "f"
theorem K1:ik P w K e c 2 "_law_joined" ["_law_one","_law_other","_law_word"] (iJ 3 K<|yE a):=by have:=zJ C;have p:=C.q.p51;walk_at "f";exact Ja
theorem Ve:ik P w K e c 2 "_law_denied" ["_law_one"] (iJ 1 K<|Br a):=by have:=zJ C;have p:=C.q.p52;walk_at "f"
theorem Vn:ik P w K e c 1 "_law_rest" ["_law_terms","_law_conds"] (iJ 2 K<|HW a):=by have p:=C.q.p53;walk_at "f";exact Je rfl;exact Ja
theorem Vo:ik P w K e c 4 "_law_step" ["_law_state","_law_cell","_law_head"] (jv 3 K<|HX a):=by have:=Vq C;have:=Vl C;have:=KZ C;have:=Ve C;have:=K1 C;have:=Vg C;have p:=C.q.p54;walk_at "f";exact ZW.zt (Pl (by walk_at "o")<|Pl (by walk_at "o")<|af0<|by walk_at "o");exact Pk hr.units (mQ 0) zb (by walk_at "o");exact Pk hr.units (mQ 0) zb (by walk_at "o")
theorem Vf:ik P w K e c 3 "_law_ended" ["_law_state","_law_word"] (jv 2 K<|HR a):=by have:=KZ C;have:=K1 C;have p:=C.q.p55;walk_at "f"
theorem Vd:ik P w K e c 5 "_law_condition" ["_law_head","_law_cells","_law_word"] (iJ 3 K<|Bq a):=by have:=Vn C;have:=Vo C;have:=Vf C;have p:=C.q.p56;walk_at "f";exact afs (A4 (by walk_at "o")<|A4 (by walk_at "o")<|A4 (pX pH)<|A4 (pX pH) afG);exact afL vj rfl (by walk_at "o") (Hx 4 mJ rfl<|Or.inl rfl) (by walk_at "o";exact Pf (Je rfl) rfl T.wA yZ (by walk_at "o");exact afI)
theorem Vj:ik P w K e c 1 "_law_name" ["_law_cell","_law_k"] (iJ 2 K<|HV a):=by have p:=C.q.p57;walk_at "f"
theorem Vc:ik P w K e c 6 "_law_book" ["_law_script"] (iJ 1 K<|Bp a):=by have:=KY C;have:=Vd C;have:=Vj C;have p:=C.q.p58;walk_at "f";exact JO vj rfl (by walk_at "o") (ur 5 mJ rfl<|Or.inl rfl) (by walk_at "o")
theorem K2:ik P w K e c 1 "_law_none" ["_law_cell"] (iJ 1 K<|yF a):=by have p:=C.q.p59;walk_at "f"
theorem Vb:ik P w K e c 60 "_law_alike" ["_law_found","_law_due"] (iJ 2 K (Bo a)):=by obtain⟨_,_,F,b,k,m⟩:=C.q.p60.get C.W ["_law_found","_law_due"];exact⟨_,_,AB (k0:=0) (st:=1) (F0:=Ij a) (hn:=rfl) (λo=>⟨_,_,o,b,k,m⟩) (λi k d f=>by walk_at "g";exact y6 rfl;exact qD.dn (Sf (Nt:=["_law_k"]) (tn:=1) (x:="_law_due") (y:="_law_found") 1 0 [(".0",.local),("_law_k",.local),("_law_alike",.globalImplicit),("_law_due",.cell),("_law_found",.cell)] (by decide) rfl (by walk_at "o") (λ_ _ _ _=>ur 0 (show List.Nodup (["_law_k","_law_due","_law_found"]:gi gp)from by decide+kernel) rfl (Or.inl rfl)) (by simp) (λ_ _ _ _=>JE) (λ_ _ _ _=>by walk_at "o") rfl (by decide+kernel) (by decide+kernel) rfl rfl rfl rfl rfl rfl rfl rfl rfl (by decide+kernel) (by decide+kernel))) 60,b,k,m⟩
theorem Vp:ik P w K e c 1 "_law_strewn" ["_law_lines","_law_cell"] (iJ 2 K<|Bw a):=by have p:=C.q.p61;walk_at "f";exact JO vj rfl (by walk_at "o") (ur 3 mJ rfl<|Or.inl rfl) (by walk_at "o";exact Sk 5 4 1 3 rfl mJ rfl rfl rfl rfl (by decide) rfl rfl (by decide) (by decide+kernel) (by decide+kernel) rfl rfl rfl rfl (by decide) (by decide) rfl rfl rfl rfl)
theorem Vm:ik P w K e c 170 "_law_refused" ["_law_lines","_law_due"] (iJ 2 K<|Bv a):=by have:=K6 C;have p:=C.q.p62;walk_at "f";exact Sw 3 (l0 a.iV a.NoText) rfl rfl mJ rfl rfl (Rn<|SW (by walk_at "h") hr rfl rfl<|by walk_at "o") (λ_=>by walk_at "o";exact RO T.tU (zc 3) rfl) (Mj T.zQ T.Ha) rfl T.um
theorem Vk:ik P w K e c 2 "_law_odd" ["_law_lines","_law_place","_law_cell","_law_book_here"] (iJ 4 K<|Bt a):=by have:=K2 C;have p:=C.q.p63;walk_at "f"
theorem UA{f:gr}{d:kP}(F:mD K "law" "law" (at_ 81) f d):kX P w K e c 171 f d ["_law_script"] (iJ 1 K<|PX a):=by have:=Vc C;have:=UH C;have:=K6 C;have:=Vb C;have:=KY C;have:=Vp C;have:=Vk C;have:=K2 C;have:=Vm C;walk_at "g";exact Sm (by walk_at "o") (RU rfl<|JF (ur 1 mJ rfl<|Or.inl rfl)<|JF (ur 2 mJ rfl<|Or.inl rfl) RV);exact CU;exact CU
end
def all_mk{l:PySem.W.OpenLaw}{w:iK}{K:PySem.W.Frag}{h:gU}{mg:iY}{fa f3 C5 f j i m mW Y:gr}(X:K.In h)(G:h.Ns mainGlobals mg)(hfa:mg "law"=some (.ref fa))
    {YB Qd YC Ir YD Qe:kD}{sl3 adk adl:sM}{Yy Ws Ro pm3 Jh Rb Yz Ls Jy M1 CA Ju YA Wu Rp aaQ Ji Rc:gE}
    {Jx:gr}{Rq:kD}{R9:Nat}{Si:sM}{JG aeh aem aes aeg aek aen aer aeo ael aei aep aej aeq:Tok}
    {SE:kD}{adz:sM}{Yq:Nat}{U P O N M L J I F z p n:Tok}
    (a64:lz K "law"<|.ref C5)
    (EA:K.lookup C5=some ⟨Yz,YC,.func<|fo "law" "law" (at_ 81) .none Ls Jy M1 Ir CA Ju,adk⟩)(Cu:PySem.W.codeIn K CA "law"=true)(Es:PySem.W.keepIn K (.ref C5)=true)
    (BV:lz K "WeatherError"<|.ref f)
    (BR:lz K "NoFraction"<|.ref j)
    (BS:lz K "NoText"<|.ref i)
    (BU:lz K "Tokens"<|.ref m)
    (zL:PySem.W.findIn K (.ref i) "__init__"=some (some<|.ref mW))
    (EB:K.lookup mW=some ⟨YA,YD,.func<|fo "__init__" "NoText.__init__" FY .none Wu Rp aaQ Qe Ji Rc,adl⟩)(Cv:PySem.W.codeIn K Ji "NoText.__init__"=true)(Et:PySem.W.keepIn K (.ref mW)=true)
    (G2:zj K i mW [.type "ValueError",.type "Exception",.type "BaseException",.type "object"] "ValueError.__new__"=true)(G3:PySem.W.isFn K (.ref mW)=true)(G4:PySem.W.keepIn K (.ref i)=true)(G5:ry K i "__setattr__" "object.__setattr__")(G6:ry K i "__getattribute__" "BaseException.__getattribute__")(G7:rz K i "__getattr__")(G8:rz K i "row")
    (CD:PySem.W.plainGet K m Str.empty=true)(CF:PySem.W.hasDictIn K m=true)(CG:PySem.W.plainOver K m=true)(CH:ry K m "__setattr__" "object.__setattr__")(CI:PySem.W.makesIn K m=true)(CJ:PySem.W.keepIn K (.ref m)=true)
    (Z:rz K m "tokens")
    (CL:rz K m "place")
    (CK:rz K m "parts")
    (V:rz K m "brackets")
    (a3:PySem.W.findIn K (.ref m) "ahead"=some (some<|.ref f3))(n3:PySem.W.isFn K (.ref f3)=true)
    (l3:K.lookup f3=some ⟨Yy,YB,.func<|fo "ahead" "Tokens.ahead" (inClass (at_ 30) 1) (.ref Jx) Ws Ro pm3 Qd Jh Rb,sl3⟩)(c3:PySem.W.codeIn K Jh "Tokens.ahead"=true)(k3:PySem.W.keepIn K (.ref f3)=true)
    (d3:K.lookup Jx=some ⟨.type "tuple",Rq,.seq #[.int 0 JG] R9,Si⟩)
    (Hu:PySem.W.excIn K f [.type "ValueError",.type "Exception",.type "BaseException",.type "object"] "ValueError.__new__"=true)(Hz:PySem.W.keepIn K (.ref f)=true)(Hw:ry K f "__getattribute__" "BaseException.__getattribute__")(HB:rz K f "__getattr__")
    (Ht:PySem.W.excIn K j [.type "ValueError",.type "Exception",.type "BaseException",.type "object"] "ValueError.__new__"=true)(Hy:PySem.W.keepIn K (.ref j)=true)(Hv:ry K j "__getattribute__" "BaseException.__getattribute__")(HA:rz K j "__getattr__")
    (Hr:ry K j "__class__" "object.__class__")
    (A3:ry K i "__class__" "object.__class__")
    (Hs:ry K f "__class__" "object.__class__")
    (Fy:PySem.W.kitOne K (.ref i) (.ref i)=some true)
    (uA:lz K "FIGURES"<|.str "0123456789" aeh)
    (uF:lz K "MOST_FIGURES"<|.int 60 aem)
    (uL:lz K "TOP_BOUND"<|.int 1000000000 aes)
    (uz:lz K "BOTTOM_BOUND"<|.int 1000000 aeg)
    (uD:lz K "LETTERS"<|.str "abcdefghijklmnopqrstuvwxyz" aek)
    (uG:lz K "MOST_LETTERS"<|.int 8 aen)
    (uK:lz K "RUN_SIGNS"<|.str "abcdefghijklmnopqrstuvwxyz0123456789/" aer)
    (uH:lz K "MOST_PARTS"<|.int 30 aeo)
    (uE:lz K "MOST_BRACKETS"<|.int 16 ael)
    (uB:lz K "LAST_PLACE"<|.int 9 aei)
    (uI:lz K "MOST_RULES"<|.int 12 aep)
    (uC:lz K "LAST_STEP"<|.int 1000000 aej)
    (uJ:lz K "MOST_STEPS"<|.int 100 aeq)
    (sV:lz K "KEY_WORDS"<|.ref Y)
    (EJ:K.lookup Y=some ⟨.type "tuple",SE,.seq #[.str "mark" U,.str "fill" P,.str "here" O,.str "back" N,.str "on" M,.str "at" L,.str "ago" J,.str "until" I,.str "abs" F,.str "and" z,.str "or" p,.str "not" n] Yq,adz⟩)
    (Hd:oh K "abs")(He:oh K "all")(Hg:oh K "bool")(Hh:oh K "enumerate")(Hi:oh K "int")(Hj:oh K "isinstance")(Hk:oh K "len")(Hl:oh K "list")(Hm:oh K "max")(Hn:oh K "range")(Ho:oh K "str")(Hq:oh K "tuple")(pm:Pm K {WeatherError:=f,NoFraction:=j,NoText:=i,Tokens:=m,mW:=mW,iV:=isF K [i]}):
    ∃fd:kP,(∀(s:gQ) (v:gE),BindsTo s fd ⟨[v],[]⟩ [("_law_script",v)])/\∀base:gU,K.In base->base.Ns mainGlobals mg->BM mg base->j7 l.prog w K mg base (iu l.prog w) 171 fa fd ["_law_script"] (F5 K):=by
 have e:=hfa.symm.trans (PySem.W.mg_of X G a64);cases e;have BQ:om K i mW "row":=⟨G2,G3,G4,G5,G6,G7,G8⟩;have r:t8 K f:=⟨Hu,Hz,Hw,HB,Hs⟩;have P6:t8 K j:=⟨Ht,Hy,Hv,HA,Hr⟩;have IS:wa K (isF K [i]):=We λc hc=>by simp only[aT,List.not_mem_nil,or_false]at hc;rcases hc with rfl;·exact BQ.y A3
 have W:Wt l.prog w K mg h h:=⟨X,G⟩;obtain⟨a,ea⟩:∃a:Ad,a={WeatherError:=f,NoFraction:=j,NoText:=i,Tokens:=m,mW:=mW,iV:=isF K [i]}:=⟨_,rfl⟩;have T:Tx K mg a:=by subst ea;exact {yQ:=W.n Hd,yR:=W.n He,yS:=W.n Hg,wz:=W.n Hh,yT:=W.n Hi,yU:=W.n Hj,uj:=W.n Hk,yV:=W.n Hl,wA:=W.n Hm,wB:=W.n Hn,yW:=W.n Ho,yX:=W.n Hq,uA:=.str (W.g uA),uF:=.int (W.g uF),uL:=.int (W.g uL),uz:=.int (W.g uz),uD:=.str (W.g uD),uG:=.int (W.g uG),uK:=.str (W.g uK),uH:=.int (W.g uH),uE:=.int (W.g uE),uB:=.int (W.g uB),uI:=.int (W.g uI),uC:=.int (W.g uC),uJ:=.int (W.g uJ),sV:=vZ.strs (l:=[("mark",U),("fill",P),("here",O),("back",N),("on",M),("at",L),("ago",J),("until",I),("abs",F),("and",z),("or",p),("not",n)]) (W.g sV) EJ (by show 12<=sizeLine;decide),Qy:=W.g BV,IQ:=W.g BR,um:=W.g BS,IU:=W.g BU,tU:=BQ,afj:=r,Pa:=P6,Ha:=BQ.y A3,afi:=r.y,mI:=⟨CD,CF,CG,CH⟩,Ae:=Z,Ac:=CL,Ab:=CK,xw:=V,zQ:=IS}
 rw[<-ea]at pm;have ei:a.iV=isF K [i]:=by rw[ea]
 have S6:a.WeatherError=f:=by rw[ea]
 have SY:a.NoFraction=j:=by rw[ea]
 have S4:a.NoText=i:=by rw[ea]
 have S5:a.Tokens=m:=by rw[ea]
 have Ta:a.mW=mW:=by rw[ea]
 clear ea;subst S6;subst SY;subst S4;subst S5;subst Ta;have F3:=Kn (st:=(inClass (at_ 30) 1)) l3 c3 k3;have Qi:=F3.IJ (ps:=xm) (ds:=[]) d3 rfl λ_ _ _ _ _ _ us hl=>match us,hl with|[_,_],_=>⟨_,rfl,rfl⟩
 have Qj:=F3.IJ (ps:=xm) (ds:=[.int 0 JG]) d3 rfl λ_ _ _ _ _ _ us hl=>match us,hl with|[_],_=>⟨_,rfl,rfl⟩
 have Pw:=Dc (st:=(at_ 81)) EA Cu Es;have A8:=Dc (st:=FY) EB Cv Et;have IA:=A8.binds (ps:=xl) (Bd.o<|by exact λ_ _ _ _ _ _ _=>rfl);refine⟨PySem.W.fnOf "law" "law" (ny<|at_ 81) (kx<|at_ 81) (iz<|at_ 81) .none Ls Jy M1 Ir CA Ju,λs v=>.of_eq rfl,λbase _ _ bm=>?_⟩;have C:Cm l.prog w K mg base h a:=⟨T,⟨X,G⟩,pm,⟨_,YH (k:=0) (body:=[]) T.tU A8 N8 rfl rfl rfl rfl rfl,IA⟩,Wa (k:=0) T.tU A8 N8 rfl rfl rfl rfl rfl IA,⟨CI,CJ⟩,⟨_,_,_,F3,λ_ _ o=>⟨⟨f3,_,_,[],o,Qi,.nil,λ_ _=>.nil,⟨a3,n3,k3⟩⟩,⟨f3,_,_,[.int 0],o,Qj,(.cons ⟨_,rfl⟩ .nil),λ_ _=>(.cons (.int _) .nil),⟨a3,n3,k3⟩⟩⟩⟩⟩;have Yx:=UA C Pw;refine Yx.imp λvs H Q E q=>?_;obtain⟨al,ns,hl,fr,hn,rv,tt,q⟩:=q;refine⟨hl,tt,al,_,fr,rv,?_⟩;have A:Aft K al E H (R.ok<|D.bl true) (λd H'=>∀v,Rep K al H' v d->Q v H'):=λH' sm v rv=>by cases rv;exact q H' sm
 have mt:l0 a.iV a.NoText a.NoText=true:=by unfold l0;rw[ei,Wd Fy<|by simp];rfl
 rw[<-Xd (WZ _ mt) ns hn]at A;exact A
def walk{l:PySem.W.OpenLaw}{q:iQ}{m:iH}{XP:(iY)->gU->Prop}{N:iK->gU->Prop}{d:DefRec}{K:Params->PySem.W.Frag}(P:l.most=some 63)(I:d.params.defaults=[])
    (V:∀(w:iK) (h:gU),N w h->(K w.params).In h)(hT:∀w:iK,(l6<|K w.params).all (λt=>((PyProof.Rows.recsOf q).find? λe=>e.name==t.1).isSome)=true)(hN:∀w:iK,PySem.W.noTabs (K w.params)=true)
    (F:∀(w:iK) (k:iY) (r:gr) (h:gU),(K w.params).In h->h.Ns mainGlobals k->k d.name=some (.ref r)->
      ∃J:kP,(∀(s:gQ) (u:gE),BindsTo s J ⟨[u],[]⟩ [("_law_script",u)])/\∀c:gU,(K w.params).In c->c.Ns mainGlobals k->BM k c->j7 l.prog w (K w.params) k c (iu l.prog w) 171 r J ["_law_script"] (F5 (K w.params))):
    PySem.W.WalkO q m XP N l.row.toRowW d [] (λf C=>PySem.call f C):=by
 refine HD.Qh P I λw M L k mb r o pm cd doc a C ns G Y ho hd T D i p j R=>?_;have v:=V w _ Y;obtain⟨J,U,hF⟩:=F w k r _ v G.T.g D;refine WG v G.T.g G.T.b G.T.builtins G.T.nolimit R i p (av j<|by decide) ⟨rfl,by decide,by decide⟩ (aez G.T v<|hT w) (hN w) G.T.bmain hF U (λH O Z=>adv j O ?_) λH e s' h=>?_
 ·rcases Z with h|⟨o,Eo,n,h1,h2,h3,h4,h5,h6⟩;·exact .lst (.inl ⟨trivial,h⟩) (FQ _)
  ·have e:=v a o h1;rw[i]at e;cases e;cases h4;exact .lst (.inr ⟨C,_,h1,by simpa using h5,by simpa using h6⟩) (FQ _)
 ·obtain⟨_,_,_,_,_,_,_,_,_,_,_,_,z⟩:=h;exact z
end pG
structure PySem.W.Fast:Prop where
 (tw2521525420769663132 tw786695461389472300 tw15725296874909379683 tw16699041247733163729 tw3852778818783286676 tw1781049268693383602 tw12279274934128320839 tw17266653625725557557 tw4747694180714632724 tw532640590529010561 tw4658144741787908546 tw17348255532725546425 tw623291888908355089 tw15075857061498721401 tw15374085682614025417 tw1023242550767204429 tw6670124042535317869 tw9709697704000473244 tw7216035994678425154 tw14331822232064900392 tw2538073618065410018 tw1093897475156596872 tw17524146957392389566 tw6620788182993409376 tw10066043248957666499 tw17948557790082385813 tw4544735577447010416 tw1172377373827734126 tw11551174233084269366 tw16456594541407456254 tw2225806613781675037 tw8013509948635745625 tw898064968143073583 tw6329551805625388990 tw14196702486701435246 tw6188067393095971476 tw2358130914581049655 tw9359972358680995956 tw1885024087200838384 tw4819636662076784065 tw7979750814122627015 tw6393535009618916008 tw3407058228746356161 tw8681098642155097802 tw11221870707376732167 tw2362717466817648615 tw14191409412935804935 tw14415923931256761561 tw8412169318532972956 tw11091652756925002224 tw496913405508038700 tw8135062847911102231 tw13521304808195735690 tw5246633771813662265 tw7406809760482286541 tw16030856206929275440 tw3178809190709767612 tw2000279564257055602 tw3614189186946709933 tw2555716314284925434 tw1757668601129876106 tw16333680922327215694 tw5279043038654368301 tw3042785516666397103 tw12962859697371381936 tw2462484645976278282 tw6177962002104548307 tw5579664848110941485 tw7587344972370162534 tw72510627829549148 tw1172980989295707513 tw12852493994614967777 tw13385248379307298492 tw2522018046401314796 tw12318623776122375536 tw1730376473206149165 tw7472224048054584035 tw16355972783194501193 tw6781144583509035750 tw12923051327462231935 tw6587624931561542075 tw18112933497249974476 tw16709266426439689678 tw13000638797423743437 tw16683488152482570702 tw3031631899838419633 tw17025994056638740077 tw13510073517274165712 tw15968295158635202759 tw1023515316312927751 tw9126393039521353739 tw7719224648720379014 tw12986187179193011693 tw4557360947935414782 tw16838830881816254480 tw11330051033923729978 tw14569242897617633915 tw18388075078130289178 tw15529850181008021679 tw5552149160811733188 tw5361133889025550913 tw13680763480854372743 tw14686037612170894594 tw12881079259611149359 tw7702485023630819689 tw2906083223219516361 tw4765692261864629109 tw7904309588142889417 tw2663414714061763831 tw9790584448212011167 tw13583924786936761864 tw5741241348523292524 tw12688729456188943535 tw16559784755861620640 tw11151106689450838841 tw10172828223891801239 tw4182450624334176602 tw13970707085679133729 tw6627012037898433579 tw4471224496863832529 tw13036590153634788524 tw9930977644487978760 tw6003444948982675855 tw12686212823971108468 tw6502091169070425506 tw4062625410441737508 tw12150737901609120828 tw16806825701882542473 tw6221845509008591812 tw16448367763725286905 tw1852252850193315819 tw13741176352322923173 tw8821333848388069908 tw9784702074126105347 tw10052185422155417089 tw7693519144505935812 tw412044931331197108 tw3754147961816456226 tw13576494370370723038 tw1480803091835215260 tw203464669458131439 tw5160581620180329376 tw16189825641423891260 tw8656429713100639352 tw10253745504995967033 tw7799211088035644200 tw10000559130023936135 tw12303721592159956307 tw2504405805359378564 tw9573178576533799363 tw2531205028362046649 tw2358567480787120234 tw10172212240523336576 tw11411353152484432801 tw1910233688681468622 tw4723964126502017784 tw1909789892404708315 tw10006473226213128589 tw10825376389486681166 tw6794844882437300153 tw17919241541025355847 tw6736040945162272130 tw18258534711376935770 tw4986818154326228807 tw16760389977195696206 tw12386653298317734745 tw16456187631535090976 tw8621961849087401106 tw13181850965432504945 tw6489090193357300509 tw847953957789746520 tw7238647149839913464 tw6276818431099065993 tw15663121315025208522 tw4685606238664071219 tw14611914301804418878 tw12026121537229617848 tw6425644203170711267 tw11146904335864174520 tw14980257654676569484 tw4276538800672102999 tw14367075247849026869 tw17104607986353642247 tw17963232830226841153 tw17362414605974049231 tw12579523111708447946 tw15506828762808959630 tw4904517246910067905 tw8971038362976183998 tw3539106405934129817 tw1248779117701210700 tw14224731093448427479 tw10140633533565940657 tw14345324131693294124 tw12034704019547885597 tw6111759820716342893 tw13636394040368120078 tw14240918369234474607 tw3390996919332531878 tw10727103647760112828 tw13791155301565229776 tw11794294614970151156 tw13230660677324934169 tw8130343178046389032 tw15923633253532794226 tw3348985524036162911 tw17472952440746269820 tw5658376445069727391 tw3452278962323006216 tw11951081075965434381 tw17044240581179934908 tw15933816096876776989 tw1588896927487914636 tw6298017340804697016 tw14664829886320254470 tw14081141427192509590 tw721539233896514393 tw5722366498254722259 tw15425814874604333 tw7890499657331622099 tw4440729899131018527 tw7348582353717564406 tw9229837596196474020 tw12279622720824463525 tw5298501984477336038 tw15833974014447425743 tw4375628450118337737 tw3748318695163887019 tw16436508914139832755 tw7634472527453301506 tw2246464257566178663 tw11910188725545307324 tw14481811883955566441 tw14606766313853041214 tw5411207604172002711 tw13336603940080317505 tw11749959158850707732 tw11784209929923196710 tw14017481569791921344 tw1798135576900565984 tw8988783245136848098 tw3701251996039470387 tw6623628436615330903 tw1306291555908763 tw10069835264282214338 tw10655240436095811225 tw3646414501057338183 tw6305410612332209279 tw9365730162914947347 tw3690093341503231623 tw7542207167213808651 tw13146324530647594108 tw18145929980243161161 tw3362533356591730532 tw6889958164595423553 tw14690308531280859841 tw6972603827422220124 tw3410285056346720403 tw16008902121604223227 tw11871436635505493976 tw6215973394726882575 tw15774795724420547292 tw435015266982800325 tw6302473948910658494 tw545294750636057258 tw2397853046487596089 tw6905925970562753996 tw2458411615005091435 tw6815175871629155140 tw5038211408367960946 tw16371321284526921001 tw9591143766966090852 tw14567467379302937720 tw6728683230964415436 tw15411488081723326933 tw30395500459443892 tw13998430341455441313 tw13760061407009956009 tw9371169782914644052 tw17095610059870681704 tw5884626229349403921 tw7962515907062828103 tw3296935146613541213 tw14516229344015050157 tw912368581453005529 tw10740767973258920560 tw11517603624528207976 tw6367367067615307884 tw11304324624215160261 tw16536685923400308680 tw8776204312184066754 tw8036775555210978752 tw12780867433393007391 tw16121737600772611533 tw1457648890986869260 tw5547074851483491372 tw11160770741967962174 tw10746805795278981537 tw15191165975846047386 tw13065462372892387904 tw268559742242901233 tw8436695829998391674 tw14793758313350020771 tw16426774402967292102 tw9380776331443751610 tw13295874584487736976 tw9581804364052492801 tw16718884953520194410 tw4026099264783060323 tw10228421754875843337 tw14417652528711569165 tw12299945788328040913 tw16087628694102460439 tw13535497137312831716 tw1640612358321391429 tw18102049041587258547 tw12254418437877716670 tw13067814123715263963 tw14508150179312275722 tw13568230359498138438 tw11156121816271970988 tw7194835937030574190 tw13758111760056775041 tw5584641227119389407 tw16568969450426220028 tw11810257557883543122 tw9613990163507042551 tw15251173841597788151 tw9676212918463996352 tw3989429716795506894 tw6267404140330521218 tw7040450386399862771 tw865261563739487809 tw11088061864035720690 tw4554627404147984365 tw8062868085175518560 tw13732787626468916188 tw11798448855167695427 tw5414673720860904327 tw5205007938822408401 tw11333254829792525882 tw694254632713544814 tw15671331490829877391 tw13343778564348447421 tw8872712646042372679 tw11366481049853325721 tw9520480993798055031 tw838152278891773787 tw12570106291821599112 tw1337942680934585205 tw15664507352360153664 tw3273869000578610002 tw3895896977447625983 tw2535054934088908921 tw2044589558964701610 tw16758792456444019918 tw8716917891374992407 tw17713159959137209622 tw16127427418034869926 tw11574087342533246753 tw16434087233799634854 tw11349929277303532480 tw3899911951070532407 tw2665420157752540044 tw3373512305220367084 tw18163170206560290658 tw3357065709025323875 tw11380906793731676076 tw16108173324932645419 tw5308916820084832915 tw3903458462255083840 tw10762621674599488659 tw15150889353474654569 tw16872295986625139581 tw4096886167260708418 tw15190312620872193666 tw11186246007435811870 tw11445287756785715654 tw18226837951409341638 tw10436748331702192479 tw13234376016287718369 tw16081758374335749430 tw11661564969981398616 tw262186018958673355 tw7834197293954751906 tw3263576164336443472 tw8709196111770850776 tw7735262844044902606 tw14574503522364881424 tw1317819432510675220 tw12610218544867443223 tw5750808296986137094 tw685203778700226212 tw10700078631621266961 tw11558261892024186311 tw834418647095322928 tw10429578648337640876 tw15131343982030131060 tw4566261816865954962 tw8234205797406783079 tw9197658443707718450 tw17462357516483468212 tw13894530700682804330 tw5456093529933660378 tw16212130250300016356 tw10468531463926468242 tw9730466062131067622 tw9704964014175307948 tw5535437067152405080 tw14708643581828621404 tw8562718406518232333 tw11413771131581232984 tw1183599352855204448 tw3494683844226908192 tw8215901899893166874 tw7631454903268310851 tw686049233951801337 tw1349625212514413538 tw13211825225972176051 tw9334176471002815059 tw10358642893401958113 tw6474393179630133729 tw17171536557369750759 tw10092886682938014531 tw12488240416778018558 tw11078897753411234355 tw16424043214394970248 tw5543757892712222718 tw16407448521685904081 tw7357106150772573823 tw898594896372333730 tw15988269401446612044 tw8104762711078943169 tw7232070145980052344 tw6771954863022894799 tw17946646104224527163 tw14327762847800432204 tw6975479866208167425 tw8393369624858160157 tw17481103390449594312 tw1859657818565067447 tw10422966136647816571 tw6252286379834011707 tw5349313023970529158 tw331993124292002282 tw1122616339845502253 tw1171821302662467592 tw5220250194054557412 tw3495851732892293093 tw13304398139934508209 tw218163280891034690 tw1247932520088685771 tw11484011827980946865 tw12482532862254810903 tw4609086700632906473 tw9469249727094161016 tw14595913196489401885 tw16919796767712772984 tw17636303243073712170 tw13418182698530070856 tw18300212367919740385 tw15216056191480222006 tw4367161729802202613:True)
open PySem PySem.W PyProof.Rows
set_option maxRecDepth 100000 in
set_option maxHeartbeats 0 in
theorem PySem.Challenge.cw_weather_k35_books_of_rules_holds : PySem.Challenge.rw_weather_k35_books_of_rules.Holds := by
 w_on;o_law;k_head;(case hw=>w_witness2)
 k_fill
 refine pG.walk (l:=PySem.Challenge.rw_weather_k35_books_of_rules) rfl rfl (λw h Y=>by first|exact PySem.W.km_in_of Y|exact PySem.W.kIn_of Y) ?hT ?hN ?F;case hT=>exact λw=>by kernel_rfl
 case hN=>exact λw=>by kernel_rfl
 case F=>
  intro w mg fa h KX G Vt;refine' pG.all_mk KX G Vt ?a64 ?EA ?Cu ?Es ?BV ?BR ?BS ?BU ?zL ?EB ?Cv ?Et ?G2 ?G3 ?G4 ?G5 ?G6 ?G7 ?G8 ?CD ?CF ?CG ?CH ?CI ?CJ ?Q7 ?CL ?CK ?Q4 ?a3 ?n3 ?l3 ?c3 ?k3 ?d3 ?Hu ?Hz ?Hw ?HB ?Ht ?Hy ?Hv ?HA ?Hr ?A3 ?Hs ?Fy ?uA ?uF ?uL ?uz ?uD ?uG ?uK ?uH ?uE ?uB ?uI ?uC ?uJ ?sV ?EJ ?Hd ?He ?Hg ?Hh ?Hi ?Hj ?Hk ?Hl ?Hm ?Hn ?Ho ?Hq ?pm;case a64|EA|Cu|Es|BV|BR|BS|BU|zL|EB|Cv|Et=>(show _=_;k_is)
  case G2=>kernel_rfl
  case G3|G4|G5|G6|G7|G8=>(show _=_;k_is)
  case CD|CF|CG=>kernel_rfl
  case CH=>(show _=_;k_is)
  case CI=>kernel_rfl
  case CJ|Q7|CL|CK|Q4|a3|n3|l3|c3|k3|d3=>(show _=_;k_is)
  case Hu=>k_exc
  case Hz|Hw|HB=>(show _=_;k_is)
  case Ht=>k_exc
  case Hy|Hv|HA|Hr|A3|Hs=>(show _=_;k_is)
  case Fy=>kernel_rfl
  case uA|uF|uL|uz|uD|uG|uK|uH|uE|uB|uI|uC|uJ|sV|EJ|Hd|He|Hg|Hh|Hi|Hj|Hk|Hl|Hm|Hn|Ho|Hq=>(show _=_;k_is)
  case pm=>constructor<;>(try dsimp only)<;>exact .mk
