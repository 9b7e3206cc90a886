import PyProof.Rows.All
import Wide.All
import OpenK.AllK
import PySem.Challenge.RW_weather_k51_fills
set_option compiler.extract_closed false
set_option bootstrap.genMatcherCode false
set_option linter.all false
def aa:=@PySem.wpAny_bind
def ae:=@if_pos
def af:=@Nat.le_refl
def ag:=@PySem.Heap.get?_push_of_some
def ah:=@if_neg
def ai:=@Nat.le_of_ble_eq_true
def aj:=@List.length_append
def ak:=@PyProof.Rows.wpS_bind
def ao:=@Nat.lt_of_lt_of_le
def aq:=@List.getElem?_set_ne
def ar:=@List.length_map
def au:=@List.getElem?_eq_some_iff
def av:=@List.getElem?_append_right
def aw:=@PyProof.Rows.wpS_pure
def ax:=@decide_eq_false
def ay:=@List.map_cons
def az:=@List.size_toArray
def aA:=@Option.map_eq_some_iff
def aB:=@List.getElem?_append_left
def aC:=@Nat.le_trans
def aD:=@List.getElem?_set_self
def aE:=@decide_eq_true
def aF:=@List.getElem?_map
def aG:=@PySem.wpAny_pure
def aH:=@List.mem_cons
def aI:=@List.length_cons
def aJ:=@Array.length_toList
def aK:=@Bool.and_eq_true
def aL:=@List.getElem?_eq_getElem
def aM:=@List.mem_append_right
def aN:=@Bool.false_ne_true
def aO:=@Array.getElem?_toList
def aP:=@List.append_nil
def aQ:=@PySem.Heap.get?_push_size
def aR:=@List.length_set
def aS:=@List.append_assoc
def aT:=@Option.bind_eq_some_iff
def aU:=@PySem.wpAny_mono
def aV:=@List.pairwise_cons
def aW:=@of_decide_eq_false
def aX:=@of_decide_eq_true
def aY:=@decide_eq_true_eq
def aZ:=@Nat.ne_of_lt
def a9:=@congrArg
def ba:=@Array.toList_append
def bf:=@List.mem_append
def bg:=@List.mem_singleton
def bh:=@Int.eq_ofNat_of_zero_le
def bj:=@List.drop_eq_getElem_cons
def bo:=@Nat.zero_le
def bq:=@List.flatMap_cons
def br:=@PySem.mem_of_lookup
def bt:=@List.getElem?_replicate
def bu:=@List.drop_eq_nil_of_le
def bw:=@PyProof.Rows.wpS_forRange
def bx:=@List.mem_map
def bz:=@Array.perm_iff_toList_perm
def bA:=@Nat.lt_irrefl
def bB:=@List.nodup_cons
def bC:=@Int.mul_ne_zero
def bD:=@List.length_take
def bE:=@PySem.Heap.get?_update_other
def bF:=@List.take_of_length_le
def bG:=@List.pairwise_map
def bH:=@List.length_range
def bI:=@Nat.le_of_lt
def bJ:=@List.zip_cons_cons
def bK:=@Int.emod_lt_of_pos
def bL:=@Array.getElem?_eq_some_iff
def bM:=@List.getD_eq_getElem?_getD
def bN:=@Bool.or_eq_true
def bO:=@Int.emod_nonneg
def bP:=@Array.getElem?_setIfInBounds_ne
def bQ:=@List.pairwise_iff_getElem
def bR:=@Bool.false_eq_true
def bS:=@List.map_map
def bT:=@List.mem_append_left
def bU:=@if_false
def bV:=@List.pairwise_append
def bW:=@PySem.wpAny_truthy_bool
def bX:=@PySem.wpAny_newObj_type
def bY:=@List.find?_cons
def bZ:=@List.map_append
def b7:=@Ne.symm
def b8:=@PyProof.Rows.callWith_type1
def b9:=@List.map_nil
def cb:=@PySem.wpAny_holding
def cc:=@List.length_drop
def cf:=@Array.toList_inj
def cj:=@PySem.wpAny_Call_Name_kw
def ck:=@PyProof.Rows.wpS_mono
def cm:=@List.length_replicate
def cq:=@List.take_append_drop
def cu:=@PySem.wpAny_passesOwn
def cw:=@List.mem_cons_of_mem
def cx:=@List.mem_of_getElem?
def cy:=@Nat.sub_self
def cz:=@if_true
def cA:=@List.filter_eq_self
def cB:=@PyProof.Rows.callWith_builtin1
def cC:=@PySem.wpAny_getItem_str_slice
def cD:=@List.all_eq_true
def cE:=@List.pairwise_singleton
def cF:=@PySem.F.plainAttrs_list
def cG:=@Nat.add_sub_cancel_left
def cH:=@List.getElem_mem
def cI:=@List.mem_flatMap
def cJ:=@Nat.le_succ
def cK:=@Int.le_refl
def cL:=@PySem.Obj.data_mapFields
def cM:=@Int.le_of_lt
def cN:=@List.mem_filter
def cQ:=@List.nil_append
def cR:=@PyProof.Rows.listUpdate_at
def cS:=@PySem.Heap.get?_update_self
def cT:=@List.mem_iff_getElem?
def cU:=@List.pairwise_reverse
def cV:=@PySem.F.typeOf_object_class
def cW:=@PySem.wpAny_loadPart_at
def cX:=@Nat.lt_succ_of_lt
def cY:=@List.any_eq_false
def cZ:=@PySem.wpAny_rule
def c0:=@Int.eq_of_mul_eq_mul_right
def c3:=@Int.mul_nonneg
def c5:=@List.not_mem_nil
def c6:=@PySem.Heap.size_update
def c7:=@decide_false
def c8:=@getElem?_pos
def c9:=@List.extract_eq_take_drop
def da:=@PySem.Heap.SameBut.update
def dc:=@Option.isSome_iff_exists
def df:=@List.Perm.eq_of_pairwise
def dg:=@List.mem_cons_self
def dh:=@List.mem_filterMap
def di:=@PySem.wpAny_field
def dj:=@decide_eq_false_iff_not
def dm:=@List.mem_range
def dq:=@Nat.ne_of_gt
def dr:=@PySem.F.slot_list_append
def du:=@PySem.Heap.get?_push_ne
def dw:=@List.lt_irrefl
def dz:=@PyProof.Rows.slot_tuple_getitem
def dB:=@List.length_singleton
def dD:=@PySem.Obj.isFreed_of_fields
def dE:=@List.perm_append_comm
def dF:=@List.set_append_right
def dG:=@List.length_filter_le
def dH:=@List.cons_append
def dI:=@Array.toList_map
def dJ:=@List.getElem_map
def dM:=@List.mem_reverse
def dN:=@PySem.wpAny_standAt
def dO:=@List.any_cons
def dP:=@Array.toArray_toList
def dQ:=@Array.toList_extract
def dR:=@Array.toList_reverse
def dS:=@PySem.wpAny_execs_nil
def dU:=@Bool.eq_iff_iff
def dW:=@List.of_mem_zip
def dX:=@PySem.post_val_or_str
def dY:=@PyProof.Rows.get?_update_seq
def dZ:=@List.filterMap_cons
def d0:=@PyProof.Rows.getElem?_mirror_all
def d4:=@PySem.Heap.get?_update_ne
def d5:=@Array.getD_eq_getD_getElem?
def d6:=@PyProof.Rows.listItems_at
def d7:=@PyProof.Rows.wpS_get
def d8:=@Nat.zero_add
def d9:=@PySem.W.kia_one
def ec:=@PySem.Calls.Name_function_global
def ee:=@PyProof.Rows.assignInOrder_cons
def eg:=@PySem.wpAny_newFunctionEnv_cells
def eh:=@Int.fdiv_eq_ediv_of_nonneg
def ej:=@PySem.tupleKind_room_in1
def el:=@PyProof.Rows.wpS_modify
def eo:=@List.drop_take
def eu:=@Int.natAbs_mul
def ey:=@Bool.not_eq_true'
def eA:=@PyProof.Rows.seqEpoch_at
def eC:=@bne_self_eq_false
def eD:=@Array.toList_push
def eE:=@List.reverse_perm
def eG:=@decide_true
def eH:=@PyProof.noPylong_of_log2
def eI:=@PySem.wpAny_newList
def eJ:=@PySem.F.slot_list_extend
def eK:=@List.Pairwise.imp_of_mem
def eM:=@PySem.F.type_list_append
def eN:=@PySem.wpAny_eqBool_int
def eO:=@PySem.wpAny_eqBool_str
def eQ:=@List.getElem_inj
def eR:=@PySem.W.cellsFrom_some
def eS:=@PySem.wpAny_call_entry
def eT:=@Nat.lt_succ_self
def eU:=@Array.toList_zip
def eV:=@PyProof.Rows.wpS_lift
def eW:=@List.getLast?_cons_cons
def eX:=@PySem.codeAny_mono
def eY:=@beq_iff_eq
def eZ:=@Int.le_ediv_iff_mul_le
def fb:=@PySem.Txt.slice_le
def fg:=@Nat.le_of_eq
def fh:=@Array.getElem?_extract
def fj:=@Nat.le_mul_of_pos_left
def fq:=@Int.ne_of_gt
def fv:=@List.flatMap_singleton
def fw:=@List.length_nil
def fx:=@Int.natAbs_dvd_natAbs
def fy:=@List.pairwise_flatMap
def fA:=@PySem.wpAny_bindName
def fB:=@PySem.wpAny_setField
def fC:=@Array.getElem_toList
def fD:=@Bool.or_eq_false_iff
def fE:=@List.mem_of_mem_take
def fF:=@List.reverse_reverse
def fG:=@List.mem_iff_getElem
def fH:=@List.mem_of_getLast?
def fI:=@Nat.not_lt
def fJ:=@or_false
def fK:=@Nat.lt_trans
abbrev fN:=PySem.Value
abbrev fO:=PySem.Addr
abbrev fS:=PySem.Shared
abbrev gc:=PySem.Heap
abbrev gy:=PySem.Program
abbrev gz:=PySem.Around
abbrev gs:=PySem.World
abbrev f6:=PySem.Expr
abbrev fY:=@Array
abbrev fU:=@Option
abbrev fR:=PySem.Str
abbrev f5:=Bool
abbrev fL:=@List
abbrev iC:=PySem.Obj
abbrev jm:=PySem.FuncData
abbrev gE:=PySem.Value->PySem.Shared->Prop
abbrev g5:=PySem.Str->fU PySem.Value
abbrev oJ:Nat:=10000000000000000000000000000000000000000000000000000000000000000000000000000000000000000000000000000000000000000000000000000000000000000000000000000000000000000000000000000000000000000000000000000000000000000000000000000000000000000000000000000000000000000000000000000000000000000000000000000000000000000000000000000000000000000000000000000000000000000000000000000000000000000000000000000000000000000
noncomputable section
set_option hygiene false in
open Lean in
def mR0(s:String):MacroM (TSyntax `tactic):=do let l:=(s.splitOn "|").toArray.map fun x=>mkIdent x.toName;`(tactic|first $[|exact $l:ident]*)
set_option hygiene false in
open Lean in
def mR1:String→MacroM (TSyntax `term)|"?"=>`(?_)|"_"=>`(_)|"#0"=>`(‹_›)|"#1"=>`((Nat.le_add_right _ _))|"#2"=>`((by decide))|"#3"=>`((Nat.add_assoc _ _ _).symm)|"#4"=>`((by walk_at "h"))|"#5"=>`((by first|exact sW|exact Jb))|"#6"=>do `(by $(← mR0 "T.rG|T.rE|T.mf|T.mM|T.rB|T.rH|T.rJ|T.rD|T.rC"):tactic)|"#7"=>do `(by with_reducible $(← mR0 "uG|uF|uC|uH|uJ|uE|uD"):tactic)|"#8"=>`((Or.inl rfl))|"#9"=>`((Or.inr rfl))|"#10"=>`((fun _ _ _ _=>?_))|s=>pure (mkIdent s.toName)
set_option hygiene false in
open Lean in
def mR2(s:String):MacroM (TSyntax `tactic):=do let l←(s.splitOn "|").toArray.mapM fun x=>(do let l←(x.splitOn " ").mapM mR1;`(tactic|refine $(Syntax.mkApp l.head! l.tail.toArray)));`(tactic|first $[|$l:tactic]*)
set_option hygiene false in
open Lean in
def mR3(s:String):MacroM (TSyntax `tactic):=do let p:=s.splitOn ":";let h:=p.head!;let t←mR2 p.getLast!;if h=="" then pure t else if h=="w" then `(tactic|with_reducible $t:tactic) else (do let l←(h.splitOn " ").mapM mR1;`(tactic|(show $(Syntax.mkApp l.head! l.tail.toArray);$t:tactic)))
set_option hygiene false in
local macro_rules|`(tactic|walk_at "l")=>do let t←mR2 "Nat.le_of_lt #0|Nat.le_trans #0 #0|Nat.lt_of_le_of_lt #0 #0|Nat.le_succ_of_le #0|Nat.lt_succ_of_le #0|Nat.le_of_lt_succ #0|Nat.lt_succ_self _|Int.le_trans #0 #0|Int.lt_of_le_of_lt #0 #0|Int.le_of_lt #0|Nat.ne_of_lt #0|Nat.ne_of_gt #0|Nat.not_le.mp #0|Int.not_lt.mp #0|Nat.le_of_eq #0|Nat.le_trans #1 #0|Nat.le_trans #0 #2|Nat.lt_of_le_of_lt #0 #2|Int.le_trans #0 #2|Nat.sub_lt #0 #2|#3";`(tactic|first|assumption|$t:tactic)
def bZ0(_:True:=by rfl):=0
def aZ0:Lean.Syntax:=bZ0._auto_1
def bZ1(_:True:=by decide):=0
def aZ1:Lean.Syntax:=bZ1._auto_1
def bZ2(_:True:=by intro _;rfl):=0
def aZ2:Lean.Syntax:=bZ2._auto_1
def bZ3(_:True:=by first|exact .inl rfl|exact .inr rfl|assumption):=0
def aZ3:Lean.Syntax:=bZ3._auto_1
def bZ4(_:True:=by first|exact Or.inl rfl|exact Or.inr (Or.inl rfl)|exact Or.inr (Or.inr rfl)):=0
def aZ4:Lean.Syntax:=bZ4._auto_1
def bZ5(_:True:=by k_is):=0
def aZ5:Lean.Syntax:=bZ5._auto_1
def bZ6(_:True:=by first|exact sP _ (by decide) (by decide)|with_unfolding_all rfl):=0
def aZ6:Lean.Syntax:=bZ6._auto_1
def bZ7(_:True:=by intro _ _ _ _ _ _ _;kernel_rfl):=0
def aZ7:Lean.Syntax:=bZ7._auto_1
set_option Elab.async false
set_option maxRecDepth 100000
namespace L2
open PySem PySem.Spec PyProof.Rows
abbrev Key:=Sum Int fR
def o3:Key->fN->f5
 |.inl k,v=>Value.isInt k v
 |.inr x,v=>Value.isStrOf x v
def GC(w:gs):Key->Int
 |.inl k=>hashInt k
 |.inr x=>hashStr w x
def mm:∀{k:Key} {v:fN},o3 k v=true->(∃i t,k=Sum.inl i/\v=Value.int i t)\/(∃x t,k=Sum.inr x/\v=Value.str x t)
 |.inl i,v,h=>by obtain⟨t,e⟩:=Value.isInt_shape (k:=i) (v:=v) h;exact .inl ⟨i,t,rfl,e⟩
 |.inr x,v,h=>by obtain⟨t,e⟩:=Value.isStrOf_shape (x:=x) (v:=v) h;exact .inr ⟨x,t,rfl,e⟩
def GD(i:Int)(t:Tok):o3 (.inl i) (.int i t)=true:=by simp[o3,Value.isInt]
def GF(x:fR)(t:Tok):o3 (.inr x) (.str x t)=true:=by simp[o3,Value.isStrOf]
def GJ(a b:Int):decide ((Sum.inl a:Key)=Sum.inl b)=(a==b):=by
 by_cases e:a=b;·subst e;simp
 ·have h:¬(Sum.inl a:Key)=Sum.inl b:=λq=>e (Sum.inl.inj q);rw[ax h];exact(beq_eq_false_iff_ne.mpr e).symm
def GN(a b:fR):decide ((Sum.inr a:Key)=Sum.inr b)=decide (a=b):=by
 by_cases e:a=b;·subst e;simp
 ·have h:¬(Sum.inr a:Key)=Sum.inr b:=λq=>e (Sum.inr.inj q);rw[ax h,ax e]
def GK(a:Int)(b:fR):decide ((Sum.inl a:Key)=Sum.inr b)=false:=ax (λq=>nomatch q)
def GL(a:fR)(b:Int):decide ((Sum.inr a:Key)=Sum.inl b)=false:=ax (λq=>nomatch q)
def kn(c:gy)(w:gs):PySem.KeyKind c w Key where
 is:=o3
 hash:=GC w
 inj:=λv a b g d=>by
  rcases mm g with⟨i,t,rfl,rfl⟩|⟨x,t,rfl,rfl⟩
  ·rcases mm d with⟨j,u,rfl,e⟩|⟨y,u,rfl,e⟩;·injection e with e1 _;rw[e1]
   ·exact nomatch e
  ·rcases mm d with⟨j,u,rfl,e⟩|⟨y,u,rfl,e⟩;·exact nomatch e
   ·injection e with e1 _;rw[e1]
 byValue:=λk v h=>by rcases mm h with⟨i,t,rfl,rfl⟩|⟨x,t,rfl,rfl⟩<;>rfl
 pyHash:=λhv h=>by
  rcases mm hv with⟨i,t,rfl,rfl⟩|⟨x,t,rfl,rfl⟩;·exact wpAny_pyHash_int h
  ·exact wpAny_pyHash_str h
 eqBool:=λf hv h=>by
  rcases mm f with⟨i,t,rfl,rfl⟩|⟨x,t,rfl,rfl⟩
  ·rcases mm hv with⟨j,u,rfl,rfl⟩|⟨y,u,rfl,rfl⟩;·rw[GJ]at h;exact eN h
   ·rw[GK]at h;exact SeqAt.EqAt.int_str i t y u _ _ _ _ h
  ·rcases mm hv with⟨j,u,rfl,rfl⟩|⟨y,u,rfl,rfl⟩;·rw[GL]at h;exact SeqAt.EqAt.str_int x t j u _ _ _ _ h
   ·rw[GN]at h;exact eO h
 «strs»:=λk x t v h=>by
  rcases mm h with⟨i,u,rfl,e⟩|⟨y,u,rfl,e⟩;·exact nomatch e
  ·injection e with e1 _;subst e1;cases v<;>rfl
def HE(a:gy)(w:gs)(i:Int)(t:Tok):(kn a w).is (.inl i) (.int i t)=true:=GD i t
def HF(a:gy)(w:gs)(x:fR)(t:Tok):(kn a w).is (.inr x) (.str x t)=true:=GF x t
inductive V where
 |non|bl(b:Bool)|int(i:Int)|str(x:Str)|kF(b:Array UInt8)|flt(b:UInt64)|ref(a:Addr)|ty(n:String)
 deriving DecidableEq
def RelV:V->fN->Prop
 |.non,u=>u=Value.none
 |.bl b,u=>u=Value.bool b
 |.int i,u=>∃t,u=Value.int i t
 |.str x,u=>∃t,u=Value.str x t
 |.kF b,u=>∃t,u=Value.bytes b t
 |.flt b,u=>∃t,u=Value.float b t
 |.ref a,u=>u=Value.ref a
 |.ty n,u=>u=Value.type n
abbrev Vals:fL V->fL fN->Prop:=Paired RelV
abbrev _root_.gq:=fL fN
def Vals.length{a:fL V}{b:gq}(r:Vals a b):a.length=b.length:=Paired.length r
theorem Vals.get:∀{a:fL V} {b:gq} {i:Nat} {x:V},Vals a b->a[i]?=some x->∃u,b[i]?=some u/\RelV x u
 |_,_,_,_,.nil,e=>by simp at e
 |_,_,0,_,.cons r _,e=>by simp at e;subst e;exact⟨_,rfl,r⟩
 |_,_,i+1,x,.cons _ t,e=>by obtain⟨u,d,c⟩:=Vals.get (i:=i) (x:=x) t (by simpa using e);exact⟨u,by simpa using d,c⟩
theorem Vals.set{x:V}{u:fN}(r:RelV x u):∀{a:fL V} {b:gq} (i:Nat),Vals a b->Vals (a.set i x) (b.set i u)
 |_,_,_,.nil=>.nil
 |_,_,0,.cons _ t=>.cons r t
 |_,_,i+1,.cons q t=>.cons q (Vals.set r i t)
theorem Vals.append:∀{b a:fL V} {d c:gq},Vals b d->Vals a c->Vals (b++a) (d++c)
 |_,_,_,_,.nil,s=>s
 |_,_,_,_,.cons r t,s=>.cons r (Vals.append t s)
theorem Vals.take:∀{a:fL V} {b:gq} (n:Nat),Vals a b->Vals (a.take n) (b.take n)
 |_,_,0,_=>.nil
 |_,_,_+1,.nil=>.nil
 |_,_,n+1,.cons r t=>.cons r (Vals.take n t)
theorem Vals.drop:∀{a:fL V} {b:gq} (n:Nat),Vals a b->Vals (a.drop n) (b.drop n)
 |_,_,0,r=>r
 |_,_,_+1,.nil=>.nil
 |_,_,n+1,.cons _ t=>Vals.drop n t
def lK:fU V->fU fN->Prop
 |some v,some u=>RelV v u
 |none,none=>True
 |_,_=>False
def KV{a:Type}:fL (a×V)->fL (a×fN)->Prop:=Paired λ(p:a×V) (q:a×fN)=>p.1=q.1/\RelV p.2 q.2
def kV:Key->V
 |.inl i=>.int i
 |.inr x=>.str x
inductive HO where
  /-- a list -/
 |lst(xs:List V)
  /-- a tuple (never changes) -/
 |tup(xs:List V)
  /-- a dict whose keys are ints and texts; one whose keys are tuples of ints and texts (the empty one is both) -/
 |dK(kvs:List<|Key×V)|dT(kvs:List<|List Key×V)
  /-- a set of ints: its members, its size -/
 |set(S:Int->Bool)(n:Nat)
  /-- an instance of the class at C, its dict at dx, its attributes -/
 |ins(C dx:Addr)(fs:List<|Str×V)
  /-- the dict of the instance at x -/
 |own(x:Addr)
  /-- the dict of an exception -/
 |xd(fs:List<|Str×V)
  /-- a bound method, f of x -/
 |met(f x:Addr)
  /-- a range object lo, lo + 1, .. below hi -/
 |ts(lo hi:Int)
  /-- a thing that is known to the object (the script; a dict while a loop walks it): read, never written while it is so -/
 |j4(o:Obj)(u:HO)
  /-- a code object's table -/
 |iu(ps:Array Value)
  /-- any other thing, by what is true of its one object (a def of one's own: SetO a S n := HO.ext λh => ..) -/
 |ext(φ:Heap->Prop)
abbrev Hp:=fO->fU HO
def upd(H:Hp)(a:fO)(o:HO):Hp:=λb=>if b=a then some o else H b
def hD{H:Hp}{a:fO}{o:HO}:upd H a o a=some o:=by unfold upd;rw[ae rfl]
def gj{H:Hp}{a b:fO}{o:HO}(h:b≠a):upd H a o b=H b:=by unfold upd;rw[ah h]
def HK{H:Hp}{a b:fO}{o u:HO}(h:H a=some o)(c:H b=some u)(d:o≠u):a≠b:=by intro e;subst e;rw[h]at c;exact d (Option.some.inj c)
def iW{H:Hp}{a b:fO}{o:HO}(h:H a=some o)(c:H b=none):a≠b:=by intro e;subst e;rw[h]at c;cases c
section
variable(P:gy)(w:gs)
def iy(H:Hp)(h:gc)(a:fO):HO->Prop
 |.lst d=>d.length<=sizeLine/\∃(c:gq) (n:Nat),Vals d c/\h.get? a=some {cls:=.type "list",data:=.seq c.toArray n}
 |.tup d=>d.length<=sizeLine/\∃c:fL fN,Vals d c/\IsTup h a c.toArray
 |.dK b=>b.length<=sizeLine/\(a==sysModules)=false/\∃j,KV b j/\h.DictOf (kn P w) a j
 |.dT b=>b.length<=sizeLine/\(a==sysModules)=false/\∃d:fL (fL Key×fO×fN),
   Paired (λ(p:fL Key×V) (q:fL Key×fO×fN)=>p.1=q.1/\H q.2.1=some (.tup<|p.1.map kV)/\RelV p.2 q.2.2) b d/\
   ∃o m y,h.get? a=some o/\o.ExactDict/\o.data=.dict m y/\m.toList=d.map (entryOfKey<|tupleKind<|kn P w)/\(d.map (·.1)).Nodup
 |.set S n=>h.SetOf (intKind P w) a S n
 |.ins C g fs=>H g=some (.own a)/\fs.length<=1000/\g≠a/\h.get? a=some (W.instObj C g)/\
   ∃e,h.Ns1 g e/\(∀f,lK (fs.lookup f)<|e f)/\PySem.Within e (fs.map (·.1))
 |.own _=>∃o,h.get? a=some o
 |.xd fs=>∃e,h.Ns1 a e/\∀f,lK (fs.lookup f) (e f)
 |.ts lo s=>∃t u v,h.get? a=some {cls:=.type "range",data:=.fields #[.int lo t,.int s u,.int 1 v]}
 |.j4 o u=>h.get? a=some o/\iy H h a u
 |.iu r=>h.get? a=some {cls:=.none,data:=.fields r}
 |.met f x=>h.get? a=some (W.methodObj (.ref f)<|.ref x)
 |.ext i=>i h/\(∃o,h.get? a=some o)/\∀l k:gc,i l->(∀o,l.get? a=some o->k.get? a=some o)->i k
def hX(H:Hp)(h:gc):Prop:=∀a o,H a=some o->iy P w H h a o
variable{P:gy}{w:gs}{H j:Hp}{h h':gc}{a:fO}{o:HO}
def iy.lt(x:iy P w H h a o):a<h.objs.size:=by
 cases o with
 |lst c=>obtain⟨_,_,_,_,e⟩:=x;exact Heap.lt_size e
 |tup c=>obtain⟨_,_,_,p⟩:=x;exact p.lt
 |dK b=>obtain⟨_,_,_,_,o,_,_,e,_⟩:=x;exact Heap.lt_size e
 |dT b=>obtain⟨_,_,_,_,o,_,_,e,_⟩:=x;exact Heap.lt_size e
 |set S n=>obtain⟨o,_,_,_,e,_⟩:=x;exact Heap.lt_size e
 |ins C k fs=>obtain⟨_,_,_,e,_⟩:=x;exact Heap.lt_size e
 |own y=>obtain⟨_,e⟩:=x;exact Heap.lt_size e
 |xd fs=>obtain⟨_,⟨_,_,_,e,_⟩,_⟩:=x;exact Heap.lt_size e
 |ts lo i=>obtain⟨_,_,_,e⟩:=x;exact Heap.lt_size e
 |j4 ob u=>obtain⟨e,_⟩:=x;exact Heap.lt_size e
 |iu g=>exact Heap.lt_size (show h.get? a=some _ from x)
 |met f y=>exact Heap.lt_size (show h.get? a=some _ from x)
 |ext d=>obtain⟨_,⟨_,e⟩,_⟩:=x;exact Heap.lt_size e
theorem Paired.v9{g e:Type}{F G:g->e->Prop}:∀{d:fL g} {c:fL e},Paired F d c->(∀a b,F a b->G a b)->Paired G d c
 |_,_,.nil,_=>.nil
 |_,_,.cons r t,f=>.cons (f _ _ r) (Paired.v9 t f)
def iy.ng(x:iy P w H h a o)(k:∀b u,(b=a\/H b=some (.own a))->h.get? b=some u->h'.get? b=some u)
    (J:∀b,H b=some (.own a)->j b=some (.own a))(I:∀b m,H b=some (.tup m)->j b=some (.tup m)):iy P w j h' a o:=by
 induction o with
 |lst m=>obtain⟨z,l,n,r,e⟩:=x;exact⟨z,l,n,r,k _ _ (.inl rfl) e⟩
 |tup m=>obtain⟨z,l,r,ob,e,c⟩:=x;exact⟨z,l,r,ob,k _ _ (.inl rfl) e,c⟩
 |dK B=>obtain⟨z,y,F,r,ob,g,i,e,c⟩:=x;exact⟨z,y,F,r,ob,g,i,k _ _ (.inl rfl) e,c⟩
 |dT B=>obtain⟨z,y,m,r,ob,g,i,e,c⟩:=x;exact⟨z,y,m,Paired.v9 r λp q z=>⟨z.1,I _ _ z.2.1,z.2.2⟩,ob,g,i,k _ _ (.inl rfl) e,c⟩
 |set S n=>obtain⟨ob,g,i,t,e,c⟩:=x;exact⟨ob,g,i,t,k _ _ (.inl rfl) e,c⟩
 |ins C N fs=>obtain⟨d,z,ne,e,A,⟨s,g,i,K,c⟩,r⟩:=x;exact⟨J _ d,z,ne,k _ _ (.inl rfl) e,A,⟨s,g,i,k _ _ (.inr d) K,c⟩,r⟩
 |own y=>obtain⟨ob,e⟩:=x;exact⟨ob,k _ _ (.inl rfl) e⟩
 |xd fs=>obtain⟨A,⟨s,g,i,e,c⟩,r⟩:=x;exact⟨A,⟨s,g,i,k _ _ (.inl rfl) e,c⟩,r⟩
 |ts lo M=>obtain⟨t,u,v,e⟩:=x;exact⟨t,u,v,k _ _ (.inl rfl) e⟩
 |j4 ob u G=>obtain⟨e,q⟩:=x;exact⟨k _ _ (.inl rfl) e,G q⟩
 |iu E=>have e:h.get? a=some {cls:=.none,data:=.fields E}:=x;show h'.get? a=some {cls:=.none,data:=.fields E};exact k a _ (.inl rfl) e
 |met f y=>have e:h.get? a=some (W.methodObj (.ref f)<|.ref y):=x;show h'.get? a=some (W.methodObj (.ref f)<|.ref y);exact k a _ (.inl rfl) e
 |ext L=>obtain⟨p,⟨o,e⟩,D⟩:=x;exact⟨D _ _ p λo q=>k _ _ (.inl rfl) q,⟨o,k _ _ (.inl rfl) e⟩,D⟩
def hX.lt(x:hX P w H h)(e:H a=some o):a<h.objs.size:=(x a o e).lt
def hX.fresh(x:hX P w H h)(e:h.objs.size<=a):H a=none:=by
 cases q:H a with
 |none=>rfl
 |some u=>exact absurd (ao (x.lt q) e) (bA _)
def hX.kept(x:hX P w H h)(k:∀b u,h.get? b=some u->h'.get? b=some u):hX P w H h':=λa o e=>(x a o e).ng (λb u _ q=>k b u q) (λ_ q=>q) λ_ _ q=>q
def hX.laid(x:hX P w H h)(k:∀b u,h.get? b=some u->h'.get? b=some u)(g:h.objs.size<=a)(new:iy P w (upd H a o) h' a o):hX P w (upd H a o) h':=λb u e=>by
 have d:=x.fresh g;by_cases f:b=a;·subst f;rw[hD]at e;cases e;exact new
 ·rw[gj f]at e;exact(x b u e).ng (λc v _ q=>k c v q) (λc q=>by rw[gj<|iW q d];exact q) λc i q=>by rw[gj<|iW q d];exact q
def Rd(H:Hp)(a:fO)(u:HO):Prop:=H a=some u\/∃o,H a=some (.j4 o u)
def Rd.ok{P:gy}{w:gs}{H:Hp}{h:gc}{a:fO}{u:HO}(r:Rd H a u)(x:hX P w H h):iy P w H h a u:=by
 rcases r with r|⟨o,r⟩;·exact x a u r
 ·obtain⟨_,q⟩:=x a _ r;exact q
def pW:fU HO->Prop
 |some (.lst _)=>True
 |some (.dK _)=>True
 |some (.dT _)=>True
 |some (.set _ _)=>True
 |some (.ins _ _ _)=>True
 |some (.ext _)=>True
 |_=>False
variable{x e:fO}{i:HO}
def hX.write(ok:hX P w H h)(m:pW<|H x)(A:e=x\/H e=some (.own x))(k:∀b u,b≠e->h.get? b=some u->h'.get? b=some u)(s:∃u,h'.get? e=some u)
    (new:iy P w (upd H x i) h' x i):hX P w (upd H x i) h':=λb u q=>by
 have f:∀c y,H c=some (.own y)->c≠x:=λc y r z=>by subst z;rw[r]at m;exact m
 have g:∀c l,H c=some (.tup l)->c≠x:=λc l r z=>by subst z;rw[r]at m;exact m
 by_cases p:b=x;·subst p;rw[hD]at q;cases q;exact new
 ·rw[gj p]at q;by_cases d:b=e
  ·have t:H b=some (.own x):=by
    rcases A with z|z;·exact absurd (d.trans z) p
    ·rw[d];exact z
   rw[q]at t;cases t;obtain⟨v,hv⟩:=s;exact⟨v,by rw[d];exact hv⟩
  ·refine(ok b u q).ng (λc v n r=>k c v ?_ r) (λc r=>by rw[gj<|f c b r];exact r) λc l r=>by rw[gj<|g c l r];exact r
   rcases n with rfl|n;·exact d
   ·rintro rfl
    rcases A with z|z;·exact f c b n z
    ·rw[n]at z;cases z;exact p rfl
end
abbrev _root_.kc:=fL fO
structure Un(fs ex:kc)(H H':Hp)(h h':gc):Prop where
 keep:∀b o,h.get? b=some o->H b=none->b∉fs->b∉ex->h'.get? b=some o
 slot:∀b o,h.get? b=some o->H b=none->b∈fs->b∉ex->∃sl,h'.get? b=some {o with slots:=sl}
 free:∀b o,h.get? b=some o->H b=none->b∉ex->H' b=none
 there:∀b o,h.get? b=some o->b∉ex->∃o',h'.get? b=some o'
 tups:∀b xs,H b=some (.tup xs)->H' b=some (.tup xs)
 mj:∀b o u,H b=some (.j4 o u)->H' b=some (.j4 o u)
 nh:∀b ps,H b=some (.iu ps)->∃more,H' b=some (.iu<|ps++more)
section
variable{fs i ex j:kc}{H l v:Hp}{h c m h':gc}{a x e:fO}{o:HO}
def Un.any(u:Un fs ex H l h c){b:fO}{ob:iC}(q:h.get? b=some ob)(n:H b=none)(d:b∉ex):∃g,c.get? b=some {ob with slots:=g}:=by
 by_cases f:b∈fs;·exact u.slot b ob q n f d
 ·exact⟨ob.slots,u.keep b ob q n f d⟩
def Un.kept(k:∀b u,h.get? b=some u->h'.get? b=some u):Un fs ex H H h h':=
 ⟨λb ob q _ _ _=>k b ob q,λb ob q _ _ _=>⟨ob.slots,k b ob q⟩,λ_ _ _ n _=>n,λb ob q _=>⟨ob,k b ob q⟩,λ_ _ q=>q,λ_ _ _ q=>q,λ_ d q=>⟨#[],by rw[q];simp⟩⟩
def Un.refl:Un fs ex H H h h:=Un.kept λ_ _ q=>q
def Un.laid(k:∀b u,h.get? b=some u->h'.get? b=some u)(g:h.objs.size<=a)(d:H a=none):Un fs ex H (upd H a o) h h' where
 keep:=λb u q _ _ _=>k b u q
 slot:=λb u q _ _ _=>⟨u.slots,k b u q⟩
 free:=λb u q n _=>by rw[gj<|aZ<|ao (Heap.lt_size q) g];exact n
 there:=λb u q _=>⟨u,k b u q⟩
 tups:=λb f q=>by rw[gj<|iW q d];exact q
 mj:=λb u f q=>by rw[gj<|iW q d];exact q
 nh:=λb p q=>⟨#[],by rw[gj<|iW q d,q];simp⟩
def Un.write(f:pW<|H x)(A:e=x\/H e=some (.own x))(k:∀b u,b≠e->h.get? b=some u->h'.get? b=some u)(p:∃u,h'.get? e=some u):Un fs ex H (upd H x o) h h':=by
 have s:∀b,H b=none->b≠x:=λb n z=>by subst z;rw[n]at f;exact f
 have t:∀b,H b=none->b≠e:=λb n z=>by
  subst z;rcases A with r|r;·exact s b n r
  ·rw[n]at r;cases r
 have g:∀b u,H b=some u->¬pW (some u)->b≠x:=λb u q y z=>by subst z;rw[q]at f;exact y f
 refine⟨λb u q n _ _=>k b u (t b n) q,λb u q n _ _=>⟨u.slots,k b u (t b n) q⟩,λb u q n _=>by rw[gj (s b n)];exact n,λb u q _=>?_,
  λb w q=>by rw[gj (g b _ q λz=>z)];exact q,λb u w q=>by rw[gj (g b _ q λz=>z)];exact q,λb B q=>⟨#[],by rw[gj (g b _ q λz=>z),q];simp⟩⟩
 by_cases d:b=e;·subst d;exact p
 ·exact⟨u,k b u d q⟩
end
def tK(h:gc)(H:Hp):fL fO:=(List.range h.objs.size).filter λa=>(H a).isSome
def lV(h:gc)(H:Hp):gc:=W.hideAll h (tK h H)
def FG(h:gc)(H:Hp):(lV h H).objs.size=h.objs.size:=W.hideAll_size _ _
def FF{h:gc}{H:Hp}{b:fO}{o:iC}(e:h.get? b=some o)(n:H b=none):(lV h H).get? b=some o:=
 W.hideAll_get _ e λa=>by have q:(H b).isSome=true:=(cN.mp a).2;rw[n]at q;simp at q
def H7{h:gc}{H:Hp}{b:fO}{o:iC}(e:(lV h H).get? b=some o):h.get? b=some o/\H b=none:=by
 have a:h.get? b=some o:=W.of_hideAll (tK h H) e;refine⟨a,?_⟩;cases q:H b with
 |none=>rfl
 |some x=>have c:b∈tK h H:=cN.mpr ⟨dm.mpr<|Heap.lt_size a,by simp[q]⟩;have z:(lV h H).get? b=none:=W.hideAll_none (tK h H) c;rw[z]at e;cases e
noncomputable def Cz(g h:gc)(L:fO):fL (fO×iC):=(List.range h.objs.size).filterMap λa=>if a=L\/(g.get? a).isSome=true then none else(h.get? a).map λo=>(a,o)
def rest(g h:gc)(L d:fO):fL (fO×iC):=(Cz g h L).filter λp=>decide (p.1≠d)
abbrev _root_.fZ:=W.Frag
structure Mod(K:fZ)(mg:g5)(base:gc):Prop where
 vO:K.In base
 glob:base.Ns mainGlobals mg
 blt:∃mb,base.Ns builtinsNs mb/\∀x:fR,x≠"__name__"->mb x=bootBuiltins x
 nolimit:base.NoLimit
structure Cx where
 prog:gy
 w:gs
 K:W.Frag
 mg:g5
 base:gc
 A:gz
 N:fL fR
 s₀:fS
 H₀:Hp
 env:Env
 outer:fL Env
 stack:fL Env
 ex:fL fO
 fn:fR->f5
 calm:f5
 pn:fL (fO×iC)
 xe:gE
abbrev _root_.iL:=fL f6
abbrev Cx.se(X:Cx)(e:f6)(es:iL):Prop:=starEach (e::es) X.env=(false,eval e X.env)::starEach es X.env
abbrev Cx.bk(X:Cx)(pos:Pos)(es:iL):Prop:=(backTo pos<|starEach es X.env).any (·.1)=false
abbrev i8(x:fR):Prop:=(x==("__debug__":fR))=false
abbrev Cx.hf(X:Cx)(x:fR):Prop:=X.fn x=true\/X.env.scope.names.lookup x=some .local
abbrev o6(s:Scope):Prop:=∀x∈s.names,x.2=.local->s.names.lookup x.1=some .local
abbrev nV(s:Scope):Prop:=∀y∈s.names,y.2≠.cell
abbrev _root_.iK:=fL Env
def frs(l:iK):fL fO:=l.filterMap (·.frame)
abbrev Cx.fs(X:Cx):fL fO:=frs X.outer
def lM(sc:Scope)(x:fR):Prop:=sc.names.lookup x=some .local\/sc.names.lookup x=some .cell\/sc.names.lookup x=some .free
def Loc(sc:Scope)(x:fR):Prop:=sc.names.lookup x=some .local\/sc.names.lookup x=some .cell
def Look(a:Env)(h:gc)(m:g5)(x:fR)(u:fN):Prop:=
 (a.kindOf x=some .local/\m x=some u)\/((a.kindOf x=some .cell\/a.kindOf x=some .free)/\∃c,a.cells.lookup x=some c/\h.IsCell c (some u))
structure Cx.Ok(X:Cx):Prop where
 mod:Mod X.K X.mg X.base
 kind:X.env.scope.kind=.function
 glob:X.env.globals=mainGlobals
 blt:X.env.builtins=builtinsNs
 above:X.s₀.heap.objs.size<=X.env.locals
 inj:∀x y c,X.env.cells.lookup x=some c->X.env.cells.lookup y=some c->x=y
 has:∀x,(X.env.kindOf x=some .cell\/X.env.kindOf x=some .free)->∃c,X.env.cells.lookup x=some c
 cab:∀x c,X.fn x=true->X.env.cells.lookup x=some c->X.s₀.heap.objs.size<=c
 hd:X.calm=true->X.A.handled=none
 frames:X.A.frames=some X.stack
 Bg:X.stack=X.outer\/(X.stack=X.env::X.outer/\X.env.frame=some X.env.locals)
 Eu:∀b∈X.ex,b≠X.env.locals/\∀x c,X.env.cells.lookup x=some c->c≠b
 bs:∀b o,X.base.get? b=some o->X.s₀.heap.get? b=some o/\X.H₀ b=none
 nJ:X.base.objs.size<=X.s₀.heap.objs.size
 we:∀b o,X.base.get? b=some o->b∉X.ex
 vb:∀b∈X.ex,b∉X.fs
 kW:X.s₀.heap.FunFrames X.base X.outer
 qq:∀b∈X.fs,X.H₀ b=none
abbrev _root_.gp:=fL (fO×iC)
structure Inv(X:Cx)(pins:gp)(σ:fL<|fU V)(H:Hp)(s:fS):Prop where
 ok:X.Ok
 os:s.os=X.s₀.os
 bare:AllBare s.gens
 base:Un X.fs X.ex X.H₀ H X.s₀.heap s.heap
 loc:∃m,s.heap.Ns X.env.locals m/\∀(i:Nat) (x:fR) (v:V),X.N[i]?=some x->σ[i]?=some (some v)->lM X.env.scope x->∃u,RelV v u/\Look X.env s.heap m x u
 cell:∀x c,X.env.cells.lookup x=some c->∃v,s.heap.IsCell c v
 free:H X.env.locals=none
 mi:∀x c,X.env.cells.lookup x=some c->H c=none
 pin:∀p∈X.pn++pins,s.heap.get? p.1=some p.2/\H p.1=none/\p.1≠X.env.locals/\p.1∉X.fs/\∀v,p.2.data≠.cell v
 hok:hX X.prog X.w H s.heap
 len:σ.length=X.N.length
section
variable{X:Cx}{B:gp}{C:fL<|fU V}{H J:Hp}{s:fS}{h':gc}
def Cx.Ok.HR(ok:X.Ok){b:fO}{o:iC}(e:X.base.get? b=some o):b∉X.fs:=λa=>by have:=(ok.kW.mem a).1;rw[e]at this;cases this
def Inv.bs(I:Inv X B C H s):∀b o,X.base.get? b=some o->s.heap.get? b=some o/\H b=none:=λb o e=>⟨I.base.keep b o (I.ok.bs b o e).1 (I.ok.bs b o e).2 (I.ok.HR e) (I.ok.we b o e),I.base.free b o (I.ok.bs b o e).1 (I.ok.bs b o e).2 (I.ok.we b o e)⟩
def Inv.bk(I:Inv X B C H s):∀b o,X.base.get? b=some o->s.heap.get? b=some o:=λb o e=>(I.bs b o e).1
def Inv.mod(I:Inv X B C H s):Mod X.K X.mg X.base:=I.ok.mod
def Inv.jR(I:Inv X B C H s):X.K.In s.heap:=I.ok.mod.vO.keeps I.bk
def Inv.lt(I:Inv X B C H s):X.env.locals<s.heap.objs.size:=let⟨_,a,_⟩:=I.loc;a.lt
def Inv.sz(I:Inv X B C H s):X.s₀.heap.objs.size<=s.heap.objs.size:=aC I.ok.above (bI I.lt)
def Inv.HU(I:Inv X B C H s){a:fO}(h:s.heap.objs.size<=a):a∉X.fs:=λc=>by obtain⟨_,o,b,_⟩:=I.ok.kW.mem c;exact absurd (ao (Heap.lt_size b)<|aC I.sz h) (bA _)
def Inv.nL(I:Inv X B C H s):∀x c,X.env.cells.lookup x=some c->c≠X.env.locals:=λx c e z=>by obtain⟨v,o,d,f⟩:=I.cell x c e;obtain⟨m,⟨g,h,i,a,b,_⟩,_⟩:=I.loc;rw[z,a]at d;cases d;rw[b]at f;cases f
def Inv.kW(I:Inv X B C H s):s.heap.FunFrames X.base X.outer:=by
 have all:∀(l:iK),(∀b∈frs l,b∈X.fs)->X.s₀.heap.FunFrames X.base l->s.heap.FunFrames X.base l:=by
  intro l;induction l with
  |nil=>intro _ _;trivial
  |cons n r f=>intro d j;obtain⟨k,⟨L,o,hf,i,h,m⟩,g⟩:=j;have c:L∈X.fs:=d L (by unfold frs;rw[dZ,hf];exact dg);obtain⟨p,e⟩:=I.base.slot L o h (I.ok.qq L c) c λz=>I.ok.vb L z c;exact⟨k,⟨L,_,hf,i,e,m⟩,f (λb a=>d b (by unfold frs;rw[dZ,hf];exact cw _ a)) g⟩
 exact all X.outer (λ_ a=>a) I.ok.kW
def Inv.stack(I:Inv X B C H s):s.heap.FunFrames X.base X.stack:=by
 rcases I.ok.Bg with e|⟨e,hf⟩;·rw[e];exact I.kW
 ·rw[e];obtain⟨m,a,_⟩:=I.loc;refine .cons (by rw[I.ok.kind];decide) hf a ?_ I.kW;exact Heap.get?_none_of_le (aC I.ok.nJ I.ok.above)
def Inv.tA(I:Inv X B C H s):∀b∈frs X.stack,b∈X.env.locals::X.fs:=λb a=>by
 rcases I.ok.Bg with e|⟨e,hf⟩;·rw[e]at a;exact cw _ a
 ·rw[e]at a;unfold frs at a;rw[dZ,hf]at a;exact a
def Inv.xb(I:Inv X B C H s):∀b∈frs X.stack,H b=none:=λb a=>by
 rcases aH.mp (I.tA b a)with e|a;·rw[e];exact I.free
 ·obtain⟨_,o,c,_⟩:=I.ok.kW.mem a;exact I.base.free b o c (I.ok.qq b a) λz=>I.ok.vb b z a
def Inv.step{g':fY GenState}{t':Nat}{d':Drawn}{ch:kc}(I:Inv X B C H s)
    (g:∀b∈ch,(b∈X.ex\/X.s₀.heap.objs.size<=b)/\b≠X.env.locals/\(∀x c,X.env.cells.lookup x=some c->c≠b)/\∀p∈X.pn++B,p.1≠b)
    (keep:∀b o,b≠X.env.locals->b∉X.fs->b∉ch->s.heap.get? b=some o->H b=none->h'.get? b=some o)
    (y:∀b o,b≠X.env.locals->b∈X.fs->b∉ch->s.heap.get? b=some o->H b=none->∃P,h'.get? b=some {o with slots:=P})(free:∀b o,b∉ch->s.heap.get? b=some o->H b=none->J b=none)
    (there:∀b o,b∉ch->s.heap.get? b=some o->∃G,h'.get? b=some G)
    (E:∀b w,H b=some (.tup w)->J b=some (.tup w))(L:∀b o u,H b=some (.j4 o u)->J b=some (.j4 o u))(F:∀b N,H b=some (.iu N)->∃more,J b=some (.iu<|N++more))
    (W:∀m,s.heap.Ns X.env.locals m->h'.Ns X.env.locals m)(Q:hX X.prog X.w J h')(hg:AllBare g'):
    Inv X B C J {s with heap:=h',gens:=g',drawn:=d',toks:=t'}:=by
 have K:∀b o,X.s₀.heap.get? b=some o->b≠X.env.locals:=λb o e=>aZ (ao (Heap.lt_size e) I.ok.above);have j:∀b o,X.s₀.heap.get? b=some o->b∉X.ex->b∉ch:=λb o e a A=>by
  rcases(g b A).1 with z|z;·exact a z
  ·exact absurd (ao (Heap.lt_size e) z) (bA _)
 have h:∀x c,X.env.cells.lookup x=some c->∀v,s.heap.IsCell c v->h'.IsCell c v:=λx c e v ⟨o,D,R⟩=>by
  have f:c∉ch:=λz=>(g c z).2.2.1 x c e rfl;by_cases U:c∈X.fs
  ·obtain⟨P,q⟩:=y c o (I.nL x c e) U f D (I.mi x c e);exact⟨_,q,R⟩
  ·exact⟨o,keep c o (I.nL x c e) U f D<|I.mi x c e,R⟩
 refine⟨I.ok,I.os,hg,⟨λb o e n A a=>?_,λb o e n A a=>?_,λb o e n a=>?_,λb o e a=>?_,λb w e=>E b w<|I.base.tups b w e,λb o w e=>L b o w<|I.base.mj b o w e,λb N e=>?_⟩,?_,λx c e=>?_,?_,λx c e=>?_,λp T=>?_,Q,I.len⟩;·exact keep b o (K b o e) A (j b o e a) (I.base.keep b o e n A a) (I.base.free b o e n a)
 ·obtain⟨P,t⟩:=I.base.slot b o e n A a;obtain⟨O,M⟩:=y b _ (K b o e) A (j b o e a) t (I.base.free b o e n a);exact⟨O,M⟩
 ·obtain⟨G,t⟩:=I.base.there b o e a;exact free b G (j b o e a) t (I.base.free b o e n a)
 ·obtain⟨G,t⟩:=I.base.there b o e a;exact there b G (j b o e a) t
 ·obtain⟨Z,t⟩:=I.base.nh b N e;obtain⟨Y,M⟩:=F b _ t;exact⟨Z++Y,by rw[M,Array.append_assoc]⟩
 ·obtain⟨m,hn,hl⟩:=I.loc;refine⟨m,W m hn,λi x v t M e3=>?_⟩;obtain⟨u,r,l⟩:=hl i x v t M e3;refine⟨u,r,?_⟩;rcases l with l|⟨k,c,e,z⟩;·exact .inl l
  ·exact .inr ⟨k,c,e,h x c e _ z⟩
 ·obtain⟨v,z⟩:=I.cell x c e;exact⟨v,h x c e v z⟩
 ·obtain⟨m,⟨o,_,_,D,_⟩,_⟩:=I.loc;exact free _ o (λz=>(g _ z).2.1 rfl) D I.free
 ·obtain⟨v,o,D,R⟩:=I.cell x c e;exact free c o (λz=>(g c z).2.2.1 x c e rfl) D (I.mi x c e)
 ·obtain⟨e,n,ne,S,d⟩:=I.pin p T;have f:p.1∉ch:=λz=>(g p.1 z).2.2.2 p T rfl;exact⟨keep p.1 p.2 ne S f e n,free p.1 p.2 f e n,ne,S,d⟩
def Inv.un{t':Nat}(I:Inv X B C H s)(u:Un X.fs [] H J s.heap h')(c:hX X.prog X.w J h'):Inv X B C J {s with heap:=h',toks:=t'}:=by obtain⟨m,⟨o,t,v,h,r⟩,_⟩:=id I.loc;obtain⟨l,k⟩:=u.any h I.free (by simp);exact I.step (g':=s.gens) (d':=s.drawn) (ch:=[]) (λ_ z=>nomatch z) (λb o _ d _ e n=>u.keep b o e n d (by simp)) (λb o _ d _ e n=>u.slot b o e n d (by simp)) (λb o _ e n=>u.free b o e n (by simp)) (λb o _ e=>u.there b o e (by simp)) u.tups u.mj u.nh (λq j=>by obtain⟨p,f,g,a,i⟩:=j;rw[h]at a;cases a;exact⟨_,f,g,k,i⟩) c I.bare
def Inv.call{g':fY GenState}{t':Nat}{d':Drawn}{ch:kc}(I:Inv X B C H s)(u:Un (frs X.stack) ch H J s.heap h')(g:hX X.prog X.w J h')(t:AllBare g')
    (f:∀b∈ch,(b∈X.ex\/X.s₀.heap.objs.size<=b)/\b≠X.env.locals/\(∀x c,X.env.cells.lookup x=some c->c≠b)/\∀p∈X.pn++B,p.1≠b):
    Inv X B C J {s with heap:=h',gens:=g',drawn:=d',toks:=t'}:=by
 obtain⟨m,⟨o,D,E,k,r⟩,_⟩:=id I.loc;obtain⟨w,h⟩:=u.any k I.free λz=>(f _ z).2.1 rfl;exact I.step (ch:=ch) f (λb o h v a e n=>u.keep b o e n (λz=>(aH.mp (I.tA b z)).elim h v) a) (λb o _ _ a e n=>u.any e n a) (λb o a e n=>u.free b o e n a) (λb o a e=>u.there b o e a) u.tups u.mj u.nh (λA q=>by obtain⟨y,i,j,d,l⟩:=q;rw[k]at d;cases d;exact⟨_,i,j,h,l⟩) g t
def Inv.turned{t':Nat}{it:fO}(I:Inv X B C H s)(k:∀b o,b≠it->s.heap.get? b=some o->h'.get? b=some o)(h:H it=none)(f:it≠X.env.locals)
    (w:it∈X.ex\/X.s₀.heap.objs.size<=it)(t:∀x c,X.env.cells.lookup x=some c->c≠it)(l:∀p∈X.pn++B,p.1≠it):Inv X B C H {s with heap:=h',toks:=t'}:=by
 have d:∀b u,H b=some u->b≠it:=λb u e z=>by rw[z,h]at e;cases e
 refine I.step (g':=s.gens) (d':=s.drawn) (ch:=[it]) (λb j=>?_) (λb o _ _ a e _=>k b o (λz=>a<|by simp[z]) e) (λb o _ _ a e _=>⟨o.slots,k b o (λz=>a<|by simp[z]) e⟩) (λ_ _ _ _ n=>n)
  (λb o a e=>⟨o,k b o (λz=>a<|by simp[z]) e⟩) (λ_ _ e=>e) (λ_ _ _ e=>e) (λb D e=>⟨#[],by rw[e];simp⟩) (λm i=>?_) (λb u e=>?_) I.bare
 ·have e:b=it:=by simpa using j
  subst e;exact⟨w,f,t,l⟩
 ·obtain⟨o,y,A,g,r⟩:=i;exact⟨o,y,A,k _ o (b7 f) g,r⟩
 ·refine(I.hok b u e).ng (λc v a q=>k c v ?_ q) (λ_ q=>q) λ_ _ q=>q;rcases a with z|z;·rw[z];exact d b u e
  ·exact d c _ z
def Inv.tok(I:Inv X B C H s)(t:Nat):Inv X B C H {s with toks:=t}:=I.un (h':=s.heap) (t':=t) Un.refl I.hok
def Inv.kept{t':Nat}(I:Inv X B C H s)(k:∀b u,s.heap.get? b=some u->h'.get? b=some u):Inv X B C H {s with heap:=h',toks:=t'}:=I.un (Un.kept k) (I.hok.kept k)
def Inv.laid{a:fO}{o:HO}{t':Nat}(I:Inv X B C H s)(k:∀b u,s.heap.get? b=some u->h'.get? b=some u)(c:s.heap.objs.size<=a)(new:iy X.prog X.w (upd H a o) h' a o):
    Inv X B C (upd H a o) {s with heap:=h',toks:=t'}:=I.un (Un.laid k c<|I.hok.fresh c) (I.hok.laid k c new)
def Inv.write{x e:fO}{o:HO}{f:Nat}(I:Inv X B C H s)(c:pW<|H x)(d:e=x\/H e=some (.own x))(k:∀b u,b≠e->s.heap.get? b=some u->h'.get? b=some u)(a:∃u,h'.get? e=some u)
    (new:iy X.prog X.w (upd H x o) h' x o):Inv X B C (upd H x o) {s with heap:=h',toks:=f}:=I.un (Un.write c d k a) (I.hok.write c d k a new)
def Inv.weak{a:fL<|fU V}(I:Inv X B C H s)(d:a.length=C.length)(w:∀(i:Nat) v,a[i]?=some (some v)->C[i]?=some (some v)):Inv X B a H s:=
 ⟨I.ok,I.os,I.bare,I.base,let⟨m,c,b⟩:=I.loc;⟨m,c,λi x v g f e=>b i x v g (w i v f) e⟩,I.cell,I.free,I.mi,I.pin,I.hok,d.trans I.len⟩
def Inv.AE{a:gp}(I:Inv X B C H s)(h:∀p∈a,s.heap.get? p.1=some p.2/\H p.1=none/\p.1≠X.env.locals/\p.1∉X.fs/\∀v,p.2.data≠.cell v):Inv X a C H s:=
 ⟨I.ok,I.os,I.bare,I.base,I.loc,I.cell,I.free,I.mi,λp b=>(bf.mp b).elim (λz=>I.pin p<|bT _ z) (h p),I.hok,I.len⟩
abbrev _root_.gu:=fL fR
def Aa{N:gu}(c:N.Nodup){i j:Nat}{x:fR}(a:N[i]?=some x)(b:N[j]?=some x):i=j:=by obtain⟨g,e⟩:=au.mp a;obtain⟨f,d⟩:=au.mp b;exact(eQ c).mp (e.trans d.symm)
abbrev _root_.oy:=Unit->fS->Prop
def Bh{M:Model}{A:gz}{E:gE}{i:Nat}{x:fR}{v:V}{u:fN}{Q:oy}(I:Inv X B C H s)(hN:X.N.Nodup)(R:X.N[i]?=some x)(w:Loc X.env.scope x)(r:RelV v u)
    (h:∀s',Inv X B (C.set i<|some v) H s'->(∃a,Heap.SameBut a s.heap s'.heap/\(a=X.env.locals\/X.env.cells.lookup x=some a))->Q () s')(hf:X.hf x):wpAny M A (storeName X.env x u) Q E s:=by
 obtain⟨m,hn,hl⟩:=id I.loc;have S:(X.env.scope.kind==.class||(X.env.scope.kind==.module&&X.env.locals !=X.env.globals))=false:=by rw[I.ok.kind];rfl
 have G:i<C.length:=by rw[I.len];exact(au.mp R).1
 have nL:=I.nL;have g:∀{a:fO} {h':gc},(∃o,s.heap.get? a=some o/\H a=none)->Heap.SameBut a s.heap h'->hX X.prog X.w H h':=λ{a h'} ha f b ob e=>by
  obtain⟨_,_,D⟩:=ha;refine(I.hok b ob e).ng (λc W t q=>(f.2 c ?_).trans q) (λ_ q=>q) λ_ _ q=>q
  rintro rfl
  rcases t with rfl|t;·rw[D]at e;cases e
  ·rw[D]at t;cases t
 rcases w with hk|hk
 ·refine wpAny_storeName_local hk hn (λh' FV f=>?_) S;obtain⟨oL,_,_,FX,_⟩:=id hn;refine h _ ⟨I.ok,I.os,I.bare,⟨λb o e n N w=>?_,λb o e n N w=>?_,I.base.free,λb o e w=>?_,I.base.tups,I.base.mj,I.base.nh⟩,⟨_,FV,λj y Z l F e3=>?_⟩,λy c e=>?_,I.free,I.mi,λp hp=>?_,g ⟨oL,FX,I.free⟩ f,by simpa using I.len⟩ ⟨_,f,.inl rfl⟩;·exact(f.2 b<|aZ<|ao (Heap.lt_size e) I.ok.above).trans (I.base.keep b o e n N w)
  ·obtain⟨sl,l⟩:=I.base.slot b o e n N w;exact⟨sl,(f.2 b<|aZ<|ao (Heap.lt_size e) I.ok.above).trans l⟩
  ·obtain⟨o',l⟩:=I.base.there b o e w;exact⟨o',(f.2 b<|aZ<|ao (Heap.lt_size e) I.ok.above).trans l⟩
  ·by_cases K:j=i
   ·subst K;rw[R]at l;cases l;rw[aD G]at F;cases F;exact⟨u,r,.inl ⟨hk,by simp⟩⟩
   ·rw[aq<|b7 K]at F;obtain⟨u',r',q⟩:=hl j y Z l F e3;refine⟨u',r',?_⟩;rcases q with⟨k,e⟩|⟨k,c,e,z⟩
    ·refine .inl ⟨k,?_⟩;have:y≠x:=λe=>K (Aa hN l<|e▸R);simp[this,e]
    ·exact .inr ⟨k,c,e,z.sameBut f<|nL y c e⟩
  ·obtain⟨W,z⟩:=I.cell y c e;exact⟨W,z.sameBut f<|nL y c e⟩
  ·obtain⟨e,n,ne,nf,d⟩:=I.pin p hp;exact⟨(f.2 p.1 ne).trans e,n,ne,nf,d⟩
 ·have L:X.fn x=true:=by
   rcases hf with z|z;·exact z
   ·rw[z]at hk;cases hk
  obtain⟨c,t⟩:=I.ok.has x (.inl hk);obtain⟨W,z⟩:=I.cell x c t;refine wpAny_storeName_cell I.ok.kind hk t z (λh' U f=>?_);obtain⟨oc,P,O⟩:=id z;refine h {s with heap:=h'} ⟨I.ok,I.os,I.bare,⟨λb o e n N w=>?_,λb o e n N w=>?_,I.base.free,λb o e w=>?_,I.base.tups,I.base.mj,I.base.nh⟩,⟨m,hn.sameBut f<|b7<|nL x c t,λj y Z l F e3=>?_⟩,λy Y e=>?_,I.free,I.mi,λp hp=>?_,g ⟨oc,P,I.mi x c t⟩ f,by simpa using I.len⟩ ⟨c,f,.inr t⟩;·exact(f.2 b<|aZ<|ao (Heap.lt_size e)<|I.ok.cab x c L t).trans (I.base.keep b o e n N w)
  ·obtain⟨sl,l⟩:=I.base.slot b o e n N w;exact⟨sl,(f.2 b<|aZ<|ao (Heap.lt_size e)<|I.ok.cab x c L t).trans l⟩
  ·obtain⟨o',l⟩:=I.base.there b o e w;exact⟨o',(f.2 b<|aZ<|ao (Heap.lt_size e)<|I.ok.cab x c L t).trans l⟩
  ·by_cases K:j=i
   ·subst K;rw[R]at l;cases l;rw[aD G]at F;cases F;exact⟨u,r,.inr ⟨.inl hk,c,t,U⟩⟩
   ·rw[aq<|b7 K]at F;obtain⟨u',r',q⟩:=hl j y Z l F e3;refine⟨u',r',?_⟩;rcases q with q|⟨k,Y,e,z'⟩;·exact .inl q
    ·refine .inr ⟨k,Y,e,z'.sameBut f ?_⟩
     rintro rfl
     exact K (Aa hN l<|I.ok.inj _ _ _ e t▸R)
  ·by_cases T:Y=c;·subst T;exact⟨_,U⟩
   ·obtain⟨w2,z2⟩:=I.cell y Y e;exact⟨w2,z2.sameBut f T⟩
  ·obtain⟨e,n,ne,nf,d⟩:=I.pin p hp;refine⟨(f.2 p.1 ?_).trans e,n,ne,nf,d⟩;intro q;rw[q,P]at e;have q':oc=p.2:=Option.some.inj e;exact d W (by rw[<-q'];exact O)
def tD{M:Model}{A:gz}{E:gE}{i:Nat}{x:fR}{v:V}{u:fN}{Q:oy}(I:Inv X B C H s)(d:X.N.Nodup)(c:X.N[i]?=some x)(b:Loc X.env.scope x)(r:RelV v u)
    (h:∀a,Inv X B (C.set i<|some v) H a->Q () a)(hf:X.hf x):wpAny M A (storeName X.env x u) Q E s:=
 Bh I d c b r (λa e _=>h a e) hf
def Inv.yc{s':fS}{ch:kc}(I:Inv X B C H s)(g:s'.os=s.os)(u:Un (frs X.stack) ch H J s.heap s'.heap)(a:hX X.prog X.w J s'.heap)(h:AllBare s'.gens)
    (d:∀b∈ch,(b∈X.ex\/X.s₀.heap.objs.size<=b)/\b≠X.env.locals/\(∀x c,X.env.cells.lookup x=some c->c≠b)/\∀p∈X.pn++B,p.1≠b):Inv X B C J s':=by
 obtain⟨h',g',d',t',f⟩:=s';have e:f=s.os:=g;subst e;exact I.call (g':=g') (t':=t') (d':=d') u a h d
abbrev XK:=fN->fU fO->Hp->Prop
abbrev St:=fL (fU V)
abbrev VK:=V->Hp->Prop
abbrev TE:=St->Hp->VK->Prop
abbrev TT:=St->Hp->(f5->Hp->Prop)->Prop
abbrev TA:=St->Hp->(fL V->Hp->Prop)->Prop
structure Ends where
 nx:St->Hp->Prop
 rt:VK
 bk:St->Hp->Prop:=λ_ _=>False
 ct:St->Hp->Prop:=λ_ _=>False
abbrev TS:=Ends->St->Hp->Prop
def EP(X:Cx)(B:gp)(C:St)(Q:VK)(u:fN)(a:fS):Prop:=∃v J,Inv X B C J a/\RelV v u/\Q v J
abbrev _root_.mI:=f5->Hp->Prop
def TP(X:Cx)(B:gp)(C:St)(Q:mI)(b:f5)(a:fS):Prop:=∃J,Inv X B C J a/\Q b J
def AP(X:Cx)(B:gp)(C:St)(Q:fL V->Hp->Prop)(b:gq)(c:fS):Prop:=∃a J,Inv X B C J c/\Vals a b/\Q a J
def SP(X:Cx)(B:gp)(D:Ends)(f:Flow)(b:fS):Prop:=
 match f with
 |.next=>∃a J,Inv X B a J b/\D.nx a J
 |.brk=>∃a J,Inv X B a J b/\D.bk a J
 |.cont=>∃a J,Inv X B a J b/\D.ct a J
 |.ret u=>∃v a J,Inv X B a J b/\RelV v u/\D.rt v J
def PE(X:Cx)(e:f6)(t:TE):Prop:=
 ∀(B:gp) (s:fS) (C:St) (H:Hp) (Q:VK),Inv X B C H s->t C H Q->wpAny (model X.prog X.w) X.A (eval e X.env) (EP X B C Q) X.xe s
def PT(X:Cx)(e:f6)(t:TT):Prop:=
 ∀(B:gp) (s:fS) (C:St) (H:Hp) (Q:mI),Inv X B C H s->t C H Q->wpAny (model X.prog X.w) X.A (isTrue e X.env<|eval e X.env) (TP X B C Q) X.xe s
def PW(X:Cx)(e:f6)(t:TT):Prop:=
 ∀(a:Sem fN) (B:gp) (s:fS) (C:St) (H:Hp) (Q:mI),Inv X B C H s->t C H Q->wpAny (model X.prog X.w) X.A (isTrue e X.env a) (TP X B C Q) X.xe s
def PW.pt{X:Cx}{e:f6}{t:TT}(h:PW X e t):PT X e t:=h _
def PA(X:Cx)(b:iL)(t:TA):Prop:=
 ∀(a:Pos) (B:gp) (s:fS) (C:St) (H:Hp) (Q:fL V->Hp->Prop),Inv X B C H s->t C H Q->wpAny (model X.prog X.w) X.A (spliced<|backTo a<|starEach b X.env) (AP X B C Q) X.xe s
def PS(X:Cx)(a:Stmt)(t:TS):Prop:=
 ∀(B:gp) (s:fS) (C:St) (H:Hp) (D:Ends),Inv X B C H s->t D C H->wpAny (model X.prog X.w) X.A (exec a X.env) (SP X B D) X.xe s
def kN(X:Cx)(a:fL Stmt)(t:TS):Prop:=
 ∀(B:gp) (s:fS) (C:St) (H:Hp) (D:Ends),Inv X B C H s->t D C H->wpAny (model X.prog X.w) X.A (execs a X.env) (SP X B D) X.xe s
def gi{b:Type}{t:Sem b}{Q c:b->fS->Prop}{M:Model}{A:gz}{E:gE}{s:fS}(h:wpAny M A t Q E s)(d:∀a s,Q a s->c a s):wpAny M A t c E s:=aU h d λ_ _ x=>x
def OD(i:Nat):TE:=λC H Q=>∃v,C[i]?=some (some v)/\Q v H
def tC(v:V):TE:=λ_ H Q=>Q v H
def nX{i:Nat}{x:fR}{d:Pos}(p:X.N[i]?=some x)(hv:lM X.env.scope x)(f:i8 x)(g:(x==("__classdict__":fR))=false):PE X (.Name x d) (OD i):=by
 intro B s C H Q I h;obtain⟨v,e,h⟩:=h;obtain⟨m,k,o⟩:=I.loc;obtain⟨u,r,l⟩:=o i x v p e hv;have fin:EP X B C Q u s:=⟨v,H,I,r,h⟩;rcases l with⟨b,n⟩|⟨b,c,j,a⟩;·exact wpAny_Name (wpAny_loadName_local I.ok.kind b k n fin) f
 ·rcases b with b|b;·exact wpAny_Name (wpAny_loadName_cell I.ok.kind b j a fin) f
  ·exact wpAny_Name (wpAny_loadName_free I.ok.kind b j a fin g) f
def Jo{i j a}:PE X (.Constant (.int i) j a) (tC<|.int i):=λ_ _ _ H _ I h=>wpAny_Constant_int ⟨.int i,H,I.tok _,⟨_,rfl⟩,h⟩
def Je{b j a}:PE X (.Constant (.bool b) j a) (tC<|.bl b):=λ_ _ _ H _ I h=>Constant_bool ⟨.bl b,H,I,rfl,h⟩
def Jw{x j a}:PE X (.Constant (.str x) j a) (tC<|.str x):=λ_ _ _ H _ I h=>Calls.Constant_str ⟨.str x,H,I.tok _,⟨_,rfl⟩,h⟩
def Gl(X:Cx)(x:fR):Prop:=X.env.kindOf x=some .globalImplicit
def zP{E:gE}{B:gp}{s:fS}{C:St}{H:Hp}{x:fR}{u:fN}{a:Pos}{Q:gE}(I:Inv X B C H s)(c:Gl X x)(b:X.mg x=some u)(h:Q u s)
    (d:i8 x):wpAny (model X.prog X.w) X.A (eval (.Name x a) X.env) Q E s:=
 ec I.ok.kind c (Calls.loadGlobal_global (by rw[I.ok.glob];exact I.mod.glob.keeps I.bk) b h) d
def mn{E:gE}{B:gp}{s:fS}{C:St}{H:Hp}{x:fR}{u:fN}{a:Pos}{Q:gE}(I:Inv X B C H s)(d:Gl X x)(c:X.mg x=none)(hv:bootBuiltins x=some u)(h:Q u s)
    (b:x≠"__name__")(e:i8 x):wpAny (model X.prog X.w) X.A (eval (.Name x a) X.env) Q E s:=by
 obtain⟨i,g,f⟩:=I.mod.blt;exact ec I.ok.kind d (Calls.loadGlobal_builtin (by rw[I.ok.glob];exact I.mod.glob.keeps I.bk) c (by rw[I.ok.blt];exact g.keeps I.bk) ((f x b).trans hv) h) e
def Jf{x:fR}{v:V}{u:fN}{a:Pos}(d:Gl X x)(c:X.mg x=none)(hv:bootBuiltins x=some u)(r:RelV v u)(b:x≠"__name__")(e:i8 x):PE X (.Name x a) (tC v):=
 λ_ _ _ H _ I h=>mn I d c hv ⟨v,H,I,r,h⟩ b e
variable{a b:f6}{U tb:TE}{F:Pos}
def PC(X:Cx)(e:CmpOp)(a b:f6)(t:TE):Prop:=
 ∀(B:gp) (s:fS) (C:St) (H:Hp) (Q:VK),Inv X B C H s->t C H Q->
  wpAny (model X.prog X.w) X.A (eval a X.env) (λv d=>wpAny (model X.prog X.w) X.A (eval b X.env) (λu c=>wpAny (model X.prog X.w) X.A (compareOp e v u) (EP X B C Q) X.xe c) X.xe d) X.xe s
def tB(t:TE):TT:=λC H Q=>t C H λx d=>∃c,x=.bl c/\Q c d
def JW{e:CmpOp}{t:TE}(h:PC X e a b t)(g:behindInMarks e b=false):PT X (.Compare a [e] [b] F) (tB t):=by intro B s C H Q I k;refine wpAny_isTrue_Compare1 (gi (h B s C H _ I k) λv r g=>gi g λu p l=>gi l λc o f=>?_) g;obtain⟨x,n,m,i,j⟩:=f;obtain⟨d,rfl,q⟩:=j;cases i;exact bW ⟨n,m,q⟩
variable{Y tG:TT}{rest:iL}
def N8(t u:TT):TT:=λC H Q=>t C H λc d=>if c=true then u C d Q else Q false d
def Ou(t u:TT):TT:=λC H Q=>t C H λc d=>if c=true then Q true d else u C d Q
def Oq(t:TT):TT:=λC H Q=>t C H λc d=>Q (!c) d
def Ka(d:PT X a Y):PW X (.BoolOp .And [a] F) Y:=by
 intro f B s C H Q I h;refine isTrue_and (gi (d B s C H Q I h) λc g e=>?_);cases c with
 |true=>exact isTrue_and_nil e
 |false=>exact e
def Kc(d:PT X a Y):PW X (.BoolOp .Or [a] F) Y:=by
 intro f B s C H Q I h;refine isTrue_or (gi (d B s C H Q I h) λc g e=>?_);cases c with
 |false=>exact isTrue_or_nil e
 |true=>exact e
def J4(k:PT X a Y)(j:PW X (.BoolOp .And (b::rest) F) tG):PW X (.BoolOp .And (a::b::rest) F) (N8 Y tG):=by
 intro g B s C H Q I h;refine isTrue_and (gi (k B s C H _ I h) λc i ⟨f,e,d⟩=>?_);cases c with
 |true=>exact j g B i C f Q e d
 |false=>exact⟨f,e,d⟩
def Kb(k:PT X a Y)(j:PW X (.BoolOp .Or (b::rest) F) tG):PW X (.BoolOp .Or (a::b::rest) F) (Ou Y tG):=by
 intro g B s C H Q I h;refine isTrue_or (gi (k B s C H _ I h) λc i ⟨f,e,d⟩=>?_);cases c with
 |true=>exact⟨f,e,d⟩
 |false=>exact j g B i C f Q e d
def JX(d:PT X a Y):PT X (.UnaryOp .Not a F) (Oq Y):=by intro B s C H Q I h;exact isTrue_not (d B s C H (λc e=>Q (!c) e) I h)
def N9(U tb:TE):TE:=λC H Q=>U C H λx d=>∃c,x=.bl c/\if c=true then tb C d Q else Q (.bl false) d
def Ot(U:TE):TE:=λC H Q=>U C H λx d=>∃c,x=.bl c/\Q (.bl<|!c) d
def Js{c}{t:TE}(h:PE X a t):PE X (.BoolOp c [a] F) t:=λB s C H Q I d=>BoolOp_one (h B s C H Q I d)
def Jd(l:PE X a U)(k:PE X (.BoolOp .And (b::rest) F) tb):PE X (.BoolOp .And (a::b::rest) F) (N9 U tb):=by
 intro B s C H Q I h;refine BoolOp_and (gi (l B s C H _ I h) λv i e=>?_);obtain⟨x,g,f,j,d⟩:=e;obtain⟨c,rfl,d⟩:=d;cases j;refine bW ?_;cases c with
 |true=>exact k B i C g Q f d
 |false=>exact⟨.bl false,g,f,rfl,d⟩
def Jr(g:PE X a U):PE X (.UnaryOp .Not a F) (Ot U):=by intro B s C H Q I h;refine UnaryOp_ (gi (g B s C H _ I h) λv k e=>?_);obtain⟨x,j,i,f,d⟩:=e;obtain⟨c,rfl,d⟩:=d;cases f;exact not_of (bW ⟨.bl<|!c,j,i,rfl,d⟩)
abbrev _root_.lL:=fY fN
def iF(K:fZ)(H:Hp)(a:fO)(d:fL V):Prop:=
 Rd H a (.lst d)\/
  ∃(o:iC) (c:lL) (n:Nat),K.lookup a=some o/\o.cls=.type "list"/\o.dict=none/\o.data=.seq c n/\c.size<=sizeLine/\Vals d c.toList
def jC(K:fZ)(H:Hp)(a:fO)(d:fL V):Prop:=
 Rd H a (.tup d)\/
  ∃(o:iC) (c:lL) (n:Nat),K.lookup a=some o/\o.cls=.type "tuple"/\o.data=.seq c n/\c.size<=sizeLine/\Vals d c.toList
noncomputable def Cr:fN->fU V
 |.none=>some .non
 |.bool b=>some (.bl b)
 |.int i _=>some (.int i)
 |.str x _=>some (.str x)
 |.bytes b _=>some (.kF b)
 |.float b _=>some (.flt b)
 |.ref a=>some (.ref a)
 |.type n=>some (.ty n)
 |_=>none
def RelV.abs{x:V}{u:fN}(r:RelV x u):Cr u=some x:=by
 cases x with
 |non=>cases r;rfl
 |bl _=>cases r;rfl
 |int _=>obtain⟨t,rfl⟩:=r;rfl
 |str _=>obtain⟨t,rfl⟩:=r;rfl
 |kF _=>obtain⟨t,rfl⟩:=r;rfl
 |flt _=>obtain⟨t,rfl⟩:=r;rfl
 |ref _=>cases r;rfl
 |ty _=>cases r;rfl
def RelV.inj{x y:V}{u:fN}(r:RelV x u)(q:RelV y u):x=y:=Option.some.inj (r.abs.symm.trans q.abs)
theorem Vals.inj:∀{d c:fL V} {e:gq},Vals d e->Vals c e->d=c
 |_,_,_,.nil,.nil=>rfl
 |_,_,_,.cons r t,.cons g f=>by rw[r.inj g,Vals.inj t f]
variable{C:St}{a:fO}{O ys:fL V}
def Inv.list(I:Inv X B C H s)(h:iF X.K H a O):∃c:fL fN,Vals O c/\PlainL s.heap a c.toArray/\O.length<=sizeLine:=by
 rcases h with h|⟨o,c,n,hk,hc,hd,hs,hz,r⟩
 ·obtain⟨z,c,n,r,e⟩:=h.ok I.hok;exact⟨c,r,⟨_,n,e,rfl,rfl,rfl⟩,z⟩
 ·refine⟨c.toList,r,⟨o,n,I.jR a o hk,hc,hd,by simpa using hs⟩,?_⟩;have e:=r.length;simp only[aJ]at e;omega
def Inv.tuple(I:Inv X B C H s)(h:jC X.K H a O):∃c:fL fN,Vals O c/\IsTup s.heap a c.toArray/\O.length<=sizeLine:=by
 rcases h with h|⟨o,c,n,hk,hc,hs,hz,r⟩
 ·obtain⟨z,c,r,p⟩:=h.ok I.hok;exact⟨c,r,p,z⟩
 ·refine⟨c.toList,r,⟨o,I.jR a o hk,hc,n,by simpa using hs⟩,?_⟩;have e:=r.length;simp only[aJ]at e;omega
def Inv.G7(I:Inv X B C H s)(h:iF X.K H a O)(h':iF X.K H a ys):O=ys:=by
 obtain⟨f,r,⟨o,n,e,_,_,d⟩,_⟩:=I.list h;obtain⟨c,j,⟨k,l,g,_,_,i⟩,_⟩:=I.list h';rw[e]at g;cases g;rw[d]at i;injection i with d1 _;have:f=c:=by simpa using a9 Array.toList d1
 subst this;exact r.inj j
def Inv.OR(I:Inv X B C H s)(h:jC X.K H a O)(h':jC X.K H a ys):O=ys:=by
 obtain⟨f,r,⟨o,e,_,n,d⟩,_⟩:=I.tuple h;obtain⟨c,j,⟨k,g,_,l,i⟩,_⟩:=I.tuple h';rw[e]at g;cases g;rw[d]at i;injection i with d1 _;have:f=c:=by simpa using a9 Array.toList d1
 subst this;exact r.inj j
variable{st:Stmt}{rest:fL Stmt}{t u:TS}{e:f6}{S:TE}
def Om:TS:=λD C H=>D.nx C H
def Oz(t u:TS):TS:=λD C H=>t {D with nx:=u D} C H
def wH:kN X [] Om:=λ_ _ C H _ I h=>dS ⟨C,H,I,h⟩
def AI(i:PS X st t)(g:kN X rest u):kN X (st::rest) (Oz t u):=by
 intro B s C H D I h;refine wpAny_execs_cons (gi (i B s C H {D with nx:=u D} I h) λf d q=>?_);cases f with
 |next=>obtain⟨c,J,j,q⟩:=q;exact g B d c J D j q
 |ret v=>exact q
 |brk=>exact q
 |cont=>exact q
def tf(c:PS X st t):kN X [st] t:=by
 intro B s C H D I h;refine wpAny_execs_cons (gi (c B s C H D I h) λf d q=>?_);cases f with
 |next=>exact dS q
 |ret v=>exact q
 |brk=>exact q
 |cont=>exact q
def Oc:TS:=λD C H=>D.bk C H
def JQ:PS X (.Break F) Oc:=λ_ _ C H _ I h=>wpAny_Break ⟨C,H,I,h⟩
def Inv.quiet{B:gp}{C:St}{H:Hp}{s:fS}(I:Inv X B C H s):interactive X.env=false:=by simp[interactive,I.ok.kind]
def Oh(S:TE):TS:=λD C H=>S C H λ_ c=>D.nx C c
def td(f:PE X e S)(d:swapsWith e none F.line X.env=pure false):PS X (.Expr e F) (Oh S):=by intro B s C H D I h;exact wpAny_Expr_any (gi (f B s C H _ I h) λv j ⟨x,i,g,k,c⟩=>⟨C,i,g,c⟩) I.quiet d
def Oy(S:TE):TS:=λD C H=>S C H D.rt
def wD(f:PE X e S):PS X (.Return (some e) F) (Oy S):=by intro B s C H D I h;exact wpAny_Return_some (gi (f B s C H _ I h) λv j ⟨x,i,g,c,d⟩=>⟨x,C,i,g,c,d⟩)
def Oj(c:TT)(t u:TS):TS:=λD C H=>c C H λb d=>if b=true then t D C d else u D C d
def wC{c:f6}{a b:fL Stmt}{f:TT}(l:PT X c f)(n:kN X a t)(m:kN X b u):PS X (.If c a b F) (Oj f t u):=by
 intro B s C H D I h;refine wpAny_If (gi (l B s C H _ I h) λd g ⟨k,j,i⟩=>?_);cases d with
 |true=>exact n B g C k D j i
 |false=>exact m B g C k D j i
abbrev TG:=V->St->Hp->(St->Hp->Prop)->Prop
abbrev mF:=fL V->St->Hp->(St->Hp->Prop)->Prop
def PG(X:Cx)(c:f6)(t:TG):Prop:=
 ∀(B:gp) (s:fS) (C:St) (H:Hp) (v:V) (u:fN) (Q:St->Hp->Prop),Inv X B C H s->RelV v u->t v C H Q->
  wpAny (model X.prog X.w) X.A (assign c X.env u) (λ_ f=>∃d J,Inv X B d J f/\Q d J) X.xe s
def pY(X:Cx)(f:iL)(t:mF):Prop:=
 ∀(B:gp) (s:fS) (C:St) (H:Hp) (d:fL V) (us:gq) (Q:St->Hp->Prop),Inv X B C H s->Vals d us->t d C H Q->
  wpAny (model X.prog X.w) X.A (assignInOrder ((assignEach f X.env).map (·.2)) us) (λ_ g=>∃c J,Inv X B c J g/\Q c J) X.xe s
abbrev um:=V->V->V->Hp->(Hp->Prop)->Prop
def xK(X:Cx)(t:um):Prop:=
 ∀(B:gp) (s:fS) (C:St) (H:Hp) (o i v:V) (c d u:fN) (Q:Hp->Prop),Inv X B C H s->RelV o c->RelV i d->RelV v u->t o i v H Q->
  wpAny (model X.prog X.w) X.A (setItem c d u) (λ_ f=>∃J,Inv X B C J f/\Q J) X.xe s
def vg(i:Nat):TG:=λv C H Q=>Q (C.set i<|some v) H
def wz{i:Nat}{x:fR}(f:X.N.Nodup)(d:X.N[i]?=some x)(c:Loc X.env.scope x)(hf:X.hf x):PG X (.Name x F) (vg i):=by intro B s C H v u Q I r h;exact wpAny_assign_Name (tD I f d c r (λj g=>⟨_,H,g,h⟩) hf)
def ER:mF:=λc C H Q=>c=[]/\Q C H
def EO(t:TG)(u:mF):mF:=λd C H Q=>∃v r,d=v::r/\t v C H λc J=>u r c J Q
def JD:pY X [] ER:=by intro B s C H c d Q I r h;obtain⟨e,h⟩:=h;subst e;cases r;exact assignInOrder_nil ⟨C,H,I,h⟩
def JC{e:f6}{c:iL}{t:TG}{u:mF}(m:PG X e t)(l:pY X c u)
    (k:(assignEach (e::c) X.env).map (·.2)=assign e X.env::(assignEach c X.env).map (·.2)):pY X (e::c) (EO t u):=by
 intro B s C H q x Q I r h;obtain⟨v,w,n,h⟩:=h;subst n;cases r with
 |cons r i=>rw[k];refine ee (gi (m B s C H _ _ _ I r h) λ_ g f=>?_);obtain⟨d,p,o,j⟩:=f;exact l B g d p _ _ Q o i j
def ET(K:fZ)(n:Nat)(t:mF):TG:=λv C H Q=>∃a O,v=.ref a/\jC K H a O/\O.length=n/\t O C H Q
def JB{c:iL}{k:Nat}{t:mF}{n:Nat}(w:X.calm=true)(h:pY X c t)
    (p:(assignEach c X.env).length=n)(f:(assignEach c X.env).findIdx? (·.1)=none):PG X (.Tuple c k F) (ET X.K n t):=by
 intro B s C H v u Q I r d;obtain⟨a,O,x,m,q,d⟩:=d;subst x;cases r;obtain⟨i,g,l,z⟩:=I.tuple m;refine assign_Tuple_tuple (I.ok.hd w) l (by simp[p,<-q,g.length]) f λh' j=>?_;have y:Inv X B C H {s with heap:=h'}:=I.kept (t':=s.toks) λb o e=>j b o (aZ<|Heap.lt_size e) e;exact h B _ C H O _ Q y (by simpa using g) d
def ES(c d:TE)(t:um):TG:=λv C H Q=>c C H λo h=>d C h λi g=>t o i v g λf=>Q C f
def JA{o i:f6}{g j:TE}{t:um}(A:PE X o g)(D:PE X i j)(z:xK X t)
    (E:∀v,assign (.Subscript o i F) X.env v=(do
      let d<-holding [v] (eval o X.env)
      let f<-holding [v,d] (eval i X.env)
      standAt F
      holding [v,d,f] (setItem d f v)
      release [v,d,f] [])):PG X (.Subscript o i F) (ES g j t):=by
 intro B s C H v u Q I r h;rw[E];refine aa (cb<|gi (A B s C H _ I h) λd l c=>?_);obtain⟨x,P,L,n,w⟩:=c;refine aa (cb<|gi (D B l C P _ L w) λf k c=>?_);obtain⟨y,N,K,m,q⟩:=c;refine aa (dN<|aa<|cb<|gi (z B k C N x y v d f u _ K n m r q) λ_ R ⟨M,G,p⟩=>?_);exact wpAny_release ⟨C,M,G,p⟩
def xf(S:TE)(g:TG):TS:=λD C H=>S C H λx c=>g x C c D.nx
def JP{c e:f6}{S:TE}{g:TG}(n:PE X e S)(m:PG X c g)(l:swapsWithSole [c] e F.line X.env=pure false)(k:swappedStores [c] e X.env=pure none)
    (o:(assignEach [c] X.env).map (·.2)=[assign c X.env]):PS X (.Assign [c] e F) (xf S g):=by
 intro B s C H D I h;refine wpAny_Assign_stores (gi (n B s C H _ I h) λv f d=>?_) l k;obtain⟨x,r,p,i,j⟩:=d;rw[o];exact gi (m B f C r x v _ p i j) λ_ w q=>q
def wF{i:Nat}{x:fR}{e:f6}{S:TE}{c:Pos}(n:X.N.Nodup)(l:X.N[i]?=some x)(j:Loc X.env.scope x)(m:PE X e S)(k:swapsWith e (some<|.Name x c) F.line X.env=pure false)(hf:X.hf x):
    PS X (.Assign [.Name x c] e F) (xf S<|vg i):=by
 intro B s C H D I h;refine wpAny_Assign_Name (gi (m B s C H _ I h) λv w d=>?_) k;obtain⟨y,q,p,f,g⟩:=d;exact tD p n l j f (λr o=>⟨_,q,o,g⟩) hf
def Ov(i j:Nat)(U:TA):TS:=λD C H=>U C H λc d=>∃v w,c=[v,w]/\D.nx ((C.set i<|some v).set j (some w)) d
def JS{i j:Nat}{x y:fR}{a b:f6}{U:TA}{n m pt:Pos}{r z c}(hc:X.calm=true)(M:X.N.Nodup)(hi:X.N[i]?=some x)(hj:X.N[j]?=some y)(G:i≠j)
    (L:X.env.scope.names.lookup x=some .local)(K:X.env.scope.names.lookup y=some .local)(ha:PA X [a,b] U)
    (hw:swappedStores [.Tuple [.Name x n,.Name y m] r pt] (.Tuple [a,b] z c) X.env=pure (some [x,y]))
    (hs:swapsWithSole [.Tuple [.Name x n,.Name y m] r pt] (.Tuple [a,b] z c) F.line X.env=pure false):
    PS X (.Assign [.Tuple [.Name x n,.Name y m] r pt] (.Tuple [a,b] z c) F) (Ov i j U):=by
 intro B s C H D I h;rw[exec_Assign_arm];refine aa (dN ?_);rw[hs];refine aa (aG ?_);rw[ah<|by decide];refine aa (Tuple_<|gi (ha _ B s C H _ I h) λQ g E=>?_);obtain⟨vs,P,I1,T,l⟩:=E;obtain⟨v,w,e1,l⟩:=l;subst e1;obtain⟨f,d,rfl,R,k⟩:∃f d,Q=[f,d]/\RelV v f/\RelV w d:=by
  cases T with
  |cons p q=>
   cases q with
   |cons Z W=>cases W;exact⟨_,_,rfl,p,Z⟩
 refine bX ?_ (by show 2<=sizeLine;decide);have I2:Inv X B C P {g with heap:=g.heap.push {cls:=.type "tuple",data:=.seq [f,d].toArray}}:=I1.kept (t':=g.toks) λb o e=>ag _ e;rw[hw];refine aa (aG ?_);show wpAny (model X.prog X.w) X.A (do rule "assign.swapped-stores";let items<-unpackItems (.ref g.heap.objs.size) 2 none;assignInOrder [λv=>bindName X.env y v,λv=>bindName X.env x v] items.reverse;pure Flow.next) _ _ _;refine aa (cZ<|aa<|unpackItems_tuple (items:=#[f,d]) (I.ok.hd hc) (IsTup.new g.heap _) λh' A=>?_);have I3:=I2.kept (h':=h') (t':=g.toks) λb o e=>A b o (aZ<|Heap.lt_size e) e;show wpAny _ _ (assignInOrder [λv=>bindName X.env y v,λv=>bindName X.env x v] [d,f]>>=λ_=>pure Flow.next) _ _ _;refine aa (ee<|fA<|tD I3 M hj (.inl K) k (λs2 I4=>?_)<|.inr K);refine ee (fA<|tD I4 M hi (.inl L) R (λs3 N=>assignInOrder_nil<|aG ?_)<|.inr L);rw[List.set_comm _ _<|b7 G]at N;exact⟨_,P,N,l⟩
def OE(c:TT)(tb:TS):TS:=λD C H=>∃W:Nat->St->Hp->Prop,(∃m,W m C H)/\∀m C H,W m C H->
 c C H λb g=>if b=true then∃N:St->Hp->Prop,(∀d J,N d J->∃f,f<m/\W f d J)/\tb {D with nx:=N,ct:=N,bk:=D.nx} C g else D.nx C g
def JU{c:f6}{i:fL Stmt}{y:TT}{tb:TS}(z:PassesOwn (model X.prog X.w) X.A X.env X.xe)(Z:PT X c y)(hb:kN X i tb):PS X (.While c i [] F) (OE y tb):=by
 intro B s C H D I h;obtain⟨W,⟨T,M⟩,k⟩:=h;refine wpAny_While (codeAny_whileLoop (λn R=>∃j J,Inv X B j J R/\W n j J) ?_ T ⟨C,H,I,M⟩)
 rintro n Q ⟨g,K,I1,L⟩
 refine cu z (gi (Z B Q g K _ I1<|k n g K L) λb P ⟨G,E,o⟩=>?_);cases b with
 |true=>
  obtain⟨N,A,o⟩:=o;rw[ae rfl];refine cu z (gi (hb B P g G _ E o) λf s3 m=>?_);cases f with
  |next=>obtain⟨d,l,x,q⟩:=m;obtain⟨r,w,p⟩:=A d l q;exact⟨r,w,d,l,x,p⟩
  |cont=>obtain⟨d,l,x,q⟩:=m;obtain⟨r,w,p⟩:=A d l q;exact⟨r,w,d,l,x,p⟩
  |brk=>exact m
  |ret v=>exact m
 |false=>rw[ah aN];exact dS ⟨g,G,E,o⟩
end
structure It where
 go:Nat->Hp->Prop
 tN:Nat->Hp->V->Hp->Prop
 stop:Nat->Hp->Prop
def jO(X:Cx)(a:gp)(H:Hp)(b:fO):Prop:=
 H b=none/\b≠X.env.locals/\b∉X.fs/\(b∈X.ex\/X.s₀.heap.objs.size<=b)/\(∀x c,X.env.cells.lookup x=some c->c≠b)/\∀p∈X.pn++a,p.1≠b
def Inv.nP{X:Cx}{a:gp}{g:St}{H f:Hp}{s:fS}{b:fO}(I:Inv X a g H s)(d:s.heap.objs.size<=b)(i:f b=none):jO X a f b:=by
 refine⟨i,dq<|ao I.lt d,I.HU d,.inr<|aC I.sz d,λx c e z=>?_,λp h z=>?_⟩
 ·obtain⟨v,q⟩:=I.cell x c e;exact absurd (ao q.lt (by rw[z];exact d)) (bA _)
 ·exact absurd (ao (Heap.lt_size (I.pin p h).1)<|by rw[z];exact d) (bA _)
structure Turn(P:gy)(w:gs)(K:fZ)(tg:f6)(J:It)(fp:kc)(it:fO)(tn:Nat->gc->Prop):Prop where
 mem:it∈fp
 obj:∀i h,tn i h->∀b∈fp,∃o,h.get? b=some o/\∀v,o.data≠.cell v
 keep:∀i h h',tn i h->(∀b∈fp,∀o,h.get? b=some o->h'.get? b=some o)->tn i h'
 item:∀(X:Cx),X.prog=P->X.w=w->X.K=K->X.calm=true->∀(i:Nat) (pins:gp) (s:fS) (σ:St) (H:Hp) (E:gE),Inv X pins σ H s->(∀b∈fp,jO X pins H b)->tn i s.heap->J.go i H->
  wpAny (model P w) X.A (pyNext (.ref it)) (λr s1=>∃u,r=some u/\
   wpAny (model P w) X.A (letOwnedTupleGo tg (.ref it) u) (λ_ s2=>∃x H',Inv X pins σ H' s2/\RelV x u/\J.tN i H x H'/\tn (i+1) s2.heap/\∀b∈fp,H' b=none) E s1) E s
 done:∀(X:Cx),X.prog=P->X.w=w->X.K=K->X.calm=true->∀(i:Nat) (pins:gp) (s:fS) (σ:St) (H:Hp) (E:gE),Inv X pins σ H s->(∀b∈fp,jO X pins H b)->tn i s.heap->J.stop i H->
  wpAny (model P w) X.A (pyNext<|.ref it) (λr s1=>r=none/\Inv X pins σ H s1) E s
 self:∀(A:gz) (i:Nat) (s:fS) (Q:gE) (E:gE),tn i s.heap->Q (.ref it) s->wpAny (model P w) A (pyIter<|.ref it) Q E s
abbrev TI:=St->Hp->(It->Hp->Prop)->Prop
def PIE(X:Cx)(a:gp)(i:St)(j:f6)(R:It->Hp->Prop)(c:fN)(f:fS):Prop:=
 ∃(g:fO) (h:kc) (e:Nat->gc->Prop) (J:It) (d:Hp),c=.ref g/\Inv X a i d f/\Turn X.prog X.w X.K j J h g e/\e 0 f.heap/\(∀b∈h,jO X a d b)/\R J d
def PI(X:Cx)(d b:f6)(c:TI):Prop:=
 ∀(a:gp) (s:fS) (σ:St) (H:Hp) (R:It->Hp->Prop),Inv X a σ H s->c σ H R->
  wpAny (model X.prog X.w) X.A (eval b X.env) (λv e=>wpAny (model X.prog X.w) X.A (pyIter v) (PIE X a σ d R) X.xe e) X.xe s
def oX{M:Model}{A:gz}{E:gE}{s:fS}{c:f6}{d:fO}{u:fN}{o:iC}{n:String}{b:lL}{Q:oy}(e:s.heap.get? d=some o)(i:o.cls=.type n)(g:o.data=.fields b)
    (f:["enumerate","zip","dict_itemiterator","dict_reverseitemiterator","odict_iterator","itertools.zip_longest","itertools.pairwise"].contains n=false)(a:Q () s):wpAny M A (letOwnedTupleGo c (.ref d) u) Q E s:=by
 unfold letOwnedTupleGo
 cases c<;>first
  |exact aG a
  |(cases u<;>first
     |exact aG a
     |(refine aa (wpAny_load e ?_)
       rw[i,g];show wpAny M A (if(["enumerate","zip","dict_itemiterator","dict_reverseitemiterator","odict_iterator","itertools.zip_longest","itertools.pairwise"].contains n&&b[0]?==some (rawInt _))=true then _ else _) Q E s;rw[ah (by intro h;rw[f,Bool.false_and]at h;cases h)];exact aG a))
def tY(K:fZ)(a:fO):It:=
 ⟨λi H=>∃b x,iF K H a b/\b[i]?=some x,λi H x c=>c=H/\∀b,iF K H a b->b[i]?=some x,λi H=>∃b,iF K H a b/\b.length<=i⟩
def tZ(K:fZ)(a:fO):It:=
 ⟨λi H=>∃b x,jC K H a b/\b[i]?=some x,λi H x c=>c=H/\∀b,jC K H a b->b[i]?=some x,λi H=>∃b,jC K H a b/\b.length<=i⟩
def pU(lo:Int)(n:Nat):It:=⟨λi _=>i<n,λi H x a=>a=H/\x=.int (lo+i),λi _=>n<=i⟩
def OU{P:gy}{w:gs}{K:fZ}{R:f6}(a j:fO):Turn P w K R (tY K a) [j] j (λi h=>h.IsListIter j a i) where
 mem:=by simp
 obj:=λi h f b l=>by
  have e:b=j:=by simpa using l
  subst e;obtain⟨o,e,c,d⟩:=f;exact⟨o,e,λv z=>by rw[d]at z;cases z⟩
 keep:=λi h q f k=>f.at λo e=>k j (by simp) o e
 item:=by intro X C A D O i g s N H E I hf f B;subst C A D;obtain⟨Q,x,n,y⟩:=B;obtain⟨t,r,p,U⟩:=I.list n;obtain⟨u,Y,T⟩:=r.get y;obtain⟨M,L,Z,J,G,F⟩:=hf j (by simp);refine wpAny_pyNext_list_item f p.isList (x:=u) (by simpa using Y) λq m S=>?_;have I1:Inv X g N H {s with heap:=q}:=I.turned (t':=s.toks) (λb o l e=>(S.2 b l).trans e) M L J G F;obtain⟨o,e,c,d⟩:=id m;exact⟨u,rfl,oX (s:={s with heap:=q}) e c d (by decide) ⟨x,H,I1,T,⟨rfl,λys V=>by rw[I.G7 V n];exact y⟩,m,λb l=>(hf b l).1⟩⟩
 done:=by intro X C A D O i g s N H E I hf f B;subst C A D;obtain⟨Q,n,y⟩:=B;obtain⟨t,r,p,U⟩:=I.list n;obtain⟨M,L,Z,J,G,F⟩:=hf j (by simp);have hl:=r.length;exact wpAny_pyNext_list_end (I.ok.hd O) f p.isList (by simp;omega) λq eb=>⟨rfl,I.turned (t':=s.toks) (λb o l e=>eb b o l e) M L J G F⟩
 self:=λ_ _ _ _ _ f h=>wpAny_pyIter_listiter f h
def OX{P:gy}{w:gs}{K:fZ}{R:f6}(a l:fO):Turn P w K R (tZ K a) [l] l (λi h=>h.IsTupleIter l a i) where
 mem:=by simp
 obj:=λi h f b m=>by
  have e:b=l:=by simpa using m
  subst e;obtain⟨o,e,c,d⟩:=f;exact⟨o,e,λv z=>by rw[d]at z;cases z⟩
 keep:=λi h r f k=>f.at λo e=>k l (by simp) o e
 item:=by intro X C A D O i g s N H E I hf f B;subst C A D;obtain⟨Q,x,q,y⟩:=B;obtain⟨j,t,p,U⟩:=I.tuple q;obtain⟨u,Y,T⟩:=t.get y;obtain⟨M,L,Z,J,G,F⟩:=hf l (by simp);refine wpAny_pyNext_tuple_item f (show s.heap.IsTuple a j.toArray from p) (x:=u) (by simpa using Y) λr n S=>?_;have I1:Inv X g N H {s with heap:=r}:=I.turned (t':=s.toks) (λb o m e=>(S.2 b m).trans e) M L J G F;obtain⟨o,e,c,d⟩:=id n;exact⟨u,rfl,oX (s:={s with heap:=r}) e c d (by decide) ⟨x,H,I1,T,⟨rfl,λys V=>by rw[I.OR V q];exact y⟩,n,λb m=>(hf b m).1⟩⟩
 done:=by intro X C A D O i g s N H E I hf f B;subst C A D;obtain⟨Q,q,y⟩:=B;obtain⟨j,t,p,U⟩:=I.tuple q;obtain⟨M,L,Z,J,G,F⟩:=hf l (by simp);have hl:=t.length;exact wpAny_pyNext_tuple_end (I.ok.hd O) f (show s.heap.IsTuple a j.toArray from p) (by simp;omega) λr eb=>⟨rfl,I.turned (t':=s.toks) (λb o m e=>eb b o m e) M L J G F⟩
 self:=λ_ _ _ _ _ f h=>wpAny_pyIter_tupleiter f h
def OV{P:gy}{w:gs}{K:PySem.W.Frag}{F:f6}(d:fO)(lo:Int)(n:Nat):Turn P w K F (pU lo n) [d] d (λi h=>IsRangeIter h d (lo+(i:Nat)*1) ((n:Int) - (i:Nat)) 1) where
 mem:=by simp
 obj:=λi h a b f=>by
  have e:b=d:=by simpa using f
  subst e;exact⟨_,a,λv z=>by have D:Data.fields _=Data.cell v:=z;cases D⟩
 keep:=λi h j a k=>k d (by simp) _ a
 item:=by intro X q l r p i c s C H E I hf a m;subst q l r;obtain⟨B,A,J,y,x,u⟩:=hf d (by simp);have W:=Walks.range (prog:=X.prog) (w:=X.w) (I.ok.hd p) d lo 1 n;refine W.item i s _ _ m a λv j tk hv g G=>?_;obtain⟨t,rfl⟩:=hv;have M:Inv X c C H {s with heap:=j,toks:=tk}:=I.turned (λb o f e=>G b o (by simpa using f) e) B A y x u;refine⟨_,rfl,oX (s:={s with heap:=j,toks:=tk}) (n:="range_iterator") g rfl rfl (by decide) ⟨.int<|lo+i,H,M,⟨t,?_⟩,⟨rfl,rfl⟩,g,λb f=>(hf b f).1⟩⟩;rw[Int.mul_one]
 done:=by intro X q l r p i c s C H E I hf a m;subst q l r;obtain⟨B,A,J,y,x,u⟩:=hf d (by simp);exact wpAny_pyNext_range_end (I.ok.hd p) a (by have:n<=i:=m;omega) λj L=>⟨rfl,I.turned (t':=s.toks) (λb o f e=>L b o f e) B A y x u⟩
 self:=λ_ _ _ _ _ a h=>wpAny_pyIter_rangeiter a h
section
variable{X:Cx}{M:f6}
def F7(K:fZ)(e:TE):TI:=λc H R=>e c H λx b=>∃a,x=.ref a/\(∃d,iF K b a d)/\R (tY K a) b
def Gd(K:fZ)(e:TE):TI:=λc H R=>e c H λx b=>∃a,x=.ref a/\(∃d,jC K b a d)/\R (tZ K a) b
def AA{l:f6}{i:TE}(t:PE X l i):PI X M l (F7 X.K i):=by
 intro c s j H R I h;refine gi (t c s j H _ I h) λv d g=>?_;obtain⟨x,w,f,k,m⟩:=g;obtain⟨a,e,⟨y,r⟩,q⟩:=m;subst e;cases k;obtain⟨n,z,p,A⟩:=f.list r;refine wpAny_pyIter_list p.isList ?_;refine⟨d.heap.objs.size,[d.heap.objs.size],_,_,w,rfl,f.kept (t':=d.toks) λb o e=>ag _ e,OU a _,⟨_,aQ _ rfl,rfl,rfl⟩,λb u=>?_,q⟩;have e:b=d.heap.objs.size:=by simpa using u
 subst e;exact f.nP (af _) (f.hok.fresh<|af _)
def JI{l:f6}{j:TE}(t:PE X l j):PI X M l (Gd X.K j):=by
 intro d s k H R I h;refine gi (t d s k H _ I h) λv c i=>?_;obtain⟨x,w,f,m,n⟩:=i;obtain⟨a,e,⟨y,r⟩,q⟩:=n;subst e;cases m;obtain⟨g,z,p,A⟩:=f.tuple r;refine wpAny_pyIter_tuple (show c.heap.IsTuple a g.toArray from p) ?_;refine⟨c.heap.objs.size,[c.heap.objs.size],_,_,w,rfl,f.kept (t':=c.toks) λb o e=>ag _ e,OX a _,⟨_,aQ _ rfl,rfl,rfl⟩,λb u=>?_,q⟩;have e:b=c.heap.objs.size:=by simpa using u
 subst e;exact f.nP (af _) (f.hok.fresh<|af _)
def AU{c:gp}{d:St}{H:Hp}{s:fS}{R:It->Hp->Prop}{E:gE}{lo a:Int}{t u v:Tok}{tk:Nat}(I:Inv X c d H s)(k: -(2^62)<=lo)(j:lo<2^62)(i: -(2^62)<=a)(h:a<2^62)
    (q:R (pU lo (a - lo).toNat) H):wpAny (model X.prog X.w) X.A (pyIter<|.ref s.heap.objs.size) (PIE X c d M R) E {s with heap:=s.heap.push {cls:=.type "range",data:=.fields #[.int lo t,.int a u,.int 1 v]},toks:=tk}:=by
 refine wpAny_pyIter_range (IsRange.new ..) (small_one k j i h) ?_;have f:Inv X c d H {s with heap:=s.heap.push {cls:=.type "range",data:=.fields #[.int lo t,.int a u,.int 1 v]},toks:=tk}:=I.kept λb o e=>ag _ e
 refine⟨(s.heap.push {cls:=.type "range",data:=.fields #[.int lo t,.int a u,.int 1 v]}).objs.size,[(s.heap.push {cls:=.type "range",data:=.fields #[.int lo t,.int a u,.int 1 v]}).objs.size],_,_,H,rfl,
  f.kept (t':=tk) λb o e=>ag _ e,OV _ lo (a - lo).toNat,?_,λb g=>?_,q⟩
 ·have m:lo+((0:Nat):Int)*1=lo:=by simp
  have l:(((a - lo).toNat:Nat):Int) - ((0:Nat):Int)=Builtin.Range.rangeSize lo a 1:=by rw[rangeSize_one];split<;>omega
  show IsRangeIter _ _ (lo+((0:Nat):Int)*1) ((((a - lo).toNat:Nat):Int) - ((0:Nat):Int)) 1;rw[m,l];exact aQ _ rfl
 ·have e:b=(s.heap.push {cls:=.type "range",data:=.fields #[.int lo t,.int a u,.int 1 v]}).objs.size:=by simpa using g
  subst e;exact f.nP (af _) (f.hok.fresh<|af _)
def F8(c:TA):TI:=λa H R=>c a H λb d=>∃j:Int,b=[.int j]/\ -(2^62)<=j/\j<2^62/\R (pU 0 j.toNat) d
def F9(c:TA):TI:=λa H R=>c a H λb d=>∃i j:Int,b=[.int i,.int j]/\(-(2^62)<=i/\i<2^62/\ -(2^62)<=j/\j<2^62)/\R (pU i (j - i).toNat) d
def JE{a:f6}{f:TA}{p b:Pos}(o:Gl X "range")(n:X.mg "range"=none)(u:PA X [a] f)(m:starEach [a] X.env=[(false,eval a X.env)]):PI X M (.Call (.Name "range" p) [a] [] b) (F8 f):=by
 intro c s g H R I h;refine Call_ (mn I o n boot_range (b8 (gi (u b c s g H _ I h) λx y ⟨w,z,v,k,d⟩=>?_) m rfl) (by decide)<|by decide);obtain⟨j,e,d,l,q⟩:=d;subst e;cases k with
 |cons r i=>cases i;obtain⟨t,rfl⟩:=r;exact call_range_1 (AU v (by omega) (by omega) d l<|by simpa using q)
def JF{a b:f6}{l:TA}{p c:Pos}(z:Gl X "range")(y:X.mg "range"=none)(A:PA X [a,b] l)(x:starEach [a,b] X.env=[(false,eval a X.env),(false,eval b X.env)])(f:starEach [b] X.env=[(false,eval b X.env)]):
    PI X M (.Call (.Name "range" p) [a,b] [] c) (F9 l):=by
 intro d s m H R I h;refine Call_ (mn I z y boot_range (b8 (gi (A c d s m H _ I h) λD F ⟨C,G,B,n,k⟩=>?_) (by rw[x,f]) (by rw[f];rfl)) (by decide) (by decide));obtain⟨i,j,e,⟨k,w,v,u⟩,q⟩:=k;subst e;cases n with
 |cons r g=>
  cases g with
  |cons o g=>cases g;obtain⟨t,rfl⟩:=r;obtain⟨E,rfl⟩:=o;exact call_range_2 (AU B k w v u q)
def Oi(f:TI)(g:TG)(h:TS):TS:=λD a H=>f a H λJ k=>∃W:Nat->Nat->St->Hp->Prop,(∃m,W 0 m a k)/\∀i m a H,W i m a H->
 (J.stop i H/\D.nx a H)\/(J.go i H/\∃N:St->Hp->Prop,(∀b c,N b c->∃e,e<m/\W (i+1) e b c)/\∀x c,J.tN i H x c->g x a c λd j=>h {D with nx:=N,ct:=N,bk:=D.nx} d j)
def qH(a:kc)(h:gc):fL (fO×iC):=a.filterMap λb=>(h.get? b).map λo=>(b,o)
def o7{a:kc}{h:gc}{b:fO}{o:iC}(c:b∈a)(e:h.get? b=some o):(b,o)∈qH a h:=dh.mpr ⟨b,c,by rw[e];rfl⟩
def Ia{a:kc}{h:gc}{p:fO×iC}(c:p∈qH a h):p.1∈a/\h.get? p.1=some p.2:=by
 obtain⟨b,d,e⟩:=dh.mp c;cases q:h.get? b with
 |none=>rw[q]at e;cases e
 |some o=>rw[q]at e;have f:(b,o)=p:=Option.some.inj e;subst f;exact⟨d,q⟩
def Inv.pinned{a:gp}{c:St}{H:Hp}{s:fS}{fp:kc}(I:Inv X a c H s)(hf:∀b∈fp,jO X a H b)(i:∀b∈fp,∃o,s.heap.get? b=some o/\∀v,o.data≠.cell v):Inv X (a++qH fp s.heap) c H s:=
 I.AE λp h=>(bf.mp h).elim (λz=>I.pin p (aM _ z)) λz=>by obtain⟨f,e⟩:=Ia z;obtain⟨l,k,j,_⟩:=hf p.1 f;obtain⟨o,g,d⟩:=i p.1 f;rw[e]at g;cases g;exact⟨e,l,k,j,d⟩
def Inv.qQ{a c:gp}{b:St}{H:Hp}{s:fS}(I:Inv X (a++c) b H s):Inv X a b H s:=I.AE λp d=>I.pin p (aM _<|bT _ d)
def wB{p:f6}{B:fL Stmt}{wi:TI}{g:TG}{tb:TS}{Y:Pos}(O:PassesOwn (model X.prog X.w) X.A X.env X.xe)(hc:X.calm=true)(hi:PI X M p wi)(hg:PG X M g)(q:kN X B tb)
    (hs:∀x,foldedSetIterable p X.env x=pure x):PS X (.For M p B [] Y) (Oi wi g tb):=by
 intro c s σ H D I h;refine wpAny_For (gi (hi c s σ H _ I h) λv s1 h1=>gi h1 λGp s2 h2=>?_) hs;obtain⟨it,Q,tn,J,H2,e,I2,T,U,f2,W,⟨m0,w0⟩,F⟩:=h2;subst e
 have l:∀{z:Hp},(∀b∈Q,z b=none)->∀b∈Q,jO X c z b:=λhn b q=>⟨hn b q,(f2 b q).2⟩;refine codeAny_forLoop_any (λn s'=>∃i k z,Inv X c k z s'/\tn i s'.heap/\(∀b∈Q,z b=none)/\W i n k z) ?_ m0 ⟨0,σ,H2,I2,U,λb q=>(f2 b q).1,w0⟩
 rintro n s3 ⟨i,j,R,I3,K,P,w3⟩
 rcases F i n j R w3 with⟨G,qn⟩|⟨go,N,hN,step⟩
 ·refine cu O (gi (T.done X rfl rfl rfl hc i c s3 j R X.xe I3 (l P) K G) λr s4 ⟨Z,I4⟩=>?_);subst Z;exact dS ⟨j,R,I4,qn⟩
 ·refine cu O (gi (T.item X rfl rfl rfl hc i c s3 j R X.xe I3 (l P) K go) λr s4 ⟨u,Z,h4⟩=>?_);subst Z;refine cu O (gi h4 λ_ s5 E=>?_);obtain⟨x,H5,I5,r5,y5,C,vf⟩:=E;have Ce:=I5.pinned (l vf) (T.obj _ _ C);refine cu O (gi (hg _ s5 j H5 x u _ Ce r5<|step x H5 y5) λ_ s6 E=>?_);obtain⟨S,H6,I6,q6⟩:=E;refine cu O (gi (q _ s6 S H6 _ I6 q6) λf V A=>?_);have t:∀{a:St} {y:Hp},Inv X (c++qH Q s5.heap) a y V->N a y->∃m,m<n/\∃i k z,Inv X c k z V/\tn i V.heap/\(∀b∈Q,z b=none)/\W i m k z:=λ{a y} w L=>by
   obtain⟨m',hm,w7⟩:=hN a y L;refine⟨m',hm,i+1,a,y,w.qQ,T.keep _ _ _ C λb q o e=>(w.pin (b,o)<|aM _<|aM _<|o7 q e).1,λb q=>?_,w7⟩;obtain⟨o,e,d⟩:=T.obj _ _ C b q;exact(w.pin (b,o)<|aM _<|aM _<|o7 q e).2.1
  cases f with
  |next=>obtain⟨a,y,w,L⟩:=A;exact t w L
  |cont=>obtain⟨a,y,w,L⟩:=A;exact t w L
  |brk=>obtain⟨a,y,w,A⟩:=A;exact⟨a,y,w.qQ,A⟩
  |ret v=>obtain⟨x7,a,y,w,r7,A⟩:=A;exact⟨x7,a,y,w.qQ,r7,A⟩
abbrev R2:=V->V->Hp->VK->Prop
def iz(X:Cx)(f:fN->fN->Sem fN)(r:R2):Prop:=
 ∀(a:gp) (s:fS) (σ:St) (H:Hp) (x y:V) (v u:fN) (Q:VK),Inv X a σ H s->RelV x v->RelV y u->r x y H Q->
  wpAny (model X.prog X.w) X.A (f v u) (EP X a σ Q) X.xe s
def ry(X:Cx)(f:fN->Sem fN)(r:V->Hp->VK->Prop):Prop:=
 ∀(a:gp) (s:fS) (σ:St) (H:Hp) (x:V) (v:fN) (Q:VK),Inv X a σ H s->RelV x v->r x H Q->
  wpAny (model X.prog X.w) X.A (f v) (EP X a σ Q) X.xe s
def jN(X:Cx)(f:fN)(r:fL V->Hp->VK->Prop):Prop:=
 ∀(a:gp) (s:fS) (σ:St) (H:Hp) (xs:fL V) (us:gq) (Q:VK),Inv X a σ H s->Vals xs us->r xs H Q->
  wpAny (model X.prog X.w) X.A (call f us) (EP X a σ Q) X.xe s
def Co(X:Cx)(r:V->Hp->(f5->Hp->Prop)->Prop):Prop:=
 ∀(a:gp) (s:fS) (σ:St) (H:Hp) (x:V) (v:fN) (Q:mI),Inv X a σ H s->RelV x v->r x H Q->
  wpAny (model X.prog X.w) X.A (truthy v) (TP X a σ Q) X.xe s
def tJ(r:R2)(c b:TE):TE:=λa H Q=>c a H λx e=>b a e λy d=>r x y d Q
def OC(r:V->Hp->VK->Prop)(b:TE):TE:=λa H Q=>b a H λx c=>r x c Q
def rI(C:Int->Int->Prop)(g:Int->Int->V):R2:=λx y H Q=>∃i j,x=.int i/\y=.int j/\C i j/\Q (g i j) H
def mW(g:Int->Int->V):R2:=λx y H Q=>∃i j,x=.int i/\y=.int j/\Q (g i j) H
def rU(g:Int->V):V->Hp->VK->Prop:=λx H Q=>∃i,x=.int i/\Q (g i) H
variable{a b c:f6}{F L S:TE}{B:Pos}
def uA(w:PE X a F)(t:PE X b L){d:gp}{s:fS}{g:St}{H:Hp}{R:V->V->Hp->Prop}(I:Inv X d g H s)
    (h:F g H λx m=>L g m λy i=>R x y i){Q:gE}{f:fN->fN->Sem fN}
    (hf:∀v u l x y i,Inv X d g i l->RelV x v->RelV y u->R x y i->wpAny (model X.prog X.w) X.A (f v u) Q X.xe l):
    wpAny (model X.prog X.w) X.A (eval a X.env) (λv k=>wpAny (model X.prog X.w) X.A (eval b X.env) (λu j=>wpAny (model X.prog X.w) X.A (f v u) Q X.xe j) X.xe k) X.xe s:=by
 refine gi (w d s g H _ I h) λv n e=>?_;obtain⟨x,m,A,p,r⟩:=e;refine gi (t d n g m _ A r) λu l e=>?_;obtain⟨y,i,z,o,q⟩:=e;exact hf v u l x y i z p o q
def Ax{e:Operator}{r:R2}(k:iz X (binaryOp e) r)(m:PE X a F)(l:PE X b L):PE X (.BinOp a e b B) (tJ r F L):=by intro d s f H Q I h;exact wpAny_BinOp (uA m l I h λv u g x y o n j i q=>k d g f o x y v u Q n j i q)
def Jx{f:UnaryOp}{r:V->Hp->VK->Prop}(k:ry X (unaryOp f) r)(l:PE X a F):PE X (.UnaryOp f a B) (OC r F):=by intro d s e H Q I h;exact UnaryOp_ (gi (l d s e H _ I h) λv g ⟨x,n,m,i,j⟩=>k d g e n x v Q m i j)
def qG{f:fN->fN->Sem fN}{C:Int->Int->Prop}{g:Int->Int->Int}
    (d:∀(i j:Int) (t u:Tok) (s:fS) (Q:gE) (E:gE),C i j->Q (.int (g i j) s.toks) {s with toks:=s.toks+1}->wpAny (model X.prog X.w) X.A (f (.int i t)<|.int j u) Q E s):
    iz X f (rI C λi j=>.int<|g i j):=by
 intro e s o H x y v u Q I m l h;obtain⟨i,j,rfl,rfl,n,q⟩:=h;obtain⟨t,rfl⟩:=m;obtain⟨k,rfl⟩:=l;exact d i j t k s _ _ n ⟨.int<|g i j,H,I.tok _,⟨_,rfl⟩,q⟩
def Au{f:fN->fN->Sem fN}{g:Int->Int->Int}
    (d:∀(i j:Int) (t u:Tok) (s:fS) (Q:gE) (E:gE),Q (.int (g i j) s.toks) {s with toks:=s.toks+1}->wpAny (model X.prog X.w) X.A (f (.int i t)<|.int j u) Q E s):
    iz X f (mW λi j=>.int<|g i j):=by
 intro e s n H x y v u Q I m l h;obtain⟨i,j,rfl,rfl,q⟩:=h;obtain⟨t,rfl⟩:=m;obtain⟨k,rfl⟩:=l;exact d i j t k s _ _ ⟨.int<|g i j,H,I.tok _,⟨_,rfl⟩,q⟩
def wq{f:fN->fN->Sem fN}{g:Int->Int->f5}
    (d:∀(i j:Int) (t u:Tok) (s:fS) (Q:gE) (E:gE),Q (.bool<|g i j) s->wpAny (model X.prog X.w) X.A (f (.int i t)<|.int j u) Q E s):
    iz X f (mW λi j=>.bl<|g i j):=by
 intro e s n H x y v u Q I m l h;obtain⟨i,j,rfl,rfl,q⟩:=h;obtain⟨t,rfl⟩:=m;obtain⟨k,rfl⟩:=l;exact d i j t k s _ _ ⟨.bl<|g i j,H,I,rfl,q⟩
def B8(i j:Int):Prop:=0<=j/\j<=1000000/\i.natAbs<2^64
def tX(i j:Int):Prop:=(-(2^64)<i/\i<2^64)\/(-(2^64)<j/\j<2^64)
def tX.ok{i j:Int}(h:tX i j):IntMulOk i j:=by
 rcases h with⟨e,d⟩|⟨e,d⟩;·exact .of_left (intBits_le_64 e d)
 ·exact .of_right (intBits_le_64 e d)
def Ih:iz X (binaryOp .Add) (mW λi j=>.int<|i+j):=Au λ_ _ _ _ _ _ _ q=>add_int q
def IK:iz X (binaryOp .Sub) (mW λi j=>.int<|i - j):=Au λ_ _ _ _ _ _ _ q=>sub_int q
def IC:iz X (binaryOp .Mult) (rI tX λi j=>.int<|i*j):=qG λ_ _ _ _ _ _ _ d q=>mul_int q d.ok
def IB:iz X (binaryOp .Mod) (rI (λ_ j=>j≠0) λi j=>.int<|i.fmod j):=qG λ_ _ _ _ _ _ _ d q=>mod_int' d q
def II:iz X (binaryOp .Pow) (rI B8 λi j=>.int<|i^j.toNat):=qG λ_ _ _ _ _ _ _ d q=>pow_int_small d.1 d.2.1 d.2.2 q
def OZ{f:fN->Sem fN}{g:Int->Int}
    (d:∀(i:Int) (t:Tok) (s:fS) (Q:gE) (E:gE),Q (.int (g i) s.toks) {s with toks:=s.toks+1}->wpAny (model X.prog X.w) X.A (f<|.int i t) Q E s):
    ry X f (rU λi=>.int<|g i):=by
 intro e s k H x v Q I j h;obtain⟨i,rfl,q⟩:=h;obtain⟨t,rfl⟩:=j;exact d i t s _ _ ⟨.int<|g i,H,I.tok _,⟨_,rfl⟩,q⟩
def O0:ry X (unaryOp .USub) (rU λi=>.int<|-i):=OZ λ_ _ _ _ _ q=>neg_int q
noncomputable def wW:V->V->f5
 |.non,.non=>true|.non,.int _=>true|.int _,.non=>true|.non,.bl _=>true|.bl _,.non=>true|.non,.str _=>true|.str _,.non=>true
 |.int _,.int _=>true|.bl _,.bl _=>true|.str _,.str _=>true|.kF _,.kF _=>true
 |.int _,.str _=>true|.str _,.int _=>true|.bl _,.str _=>true|.str _,.bl _=>true
 |_,_=>false
def MV:R2:=λx y H Q=>wW x y=true/\Q (.bl<|decide<|x=y) H
def MY:R2:=λx y H Q=>wW x y=true/\Q (.bl<|!decide (x=y)) H
def yx{i j:Int}:decide (V.int i=V.int j)=(i==j):=by rw[dU];simp
def yv{i j:f5}:decide (V.bl i=V.bl j)=(i==j):=by rw[dU];simp
def yy{i j:fR}:decide (V.str i=V.str j)=(i==j):=by rw[dU];simp
def yw{i j:fY UInt8}:decide (V.kF i=V.kF j)=(i.toList==j.toList):=by rw[dU];cases i;cases j;simp
def iq{d:gp}{f:St}{H:Hp}{s:fS}{Q:VK}{k g:f5}(I:Inv X d f H s)(q:Q (.bl k) H)(e:k=g):EP X d f Q (.bool g) s:=by subst e;exact⟨.bl k,H,I,rfl,q⟩
def Il:iz X (compareOp .Eq) MV:=by
 intro k s l H x y v u Q I g d h;obtain⟨f,q⟩:=h;cases x with
 |non=>
  cases g;cases y with
  |non=>cases d;exact PySem.EqNone.eq_none_none (iq I q<|by simp)
  |bl j=>cases d;exact PySem.EqNone.eq_none_bool (iq I q<|by simp)
  |int j=>obtain⟨e,rfl⟩:=d;exact PySem.EqNone.eq_none_int (iq I q<|by simp)
  |str j=>obtain⟨e,rfl⟩:=d;exact PySem.EqNone.eq_none_str (iq I q<|by simp)
  |_=>exact absurd (show false=true from f) aN
 |bl i=>
  cases g;cases y with
  |non=>cases d;exact PySem.EqNone.eq_bool_none (iq I q<|by simp)
  |bl j=>cases d;exact eq_bool (iq I q yv)
  |str j=>obtain⟨e,rfl⟩:=d;exact PySem.EqMixed.eq_bool_str (iq I q<|by simp)
  |_=>exact absurd (show false=true from f) aN
 |int i=>
  obtain⟨t,rfl⟩:=g;cases y with
  |non=>cases d;exact PySem.EqNone.eq_int_none (iq I q<|by simp)
  |int j=>obtain⟨e,rfl⟩:=d;exact eq_int (iq I q yx)
  |str j=>obtain⟨e,rfl⟩:=d;exact PySem.EqMixed.eq_int_str (iq I q<|by simp)
  |_=>exact absurd (show false=true from f) aN
 |str i=>
  obtain⟨t,rfl⟩:=g;cases y with
  |non=>cases d;exact PySem.EqNone.eq_str_none (iq I q<|by simp)
  |bl j=>cases d;exact PySem.EqMixed.eq_str_bool (iq I q<|by simp)
  |int j=>obtain⟨e,rfl⟩:=d;exact PySem.EqMixed.eq_str_int (iq I q<|by simp)
  |str j=>obtain⟨e,rfl⟩:=d;exact eq_str (iq I q yy)
  |_=>exact absurd (show false=true from f) aN
 |kF i=>
  obtain⟨t,rfl⟩:=g;cases y with
  |kF j=>obtain⟨e,rfl⟩:=d;exact W.eq_bytes (iq I q yw)
  |_=>exact absurd (show false=true from f) aN
 |_=>cases y<;>exact absurd (show false=true from f) aN
def IG:iz X (compareOp .NotEq) MY:=by
 intro k s l H x y v u Q I g d h;obtain⟨f,q⟩:=h;cases x with
 |non=>
  cases g;cases y with
  |non=>cases d;exact PySem.EqNone.ne_none_none (iq I q<|by simp)
  |bl j=>cases d;exact PySem.EqNone.ne_none_bool (iq I q<|by simp)
  |int j=>obtain⟨e,rfl⟩:=d;exact PySem.EqNone.ne_none_int (iq I q<|by simp)
  |str j=>obtain⟨e,rfl⟩:=d;exact PySem.EqNone.ne_none_str (iq I q<|by simp)
  |_=>exact absurd (show false=true from f) aN
 |bl i=>
  cases g;cases y with
  |non=>cases d;exact PySem.EqNone.ne_bool_none (iq I q<|by simp)
  |bl j=>cases d;exact ne_bool (iq I q<|a9 not yv)
  |str j=>obtain⟨e,rfl⟩:=d;exact PySem.EqMixed.ne_bool_str (iq I q<|by simp)
  |_=>exact absurd (show false=true from f) aN
 |int i=>
  obtain⟨t,rfl⟩:=g;cases y with
  |non=>cases d;exact PySem.EqNone.ne_int_none (iq I q<|by simp)
  |int j=>obtain⟨e,rfl⟩:=d;exact ne_int (iq I q<|a9 not yx)
  |str j=>obtain⟨e,rfl⟩:=d;exact PySem.EqMixed.ne_int_str (iq I q<|by simp)
  |_=>exact absurd (show false=true from f) aN
 |str i=>
  obtain⟨t,rfl⟩:=g;cases y with
  |non=>cases d;exact PySem.EqNone.ne_str_none (iq I q<|by simp)
  |bl j=>cases d;exact PySem.EqMixed.ne_str_bool (iq I q<|by simp)
  |int j=>obtain⟨e,rfl⟩:=d;exact PySem.EqMixed.ne_str_int (iq I q<|by simp)
  |str j=>obtain⟨e,rfl⟩:=d;exact ne_str (iq I q<|a9 not yy)
  |_=>exact absurd (show false=true from f) aN
 |kF i=>
  obtain⟨t,rfl⟩:=g;cases y with
  |kF j=>obtain⟨e,rfl⟩:=d;exact W.ne_bytes (iq I q<|a9 not yw)
  |_=>exact absurd (show false=true from f) aN
 |_=>cases y<;>exact absurd (show false=true from f) aN
def Iy:iz X (compareOp .Lt) (mW λi j=>.bl<|decide<|i<j):=wq λ_ _ _ _ _ _ _ q=>lt_int q
def Iv:iz X (compareOp .LtE) (mW λi j=>.bl<|decide<|i<=j):=wq λ_ _ _ _ _ _ _ q=>le_int q
def Ir:iz X (compareOp .Gt) (mW λi j=>.bl<|decide<|j<i):=wq λ_ _ _ _ _ _ _ q=>gt_int q
def sP(b:f6){d:CmpOp}(h:d≠.In)(e:d≠.NotIn):behindInMarks d b=false:=by
 have g:(d==CmpOp.In)=false:=by cases d<;>first|rfl|exact absurd rfl h
 have f:(d==CmpOp.NotIn)=false:=by cases d<;>first|rfl|exact absurd rfl e
 cases b<;>simp[behindInMarks,g,f]
def Jk{e:CmpOp}{r:R2}(k:iz X (compareOp e) r)(n:PE X a F)(m:PE X b L)(l:behindInMarks e b=false):PE X (.Compare a [e] [b] B) (tJ r F L):=by intro d s f H Q I h;exact wpAny_Compare1 (uA n m I h λv u g x y p o j i q=>k d g f p x y v u Q o j i q) l
def Bn(t:TE):TT:=λd H Q=>t d H λx e=>∃k,x=.bl k/\Q k e
def AJ{i:CmpOp}{r:R2}(w:iz X (compareOp i) r)(D:PE X a F)(C:PE X b L)(A:behindInMarks i b=false):PT X (.Compare a [i] [b] B) (Bn<|tJ r F L):=by intro d s g H Q I h;refine wpAny_isTrue_Compare1 (gi (D d s g H _ I h) λv l f=>?_) A;obtain⟨x,O,J,o,t⟩:=f;refine gi (C d l g O _ J t) λu j f=>?_;obtain⟨y,N,G,n,q⟩:=f;refine gi (w d j g N x y v u _ G o n q) λc P f=>?_;obtain⟨z,K,E,m,k,e,p⟩:=f;subst e;cases m;exact bW ⟨K,E,p⟩
def Od(r g:R2)(F L S:TE):TE:=λd H Q=>F d H λx j=>L d j λy i=>r x y i λz e=>∃k,z=.bl k/\
 (if k=true then S d e λf h=>g y f h Q else Q (.bl false) e)
def JV{l i:CmpOp}{r o:R2}(W:iz X (compareOp l) r)(m:iz X (compareOp i) o)(ha:PE X a F)(hb:PE X b L)(Z:PE X c S)
    (Y:lastMarks [l,i] [b,c]=false):PT X (.Compare a [l,i] [b,c] B) (Bn<|Od r o F L S):=by
 intro g s j H Q I h;refine isTrue_chain (gi (ha g s j H _ I h) λv G f=>?_) Y;obtain⟨x,H1,I1,O,U⟩:=f;refine test_link (gi (hb g G j H1 _ I1 U) λu E f=>?_);obtain⟨y,H2,I2,n,T⟩:=f;refine gi (W g E j H2 x y v u _ I2 O n T) λd D f=>?_;obtain⟨z,t,q,N,k,e,p⟩:=f;subst e;cases N;refine bW ?_;cases k with
 |false=>obtain⟨k',e',V⟩:=p;cases e';exact ite_ff ⟨t,q,V⟩
 |true=>refine ite_tt (test_last<|gi (Z g D j t _ q p) λA C f=>?_);obtain⟨w,H4,I4,K,R⟩:=f;refine gi (m g C j H4 y w u A _ I4 n K R) λd' s5 f=>?_;obtain⟨z2,H5,I5,J,k2,e2,P⟩:=f;subst e2;cases J;exact bW ⟨H5,I5,P⟩
def uo(K:fZ)(x:V)(H:Hp)(k:f5):Prop:=
 match x with
 |.non=>k=false
 |.bl b=>k=b
 |.int i=>k=(i !=0)
 |.str y=>y.length<=sizeLine/\k=((y.length:Int)!=0)
 |.kF y=>y.size<=sizeLine/\k=((y.size:Int)!=0)
 |.ref p=>(∃d,iF K H p d/\k=!d.isEmpty)\/(∃d,jC K H p d/\k=!d.isEmpty)\/∃e,H p=some (.dK e)/\k=!e.isEmpty
 |_=>False
def Gi{e:Type}{d:fL<|e×V}{f:fL<|e×fN}(r:KV d f):(!f.isEmpty)=!d.isEmpty:=by cases r<;>rfl
def zE{e:fL V}{d:gq}(r:Vals e d):(!d.toArray.isEmpty)=!e.isEmpty:=by cases r<;>simp
def nT:(sizeLine:Nat)<2^63:=by rw[sizeLine_eq];decide
def OO:Co X (λx H Q=>∃k,uo X.K x H k/\Q k H):=by
 intro z s E H x v Q I l h;obtain⟨k,e,q⟩:=h;have J:=nT;have G:sizeLine=16777216:=sizeLine_eq;cases x with
 |non=>cases l;have d:k=false:=e;subst d;exact truthy_none ⟨H,I,q⟩
 |bl b=>cases l;have d:k=b:=e;subst d;exact bW ⟨H,I,q⟩
 |int i=>obtain⟨t,rfl⟩:=l;have d:k=(i !=0):=e;subst d;exact PySem.P.truthy_int ⟨H,I,q⟩
 |str y=>obtain⟨t,rfl⟩:=l;obtain⟨C,d⟩:y.length<=sizeLine/\k=((y.length:Int)!=0):=e;subst d;exact PySem.P.truthy_str (by omega) ⟨H,I.tok _,q⟩
 |kF y=>obtain⟨t,rfl⟩:=l;obtain⟨C,d⟩:y.size<=sizeLine/\k=((y.size:Int)!=0):=e;subst d;exact W.truthy_bytes (by omega) ⟨H,I.tok _,q⟩
 |ref p=>
  cases l;have d:(∃j,iF X.K H p j/\k=!j.isEmpty)\/(∃j,jC X.K H p j/\k=!j.isEmpty)\/∃f,H p=some (.dK f)/\k=!f.isEmpty:=e;rcases d with⟨j,n,d⟩|⟨j,n,d⟩|⟨f,n,d⟩
  ·subst d;obtain⟨w,r,u,A⟩:=I.list n;have g:=r.length;exact wpAny_truthy_list u.isList (by simp only[az];omega) ⟨H,I.tok _,by rw[zE r];exact q⟩
  ·subst d;obtain⟨w,r,u,A⟩:=I.tuple n;have g:=r.length;exact truthy_tuple u (by simp only[az];omega) ⟨H,I.tok _,by rw[zE r];exact q⟩
  ·subst d;obtain⟨A,D,o,r,m⟩:f.length<=sizeLine/\(p==sysModules)=false/\∃o,KV f o/\s.heap.DictOf (kn X.prog X.w) p o:=I.hok p _ n;have g:f.length=o.length:=Paired.length r;exact wpAny_truthy_dict D m (by omega) ⟨H,I.tok _,by rw[Gi r];exact q⟩
 |_=>exact(show False from e).elim
def JY(n:PE X a F)(m:∀d,isTrue a X.env d=(do let v<-d;standAt a.pos;holding [v]<|truthy v)):
    PT X a (λf H Q=>F f H λx g=>∃k,uo X.K x g k/\Q k g):=by
 intro e s f H Q I h;exact isTrue_plain (gi (n e s f H _ I h) λv i ⟨x,p,o,j,l⟩=>OO e i f p x v Q o j l) (m _)
def Ij:iz X (binaryOp .Add) (λx y H Q=>∃i j,x=.str i/\y=.str j/\i.length+j.length<=sizeLine/\Q (.str<|i++j) H):=by intro d s l H x y v u Q I g f h;obtain⟨i,j,rfl,rfl,k,q⟩:=h;obtain⟨t,rfl⟩:=g;obtain⟨e,rfl⟩:=f;exact add_str (λe tk=>⟨.str<|i++j,H,I.tok _,⟨_,rfl⟩,q⟩) k
def vals1{x:V}{d:gq}(r:Vals [x] d):∃u,d=[u]/\RelV x u:=by
 cases r with
 |cons f e=>cases e;exact⟨_,rfl,f⟩
def vals2{x y:V}{e:gq}(r:Vals [x,y] e):∃u d,e=[u,d]/\RelV x u/\RelV y d:=by
 cases r with
 |cons i h=>
  cases h with
  |cons g f=>cases f;exact⟨_,_,rfl,i,g⟩
def CO:jN X (.builtin "abs") (λd H Q=>∃i,d=[.int i]/\Q (.int<|if i<0 then -i else i) H):=by intro e s f H d g Q I r h;obtain⟨i,rfl,q⟩:=h;obtain⟨u,rfl,t,rfl⟩:=vals1 r;exact call_abs_int λu tk=>⟨.int<|if i<0 then -i else i,H,I.tok _,⟨_,rfl⟩,q⟩
abbrev _root_.qb:=fU fN
def lK.some_of{v:V}{o:qb}(r:lK (some v) o):∃u,o=some u/\RelV v u:=by
 cases o with
 |none=>exact(show False from r).elim
 |some u=>exact⟨u,rfl,r⟩
structure g8(k:Nat)(A:gz):Prop where
 hd:A.handled=none
 dp:A.depth+3*k+5<recursionLimit
 un:A.units+16*k+200<cLine
def g8.mono{j k:Nat}{A:gz}(r:g8 k A)(h:j<=k):g8 j A:=⟨r.hd,by have:=r.dp;omega,by have:=r.un;omega⟩
def g8.deeper{k:Nat}{A:gz}(r:g8 (k+1) A)(d:Env):g8 k (A.deeper d):=
 ⟨r.hd,by have:=r.dp;show A.depth+1+3*k+5<_;omega,by have:=r.un;show A.units+3+16*k+200<_;omega⟩
def g8.in1{k:Nat}{A:gz}(r:g8 (k+1) A):g8 k A.in1:=
 ⟨r.hd,by have:=r.dp;show A.depth+3*k+5<_;omega,by have:=r.un;show A.units+1+16*k+200<_;omega⟩
def g8.depth{k:Nat}{A:gz}(r:g8 k A):A.depth<recursionLimit:=by have:=r.dp;omega
def g8.units{k:Nat}{A:gz}(r:g8 k A):A.units+64<cLine:=by have:=r.un;omega
def tI:TA:=λ_ H Q=>Q [] H
def tH(F:TE)(f:TA):TA:=λd H Q=>F d H λx h=>f d h λe g=>Q (x::e) g
variable{e:f6}{O:iL}{U:TE}{t:TA}
def mV:PA X [] tI:=λ_ _ _ _ H Q I h=>Calls.spliced_nil ⟨[],H,I,.nil,h⟩
def mU(q:PE X e U)(p:PA X O t)(o:X.se e O):PA X (e::O) (tH U t):=by intro B d s g H Q I h;rw[o];show wpAny _ _ (spliced<|(false,eval e X.env)::backTo B (starEach O X.env)) _ _ s;refine Calls.spliced_cons (gi (q d s g H _ I h) λu j f=>?_);obtain⟨x,y,v,l,n⟩:=f;exact gi (p B d j g y _ v n) λz A ⟨i,w,r,k,m⟩=>⟨x::i,w,r,.cons l k,m⟩
def OB(t:TA):TE:=λg H Q=>t g H λd f=>d.length<=sizeLine/\∀p,f p=none->Q (.ref p) (upd f p<|.tup d)
def Ol(t:TA):TE:=λg H Q=>t g H λd f=>d.length<=sizeLine/\∀p,f p=none->Q (.ref p) (upd f p<|.lst d)
def Ay{m}(h:PA X O t):PE X (.Tuple O m B) (OB t):=by intro d s k H Q I o;refine wpAny_Tuple_spliced (gi (h B d s k H _ I o) λn f g=>?_);obtain⟨l,j,i,r,z,q⟩:=g;refine⟨by rw[<-r.length];exact z,?_⟩;have hf:j f.heap.objs.size=none:=i.hok.fresh (af _);refine⟨.ref f.heap.objs.size,upd j f.heap.objs.size<|.tup l,i.laid (t':=f.toks) (λb u e=>ag _ e) (af _) ?_,rfl,q _ hf⟩;exact⟨z,n,r,⟨_,aQ _ rfl,rfl,_,rfl⟩⟩
def Jq(h:PA X O t):PE X (.List O B) (Ol t):=by intro d s k H Q I n;refine wpAny_List_spliced (gi (h B d s k H _ I n) λm f g=>?_);obtain⟨l,j,i,r,z,q⟩:=g;refine⟨by rw[<-r.length];exact z,?_⟩;have hf:j f.heap.objs.size=none:=i.hok.fresh (af _);refine⟨.ref f.heap.objs.size,upd j f.heap.objs.size<|.lst l,i.laid (t':=f.toks) (λb u e=>ag _ e) (af _) ?_,rfl,q _ hf⟩;exact⟨z,m,0,r,aQ _ rfl⟩
end
abbrev Sp:=fL V->Hp->VK->XK->Prop
abbrev ky:=fL Env->Hp->fS->XK->gE
structure mz(P:gy)(w:gs)(K:fZ)(mg:g5)(base:gc)(A:gz)(outer:iK)(s:fS)(H:Hp):Prop where
 frames:A.frames=some outer
 mod:Mod K mg base
 bs:∀b o,base.get? b=some o->s.heap.get? b=some o/\H b=none
 nJ:base.objs.size<=s.heap.objs.size
 kW:s.heap.FunFrames base outer
 qq:∀b∈frs outer,H b=none
 hok:hX P w H s.heap
 bare:AllBare s.gens
def CE(a:iK)(P:gy)(w:gs)(H:Hp)(s:fS)(Q:VK)(u:fN)(b:fS):Prop:=
 ∃v c,b.os=s.os/\AllBare b.gens/\Un (frs a) [] H c s.heap b.heap/\hX P w c b.heap/\RelV v u/\Q v c
def CR(c:ky)(a:iK)(P:gy)(w:gs)(H:Hp)(s:fS)(Q:VK)(E:XK)(r:Result)(b:fS):Prop:=
 match r with
 |.ok (.ret u)=>CE a P w H s Q u b
 |.ok _=>False
 |.error e=>c a H s E e b
structure jv(P:gy)(w:gs)(K:fZ)(mg:g5)(base:gc)(CX:ky)(k:Nat)(f:fO)(fd:jm)(ps:gu)(sp:Sp):Prop where
 len:∀vs H Q E,sp vs H Q E->vs.length=ps.length
 run:∀(A:gz) (outer:iK) (s:fS) (H:Hp) (args:Args) (us:gq) (vs:fL V) (Q:VK) (E:XK),g8 k A->mz P w K mg base A outer s H->BindsTo s fd args (ps.zip us)->Vals vs us->sp vs H Q E->
  codeAny (model P w) A (.call (.ref f) args) (CR CX outer P w H s Q E) s
def jv.mono{P:gy}{w:gs}{K:fZ}{g:g5}{a:gc}{l:ky}{j k:Nat}{f:fO}{i:jm}{e:gu}{d:Sp}(F:jv P w K g a l j f i e d)(h:j<=k):
    jv P w K g a l k f i e d:=⟨F.len,λA b s H c n m Q E o=>F.run A b s H c n m Q E<|o.mono h⟩
def jv.imp{P:gy}{w:gs}{K:fZ}{j:g5}{a:gc}{m:ky}{k:Nat}{f:fO}{l:jm}{i:gu}{g d:Sp}(F:jv P w K j a m k f l i g)
    (h:∀c H Q E,d c H Q E->g c H Q E):jv P w K j a m k f l i d:=
 ⟨λc H Q E q=>F.len c H Q E<|h _ _ _ _ q,λA b s H e n c Q E p r t hv o=>F.run A b s H e n c Q E p r t hv<|h _ _ _ _ o⟩
def mz.in1{P:gy}{w:gs}{K:fZ}{c:g5}{b:gc}{A:gz}{a:iK}{s:fS}{H:Hp}(e:mz P w K c b A a s H):
    mz P w K c b A.in1 a s H:=⟨e.frames,e.mod,e.bs,e.nJ,e.kW,e.qq,e.hok,e.bare⟩
section
variable{X:Cx}{c:gp}{j:St}{H:Hp}{s J:fS}
def Inv.yK(I:Inv X c j H s):mz X.prog X.w X.K X.mg X.base X.A X.stack s H:=
 ⟨I.ok.frames,I.ok.mod,I.bs,aC I.ok.nJ I.sz,I.stack,I.xb,I.hok,I.bare⟩
def Inv.after{Q:VK}{u:fN}(I:Inv X c j H s)(h:CE X.stack X.prog X.w H s Q u J):EP X c j Q u J:=by obtain⟨v,l,i,a,un,f,r,q⟩:=h;obtain⟨k,g,d,t,e⟩:=J;obtain rfl:e=s.os:=i;exact⟨v,l,I.call (h':=k) (g':=g) (d':=d) (t':=t) (ch:=[]) un f a<|λb z=>absurd z<|by simp,r,q⟩
def Bm(d:Sp)(a:fL V)(E:XK)(t:TA):TE:=λj H Q=>t j H λb e=>d (b++a) e Q E
def Binds(K:fZ)(d:jm)(a:gu)(b:gq):Prop:=
 ∀(s:fS) (us:gq),K.In s.heap->(us++b).length=a.length->BindsTo s d ⟨us,[]⟩ (a.zip<|us++b)
def Binds.all{K:fZ}{e:jm}{b:gu}(h:∀a:fL fN,a.length=b.length->bindArgs e ⟨a,[]⟩=pure (b.zip a)):Binds K e b []:=λs a _ d=>by rw[aP]at d⊢;exact .of_eq (h a d)
def Passes(a:ky)(X:Cx)(E:XK):Prop:=∀(c:gp) (j:St) (H:Hp) (s:fS) (e:fN) (J:fS),Inv X c j H s->a X.stack H s E e J->X.xe e J
variable{O:ky}{k:Nat}{f C:fO}{B:jm}{l:gu}{M:Sp}{i:fL V}{y:gq}{E:XK}{x m:fR}{p L U:Pos}{e o:f6}{S:iL}{Y:TE}{t:TA}
def Nk{c:gp}{j:St}{H:Hp}{s:fS}{Q:VK}{a:gq}{d:fL V}(F:jv X.prog X.w X.K X.mg X.base O k f B l M)(q:g8 k X.A)(z:Binds X.K B l y)(w:Vals i y)(n:Passes O X E)
    (I:Inv X c j H s)(r:Vals d a)(h:M (d++i) H Q E):wpAny (model X.prog X.w) X.A (call (.ref f) a) (EP X c j Q) X.xe s:=by
 have g:Vals (d++i) (a++y):=r.append w;have v:(a++y).length=l.length:=by rw[<-g.length];exact F.len _ _ _ _ h
 refine wpAny_call (eX (F.run X.A X.stack s H ⟨a,[]⟩ (a++y) (d++i) Q E q I.yK (z s a I.jR v) g h) λr J b=>?_);cases r with
 |error e=>exact n c j H s e J I b
 |ok A=>
  cases A with
  |ret u=>exact I.after b
  |next=>exact False.elim b
  |brk=>exact False.elim b
  |cont=>exact False.elim b
def Jh(F:jv X.prog X.w X.K X.mg X.base O k f B l M)(u:g8 k X.A)(z:Gl X x)(v:X.mg x=some (.ref f))(w:W.keepIn X.K (.ref f)=true)(G:Binds X.K B l y)(D:Vals i y)(n:Passes O X E)
    (K:PA X (e::S) t)(d:i8 x)(A:X.se e S)(b:X.bk L S):
    PE X (.Call (.Name x p) (e::S) [] L) (Bm M i E t):=by
 intro c s j H Q I h;refine cj (zP I z v ?_ d);refine W.callWith_K (h₀:=X.base) I.ok.mod.vO w (gi (K L c s j H _ I h) λP R a=>?_) A b;obtain⟨N,T,g,r,q⟩:=a;refine⟨g.jR,?_⟩;exact Nk F u G D n g r q
end
structure lF(N P:gu)(sc:Scope):Prop where
 kind:sc.kind=.function
 co:sc.isCoroutine=false
 gen:sc.isGenerator=false
 nd:N.Nodup
 pre:N.take P.length=P
 par:∀x∈P,sc.names.lookup x=some .local\/sc.names.lookup x=some .cell
 HS:∀y∈sc.names,y.2≠.free
theorem x9{a:fR->fU NameKind}{x:fR}:∀{binds:fL<|fR×fN} {m:g5},(∀v,(x,v)∉binds)->bindL a binds m x=m x
 |[],_,_=>rfl
 |(n,v)::r,m,h=>by
  unfold bindL;rw[x9 λw b=>h w<|cw _ b];split
  ·have:x≠n:=by rintro rfl;exact h v dg
   simp[this]
  ·rfl
theorem x5{a:fR->fU NameKind}{x:fR}:∀{binds:fL<|fR×fN} {m:g5},(∀v,(x,v)∉binds)->bindC a binds m x=m x
 |[],_,_=>rfl
 |(n,v)::r,m,h=>by
  unfold bindC;rw[x5 λw b=>h w<|cw _ b];split;·rfl
  ·have:x≠n:=by rintro rfl;exact h v dg
   simp[this]
theorem x8{a:fR->fU NameKind}{x:fR}{v:fN}:∀{P:gu} {b:gq} {i:Nat} {m:g5},P.Nodup->P[i]?=some x->b[i]?=some v->a x=some .local->
 bindL a (P.zip b) m x=some v
 |[],_,_,_,_,h,_,_=>by simp at h
 |_::_,[],_,_,_,_,h,_=>by simp at h
 |p::P,w::b,0,m,e,d,c,f=>by simp at d c;subst d;subst c;show bindL a ((p,w)::P.zip b) m p=_;unfold bindL;rw[x9 λv hv=>(bB.mp e).1 (dW hv).1,ae f];simp
 |p::P,w::b,i+1,m,e,d,c,f=>by show bindL a ((p,w)::P.zip b) m x=_;unfold bindL;exact x8 (i:=i) (bB.mp e).2 (by simpa using d) (by simpa using c) f
theorem xZ{a:fR->fU NameKind}{x:fR}{v:fN}:∀{P:gu} {b:gq} {i:Nat} {m:g5},P.Nodup->P[i]?=some x->b[i]?=some v->a x≠some .local->
 bindC a (P.zip b) m x=some v
 |[],_,_,_,_,h,_,_=>by simp at h
 |_::_,[],_,_,_,_,h,_=>by simp at h
 |p::P,w::b,0,m,e,d,c,f=>by simp at d c;subst d;subst c;show bindC a ((p,w)::P.zip b) m p=_;unfold bindC;rw[x5 λv hv=>(bB.mp e).1 (dW hv).1,ah f];simp
 |p::P,w::b,i+1,m,e,d,c,f=>by show bindC a ((p,w)::P.zip b) m x=_;unfold bindC;exact xZ (i:=i) (bB.mp e).2 (by simpa using d) (by simpa using c) f
def start(N:gu)(a:fL V):St:=a.map some++List.replicate (N.length - a.length) none
def gW(g:ky)(P:gy)(w:gs)(K:fZ)(mg:g5)(base:gc)(N:gu)(b:fR)(a:Scope)(f:fO)(d:fN)(A:gz)(outer:iK)(s:fS)(H:Hp)(E:XK):Cx where
 prog:=P
 w:=w
 K:=K
 mg:=mg
 base:=base
 A:=A.deeper (envOfC b a s.heap.objs.size f d)
 N:=N
 s₀:=s
 H₀:=H
 env:=envOfC b a s.heap.objs.size f d
 outer:=outer
 stack:=envOfC b a s.heap.objs.size f d::outer
 ex:=[]
 calm:=true
 fn:=λ_=>true
 pn:=[]
 xe:=λe h=>wpAny (model P w) (A.deeper<|envOfC b a s.heap.objs.size f d) (leaving (envOfC b a s.heap.objs.size f d) e) (λ_ c=>g outer H s E e c) (λi c=>g outer H s E i c) h
def yg{sc:Scope}{n:Nat}{x:fR}(h:sc.names.lookup x=some .cell):∃c,(cellsFrom n sc.names []).lookup x=some c:=by have q:=eR sc.names n [] (.inl h);exact dc.mp q
def zC{U:ky}{P:gy}{w:gs}{K:fZ}{O:g5}{m:gc}{N B:gu}{j:fR}{d:Scope}{f:fO}{L:fN}{A:gz}{g:iK}{s Q:fS}{H:Hp}{E:XK}{M:gq}{t:fL V}
    (S:lF N B d)(Z:A.handled=none)(o:mz P w K O m A g s H)(hl:t.length=B.length)(r:Vals t M)
    (x:InCallC s s.heap.objs.size (bindL (envOfC j d s.heap.objs.size f L).kindOf (B.zip M) λ_=>none) (cellsFrom (s.heap.objs.size+1) d.names []) (bindC (envOfC j d s.heap.objs.size f L).kindOf (B.zip M) λ_=>none) Q):
    Inv (gW U P w K O m N j d f L A g s H E) [] (start N t) H Q:=by
 have Y:B.length<=N.length:=by have:=a9 List.length S.pre;rw[bD]at this;omega
 obtain⟨J,tk,rfl,T⟩:=x.done;have C:∀b:fO,b∉(gW U P w K O m N j d f L A g s H E).ex:=λb z=>absurd (show b∈([]:fL fO)from z) (by simp)
 refine⟨⟨o.mod,S.kind,rfl,rfl,af _,λy z c J l=>?_,λy D=>?_,λy c _ h=>?_,λ_=>Z,Around.frames_deeper o.frames,.inr ⟨rfl,rfl⟩,λb z=>absurd z (C b),o.bs,o.nJ,λb _ _=>C b,λb z=>absurd z (C b),o.kW,o.qq⟩,
  rfl,o.bare,Un.kept T,⟨_,x.toInCall.ns,λi y v J l h3=>?_⟩,λy c h=>⟨_,x.cell y c h⟩,o.hok.fresh (af _),λy c h=>?_,λp G=>absurd (show p∈([]:fL (fO×iC))from G) (by simp),o.hok.kept T,?_⟩
 ·exact name_of_addr x.apart (br J) (br l)
 ·have D:d.names.lookup y=some .cell\/d.names.lookup y=some .free:=D;rcases D with D|D;·exact yg D
  ·exact absurd rfl (S.HS _<|br D)
 ·exact bI (x.above y c<|br h)
 ·have I:i<t.length:=by
   unfold start at l;by_cases I:i<t.length;·exact I
   ·rw[av<|by simpa using I]at l;rw[bt]at l;split at l<;>cases l
  have ha:t[i]?=some v:=by
   unfold start at l;rw[aB<|by simpa using I,aF]at l;cases e:t[i]? with
   |none=>rw[e]at l;cases l
   |some a=>rw[e]at l;cases l;rfl
  obtain⟨u,R,X⟩:=r.get ha;have G:B[i]?=some y:=by rw[<-S.pre,List.getElem?_take_of_lt<|by omega];exact J
  have F:B.Nodup:=by rw[<-S.pre];exact S.nd.sublist (List.take_sublist _ _)
  refine⟨u,X,?_⟩;rcases S.par y (cx G)with k|k;·exact .inl ⟨k,x8 F G R k⟩
  ·obtain⟨c,e⟩:=yg (n:=s.heap.objs.size+1) k;refine .inr ⟨.inl k,c,e,?_⟩;have q:=x.cell y c e;rw[xZ F G R (by show d.names.lookup y≠_;rw[k];decide)]at q;exact q
 ·exact o.hok.fresh (bI<|x.above y c<|br h)
 ·unfold start;show _=N.length;rw[aj,ar,cm];omega
abbrev _root_.iV:=fU fO
abbrev _root_.nE:=fY (fU fN)
def ve{R:ky}{P:gy}{w:gs}{K:fZ}{O:g5}{i:gc}{k:Nat}{f:fO}{p d:fR}{h:Arguments}{j:fL Stmt}{a:Scope}{dV kV L pm g ct oc:fN}{an od:iV}
    {Y:nE}{N M:gu}{T:Sp}(lk:K.lookup f=some ⟨oc,od,.func<|W.fnOf p d h j a dV kV L pm an g ct,Y⟩)(hcd:W.codeIn K g d=true)(S:lF N M a)
    (len:∀m H Q E,T m H Q E->m.length=M.length)
    (C:∀(A:gz) (c:iK) (s:fS) (H:Hp) (m:fL V) (Q:VK) (E:XK),g8 k (A.deeper (envOfC d a s.heap.objs.size f g))->T m H Q E->
      ∃t,kN (gW R P w K O i N d a f g A c s H E) j t/\t {nx:=λ_ z=>Q .non z,rt:=Q} (start N m) H):
    jv P w K O i R (k+1) f (W.fnOf p d h j a dV kV L pm an g ct) M T:=by
 refine⟨len,λA c s H args us m Q E hr G hb r F=>?_⟩;have hl:=len _ _ _ _ F;have KX:K.In s.heap:=G.mod.vO.keeps λb o e=>(G.bs b o e).1;have Z:s.heap.NoLimit:=G.mod.nolimit.keeps λb o e=>(G.bs b o e).1;have B:∀y∈M.zip us,a.names.lookup y.1=some .local\/(a.names.lookup y.1=some .cell/\((cellsFrom (s.heap.objs.size+1) a.names []).lookup y.1).isSome=true):=λ⟨n,v⟩ hy=>by
  rcases S.par n (dW hy).1 with q|q;·exact .inl q
  ·exact .inr ⟨q,eR _ _ _<|.inl q⟩
 refine codeAny_call_function hr.depth (KX _ _ lk) rfl S.co S.gen rfl (W.codeRec_of KX hcd) (hb _ _ _ _ ?_);refine eg S.kind B λenv he s1 x=>?_;subst he;refine⟨Z.keeps x.toInCall.keep,codeAny_func ?_⟩;obtain⟨t,ht,hq⟩:=C A c s H m Q E (hr.deeper _) F;have I:Inv (gW R P w K O i N d a f g A c s H E) [] (start N m) H s1:=zC S hr.hd G hl r x;refine aU (ht [] s1 (start N m) H _ I hq) (λfl U D=>?_) λe U D=>D
 have fin:∀{l:St} {z:Hp} {v:V} {u:fN},Inv (gW R P w K O i N d a f g A c s H E) [] l z U->RelV v u->Q v z->CE c P w H s Q u U:=
  λ{l z v u} J X q=>⟨v,z,J.os,J.bare,J.base,J.hok,X,q⟩
 cases fl with
 |ret u=>obtain⟨v,l,z,J,X,q⟩:=D;exact fin J X q
 |next=>obtain⟨l,z,J,q⟩:=D;exact fin (v:=V.non) (u:=Value.none) J rfl q
 |brk=>obtain⟨_,_,_,q⟩:=D;exact False.elim q
 |cont=>obtain⟨_,_,_,q⟩:=D;exact False.elim q
variable{X:Cx}{x:fR}{p pos:Pos}{e:f6}{es:iL}{t:TA}{id T:String}{r:fL V->Hp->VK->Prop}
def Bl(r:fL V->Hp->VK->Prop)(t:TA):TE:=λa H Q=>t a H λb c=>r b c Q
def Ji(q:jN X (.builtin id) r)(n:Gl X x)(m:X.mg x=none)(hv:bootBuiltins x=some (.builtin id))(u:PA X (e::es) t)(l:x≠"__name__")(c:i8 x)
    (o:X.se e es)(b:X.bk pos es):PE X (.Call (.Name x p) (e::es) [] pos) (Bl r t):=by
 intro a s d H Q I h;refine cj (mn I n m hv ?_ l c);exact cB (gi (u pos a s d H _ I h) λg i ⟨f,w,v,j,k⟩=>q a i d w f g Q v j k) o b
def Jj(q:jN X (.type T) r)(n:Gl X x)(m:X.mg x=none)(hv:bootBuiltins x=some (.type T))(u:PA X (e::es) t)(l:x≠"__name__")(c:i8 x)
    (o:X.se e es)(b:X.bk pos es):PE X (.Call (.Name x p) (e::es) [] pos) (Bl r t):=by
 intro a s d H Q I h;refine cj (mn I n m hv ?_ l c);exact b8 (gi (u pos a s d H _ I h) λg i ⟨f,w,v,j,k⟩=>q a i d w f g Q v j k) o b
end L2
namespace HT
open PySem PyProof.Rows
variable{c:gy}{w:gs}{A:gz}{E:gE}{s:fS}
def gw(n d:Nat):fU Int->Nat
 |none=>d
 |some v=>if v<0 then(v+(n:Int)).toNat else min v.toNat n
abbrev _root_.kQ:=fU Int
def Nw(n d:Nat)(a:d<=n)(o:kQ):gw n d o<=n:=by
 cases o with
 |none=>exact a
 |some v=>
  show(if v<0 then(v+(n:Int)).toNat else min v.toNat n)<=n;by_cases hv:v<0;·rw[ae hv];omega
  ·rw[ah hv];exact Nat.min_le_right _ _
def yj(v:Int)(n d:Nat):(if v<0 then max (v+(n:Int)) 0 else min v (n:Int))=((gw n d<|some v:Nat):Int):=by
 show(if v<0 then max (v+(n:Int)) 0 else min v (n:Int))=(((if v<0 then(v+(n:Int)).toNat else min v.toNat n):Nat):Int);by_cases hv:v<0;·simp only[ae hv];omega
 ·simp only[ah hv];omega
def Ct(lo a:kQ)(n:Nat):Builtin.Slice.sliceAdjust lo a 1 (n:Int)=(((gw n 0 lo:Nat):Int),((gw n n a:Nat):Int)):=by
 have b:¬((1:Int)<0):=by omega
 unfold Builtin.Slice.sliceAdjust;simp only[b,bU];refine Prod.ext ?_ ?_
 ·cases lo with
  |none=>rfl
  |some v=>exact yj v n 0
 ·cases a with
  |none=>rfl
  |some v=>exact yj v n n
def JK(i j:Nat):Builtin.Slice.slicePlaces (i:Int) (j:Int) 1=j - i:=by
 unfold Builtin.Slice.slicePlaces;have a:(1:Int)>0:=by omega
 simp only[a,cz,Int.ediv_one];split<;>omega
def A8{v:fN}{o:kQ}{Q:fU Int->fS->Prop}(p:IsPart v o)(h:Q o s):wpAny (model c w) A (Builtin.Slice.slicePartIndex v) Q E s:=by
 cases p with
 |none=>exact slicePart_none h
 |int i t=>exact slicePart_int h
def NJ{g:fO}{f e:fN}{lo b:kQ}{n:Nat}{Q:Int×Int×Nat->fS->Prop}(k:s.heap.IsSliceOf g f e .none)(j:IsPart f lo)(i:IsPart e b)
    (h:Q (((gw n 0 lo:Nat):Int),1,gw n n b - gw n 0 lo) s):wpAny (model c w) A (Builtin.Slice.sliceApplied (.ref g)<|pure (n:Int)) Q E s:=by
 obtain⟨m,a,l,d⟩:=id k;unfold Builtin.Slice.sliceApplied Builtin.Slice.sliceFields;refine aa (aa<|di a d (x:=f) rfl<|aa<|di a d (x:=e) rfl<|aa<|di a d (x:=.none) rfl<|aG ?_);refine aa (slicePart_none ?_);show wpAny _ _ (if((1:Int)==0)=true then _ else _) _ _ s;rw[ah<|by decide];refine aa (A8 j<|aa<|A8 i<|aa<|aG ?_);show wpAny _ _ (match Builtin.Slice.sliceAdjust lo b 1 (n:Int)with|(lo,b)=>pure (lo,(1:Int),Builtin.Slice.slicePlaces lo b 1)) _ _ s;rw[Ct lo b n];show wpAny _ _ (pure (((gw n 0 lo:Nat):Int),(1:Int),Builtin.Slice.slicePlaces ((gw n 0 lo:Nat):Int) ((gw n n b:Nat):Int) 1)) _ _ s;rw[JK];exact aG h
def JJ(a:lL)(i k:Nat):((List.range k).filterMap λ(m:Nat)=>a[((i:Int)+(m:Int)*1).toNat]?).toArray=((a.toList.drop i).take k).toArray:=by
 have e:(λ(m:Nat)=>a[((i:Int)+(m:Int)*1).toNat]?)=λm=>a[i+m]?:=by
  funext m;have:((i:Int)+(m:Int)*1).toNat=i+m:=by omega
  rw[this]
 rw[e];have:=pick_run a i k;rw[List.filterMap_map]at this;have b:((λx=>a[x]?)∘λx=>i+x)=λm=>a[i+m]?:=rfl;rw[b]at this;rw[this]
def EW{t f:fO}{a:lL}{n l:fN}{lo d:kQ}{Q:gE}(e:IsTup s.heap t a)(o:s.heap.IsSliceOf f n l .none)(r:IsPart n lo)(p:IsPart l d)
    (v:¬(gw a.size 0 lo=0/\gw a.size a.size d=a.size))
    (h:Q (.ref s.heap.objs.size) {s with heap:=s.heap.push {cls:=.type "tuple",data:=.seq ((a.toList.drop<|gw a.size 0 lo).take (gw a.size a.size d - gw a.size 0 lo)).toArray}})
    (x:a.size<=sizeLine):wpAny (model c w) A (getItem (.ref t)<|.ref f) Q E s:=by
 have b:sizeOk (.seq ((a.toList.drop<|gw a.size 0 lo).take (gw a.size a.size d - gw a.size 0 lo)).toArray):=by show((a.toList.drop<|gw a.size 0 lo).take (gw a.size a.size d - gw a.size 0 lo)).toArray.size<=sizeLine;rw[az,bD,cc,aJ];omega
 have C:gw a.size a.size d<=a.size:=Nw _ _ (af _) d;obtain⟨u,g,j,y⟩:=id o;have k:s.TypeIs (.ref f) "slice":=⟨u,g,j⟩;unfold getItem;try with_reducible refine cb ?_
 first|refine aa (aG ?_)|skip
 refine aa (wpAny_sequenceKey e.typeIs (by decide) ?_)
 refine aa (wpAny_callSpecial?_slot (name:=Str.ofString "__getitem__") e.typeIs dz
  (eS dz e.typeIs entry_tuple_getitem ?_ (args_tuple_getitem _ _)))
 show wpAny _ _ (Builtin.Tuple.tupleItemsOf (.ref t)>>=_) _ _ s;refine aa (tupleItemsOf_ e ?_);refine aa (wpAny_typeOf k ?_);rw[ae<|by decide];refine aa (NJ o r p ?_);have i:¬((((gw a.size 0 lo:Nat):Int)==0&&(1:Int)==1&&(gw a.size a.size d - gw a.size 0 lo)==a.size)=true):=by intro q;rw[aK,aK]at q;have B:((gw a.size 0 lo:Nat):Int)=0:=eq_of_beq q.1.1;have z:gw a.size a.size d - gw a.size 0 lo=a.size:=eq_of_beq q.2;exact v ⟨by omega,by omega⟩
 show wpAny _ _ (if(((gw a.size 0 lo:Nat):Int)==0&&(1:Int)==1&&(gw a.size a.size d - gw a.size 0 lo)==a.size)=true then _ else _) _ _ s;rw[ah i,JJ]
 first
  |exact aa (m:=Builtin.Tuple.tupleExact _) (bX (aG ⟨_,rfl,aG h⟩) b)
  |exact aa (m:=Builtin.Tuple.tupleExact _) (bX (aa<|aG<|aG ⟨_,rfl,aG h⟩) b)
  |exact aa (aa (m:=Builtin.Tuple.tupleExact _)<|bX (aG<|aG ⟨_,rfl,aG h⟩) b)
  |exact aa (aa (m:=Builtin.Tuple.tupleExact _)<|bX (aG ⟨_,rfl,aG h⟩) b)
end HT
namespace L2
open PySem PySem.Spec PyProof.Rows
abbrev TO:=St->Hp->(fU Int->Hp->Prop)->Prop
def PO(X:Cx)(e:fU f6)(t:TO):Prop:=
 ∀(a:gp) (s:fS) (σ:St) (H:Hp) (Q:fU Int->Hp->Prop),Inv X a σ H s->t σ H Q->
  wpAny (model X.prog X.w) X.A (evalPart e X.env) (λu c=>∃o b,Inv X a σ b c/\IsPart u o/\Q o b) X.xe s
def Oo:TO:=λ_ H Q=>Q none H
def Ow(t:TE):TO:=λa H Q=>t a H λx b=>∃i,x=.int i/\Q (some i) b
variable{X:Cx}{e:f6}{te:TE}{lo J:fU f6}{tl th:TO}{pos p2:Pos}
def JM:PO X none Oo:=by intro a s b H Q I h;rw[evalPart_none];exact aG ⟨none,H,I,.none,h⟩
def JN(h:PE X e te):PO X (some e) (Ow te):=by intro a s c H Q I g;rw[evalPart_some];refine gi (h a s c H _ I g) λu l b=>?_;obtain⟨x,k,j,d,f⟩:=b;obtain⟨i,rfl,q⟩:=f;obtain⟨t,rfl⟩:=d;exact⟨some i,k,j,.int i t,q⟩
def ma(X:Cx)(r:V->fU Int->fU Int->Hp->VK->Prop):Prop:=
 ∀(a:gp) (s:fS) (σ:St) (H:Hp) (x:V) (v c b:fN) (lo J:kQ) (d:fO) (Q:VK),Inv X a σ H s->RelV x v->s.heap.IsSliceOf d c b .none->IsPart c lo->IsPart b J->r x lo J H Q->
  ∃T f,typeLookup (.type T) "__getitem__"=pure (some<|.builtin f)/\s.TypeIs v T/\wpAny (model X.prog X.w) X.A (getItem v<|.ref d) (EP X a σ Q) X.xe s
def ma.or{r i:V->fU Int->fU Int->Hp->VK->Prop}(h:ma X r)(m:ma X i):ma X (λx lo J H Q=>r x lo J H Q\/i x lo J H Q):=by
 intro a s b H x v d c lo J f Q I g l k j q;rcases q with q|q;·exact h a s b H x v d c lo J f Q I g l k j q
 ·exact m a s b H x v d c lo J f Q I g l k j q
def OA(r:V->fU Int->fU Int->Hp->VK->Prop)(te:TE)(tl th:TO):TE:=λa H Q=>te a H λx d=>tl a d λl c=>th a c λu b=>r x l u b Q
def Jt{r:V->fU Int->fU Int->Hp->VK->Prop}(B:ma X r)(E:PE X e te)(C:PO X lo tl)(z:PO X J th):PE X (.Subscript e (.Slice lo J none p2) pos) (OA r te tl th):=by intro a s f H Q I h;refine Subscript_ (gi (E a s f H _ I h) λv m c=>?_);obtain⟨x,N,L,n,t⟩:=c;refine wpAny_Slice (gi (C a m f N _ L t) λi k c=>?_);obtain⟨l,M,K,y,p⟩:=c;refine gi (z a k f M _ K p) λg d c=>?_;obtain⟨u,j,G,w,o⟩:=c;rw[evalPart_none];refine aG ?_;have F:Inv X a f j {d with heap:=d.heap.push {cls:=.type "slice",data:=.fields #[i,g,.none]}}:=G.kept (t':=d.toks) λb ob q=>ag _ q;obtain⟨T,O,hT,A,D⟩:=B a {d with heap:=d.heap.push {cls:=.type "slice",data:=.fields #[i,g,.none]}} f j x v i g l u d.heap.objs.size Q F n (Heap.IsSliceOf.new ..) y w o;show wpAny (model X.prog X.w) X.A (subscriptTail e (.Slice lo J none p2) v<|.ref d.heap.objs.size) (EP X a f Q) X.xe {d with heap:=d.heap.push {cls:=.type "slice",data:=.fields #[i,g,.none]}};exact tail_any (ops:=[.ref d.heap.objs.size,v]) A hT D (by with_unfolding_all rfl)
def mO(a:fL V)(lo J:kQ):fL V:=(a.drop<|HT.gw a.length 0 lo).take (HT.gw a.length a.length J - HT.gw a.length 0 lo)
def yp(a:fL V)(lo J:kQ):(mO a lo J).length<=a.length:=by unfold mO;rw[bD,cc];omega
def M3(K:fZ):V->fU Int->fU Int->Hp->VK->Prop:=λx lo J H Q=>∃a b,x=.ref a/\jC K H a b/\
 ¬(HT.gw b.length 0 lo=0/\HT.gw b.length b.length J=b.length)/\∀p,H p=none->Q (.ref p) (upd H p<|.tup<|mO b lo J)
def NI:ma X (M3 X.K):=by
 intro g s u H x v y w lo J z Q I k t m l h;obtain⟨a,d,rfl,n,p,q⟩:=h;cases k;obtain⟨f,r,j,i⟩:=I.tuple n;have c:f.toArray.size=d.length:=by rw[az];exact r.length.symm
 refine⟨"tuple",_,PyProof.Rows.slot_tuple_getitem.lookup,j.typeIs,?_⟩;refine HT.EW j t m l (by rw[c];exact p) ?_ (by rw[c];exact i);rw[c];refine⟨.ref s.heap.objs.size,_,I.laid (t':=s.toks) (o:=.tup<|mO d lo J) (λb ob q=>ag _ q) (af _) ?_,rfl,q _<|I.hok.fresh<|af _⟩;exact⟨aC (yp d lo J) i,_,(r.drop<|HT.gw d.length 0 lo).take (HT.gw d.length d.length J - HT.gw d.length 0 lo),IsTup.new _ _⟩
noncomputable def lW(n:Nat)(i:Int):fU Nat:=if 0<=i then(if i<n then some i.toNat else none)else if -(n:Int)<=i then some (i+n).toNat else none
def gO{a:Type}(b:fL a)(i:Int):fU a:=(lW b.length i).bind λj=>b[j]?
def zI{n:Nat}{i:Int}{j:Nat}(h:lW n i=some j):seqIndex? i n=some j/\j<n/\ -(n:Int)<=i/\i<n:=by
 unfold lW at h;by_cases b:0<=i
 ·rw[ae b]at h;by_cases a:i<n
  ·rw[ae a]at h;have e:i.toNat=j:=Option.some.inj h;exact⟨by rw[seqIndex_of b a,e],by omega,by omega,a⟩
  ·rw[ah a]at h;cases h
 ·rw[ah b]at h;by_cases a: -(n:Int)<=i
  ·rw[ae a]at h;have e:(i+n).toNat=j:=Option.some.inj h;exact⟨by rw[seqIndex_neg (by omega) a,e],by omega,a,by omega⟩
  ·rw[ah a]at h;cases h
def uw{b:Type}{a:fL b}{i:Int}{v:b}(h:gO a i=some v):∃j,seqIndex? i a.length=some j/\a[j]?=some v/\j<a.length/\ -(a.length:Int)<=i/\i<a.length:=by
 unfold gO at h;cases e:lW a.length i with
 |none=>rw[e]at h;cases h
 |some j=>rw[e]at h;obtain⟨g,f,d,c⟩:=zI e;exact⟨j,g,h,f,d,c⟩
def ux{b:Type}{a:fL b}{j:Nat}{v:b}(h:a[j]?=some v):gO a (j:Int)=some v:=by
 have c:j<a.length:=(au.mp h).1;have e:lW a.length (j:Int)=some j:=by unfold lW;rw[ae<|by omega,ae<|by omega];simp
 unfold gO;rw[e];exact h
def xM(b:f6):Prop:=∀o i,subscripted b false o i=operate [o,i] (getItem o i)
def lG(X:Cx)(r:R2):Prop:=
 ∀(b a:f6) (pins:gp) (s:fS) (σ:St) (H:Hp) (x y:V) (v u:fN) (Q:VK),Inv X pins σ H s->RelV x v->RelV y u->r x y H Q->
  subscripted a false v u=operate [v,u] (getItem v u)->wpAny (model X.prog X.w) X.A (subscriptTail b a v u) (EP X pins σ Q) X.xe s
def xI(X:Cx)(b:String)(r:V->fL V->Hp->VK->Prop):Prop:=
 ∀(a:gp) (s:fS) (σ:St) (H:Hp) (x:V) (xs:fL V) (v:fN) (us:gq) (Q:VK),Inv X a σ H s->RelV x v->Vals xs us->r x xs H Q->
  wpAny (model X.prog X.w) X.A (call (.builtin b)<|v::us) (EP X a σ Q) X.xe s
variable{a b:f6}{ta tb:TE}
def lG.or{r k:R2}(h:lG X r)(m:lG X k):lG X (λx y H Q=>r x y H Q\/k x y H Q):=by
 intro c d f s g H x y v u Q I j i q l;rcases q with q|q;·exact h c d f s g H x y v u Q I j i q l
 ·exact m c d f s g H x y v u Q I j i q l
def Jp{r:R2}(k:lG X r)(m:PE X a ta)(l:PE X b tb)(j:xM b):PE X (.Subscript a b pos) (tJ r ta tb):=by intro c s d H Q I h;exact Subscript_ (uA m l I h λv u f x y o n i g q=>k a b c f d o x y v u Q n i g q<|j _ _)
def AQ(K:fZ):R2:=λx y H Q=>∃p c i v,x=.ref p/\y=.int i/\iF K H p c/\gO c i=some v/\Q v H
def AS(K:fZ):R2:=λx y H Q=>∃p c i v,x=.ref p/\y=.int i/\jC K H p c/\gO c i=some v/\Q v H
def AR:R2:=λx y H Q=>∃z i c,x=.str z/\y=.int i/\z.length<=sizeLine/\gO z.cps.toList i=some c/\Q (.str ⟨#[c]⟩) H
def Gs:lG X (AQ X.K):=by
 intro f g c s o H x y v u Q I F E h A;obtain⟨p,P,i,z,rfl,rfl,G,L,q⟩:=h;cases F;obtain⟨t,rfl⟩:=E;obtain⟨m,r,l,R⟩:=I.list G;obtain⟨j,d,O,T,N,M⟩:=uw L;obtain⟨w,C,k⟩:=r.get O;have K:=r.length;have S:=nT;have fin:EP X c o Q w s:=⟨z,H,I,k,q⟩;by_cases B:0<=i
 ·have n:i.toNat=j:=by
   rw[seqIndex_of B M]at d;exact Option.some.inj d
  exact item_listR l.isList B (by omega) (by rw[n];simpa using C) fin A
 ·have n:(i+(m.toArray.size:Int)).toNat=j:=by
   rw[seqIndex_neg (by omega) N]at d;rw[az,<-K];exact Option.some.inj d
  exact subscriptTail_builtinR (x:=w) l.isList.typeIs slot_list_getitem.lookup
   (wpAny_getItem_list_neg (Q:=λr D=>r=w/\EP X c o Q r D) l.isList (by omega) (by rw[az]<;>omega) (by omega) (by rw[n];simpa using C) ⟨rfl,fin⟩) A
def Gx:lG X (AS X.K):=by
 intro d f c s k H x y v u Q I o n h B;obtain⟨p,L,i,z,rfl,rfl,C,E,q⟩:=h;cases o;obtain⟨t,rfl⟩:=n;obtain⟨A,r,l,M⟩:=I.tuple C;obtain⟨j,G,F,R,P,O⟩:=uw E;obtain⟨w,K,g⟩:=r.get F;have D:=r.length;have N:=nT;have fin:EP X c k Q w s:=⟨z,H,I,g,q⟩
 exact subscriptTail_builtinR (x:=w) l.typeIs slot_tuple_getitem.lookup
  (getItem_tuple (j:=j) (Q:=λr m=>r=w/\EP X c k Q r m) l (by omega) (by omega) (by rw[az,<-D];exact G) (by simpa using K) ⟨rfl,fin⟩) B
def Gw:lG X AR:=by
 intro d f g s D H x y v u Q I m l h n;obtain⟨z,i,c,rfl,rfl,F,p,q⟩:=h;obtain⟨t,rfl⟩:=m;obtain⟨E,rfl⟩:=l;obtain⟨j,k,A,K,w,r⟩:=uw p;have o:z.cps.toList.length=z.length:=by simp[Str.length]
 rw[o]at k w r;have G:=nT;exact tail_any (typeIs_str s z t) slot_str_getitem.lookup (getItem_str (c:=c) (by have C:decide (i< -(2^63:Int))=false:=ax (by omega);have B:decide (i≥2^63)=false:=ax (by omega);rw[C,B,Bool.or_false]) (by rw[k];simpa using A) ⟨.str ⟨#[c]⟩,H,I.tok _,⟨_,rfl⟩,q⟩) n
def MX(K:fZ):R2:=λx y H Q=>AQ K x y H Q\/AS K x y H Q\/AR x y H Q
def Gv:lG X (MX X.K):=Gs.or (Gx.or Gw)
def HB(c:gq)(n j:Nat)(u:fN):Obj.mapSeq (·.setIfInBounds j u) {cls:=.type "list",data:=.seq c.toArray n}={cls:=.type "list",data:=.seq (c.set j u).toArray n}:=by simp[Obj.mapSeq]
def Inv.lst{d:gp}{g:St}{H:Hp}{s:fS}{p:fO}{f:fL V}(I:Inv X d g H s)(h:H p=some (.lst f)):
    ∃(c:gq) (n:Nat),Vals f c/\s.heap.get? p=some {cls:=.type "list",data:=.seq c.toArray n}/\f.length<=sizeLine:=by
 obtain⟨z,c,n,r,e⟩:=I.hok p _ h;exact⟨c,n,r,e,z⟩
def Inv.Hf{d:gp}{k:St}{H:Hp}{s:fS}{p:fO}{l i:fL V}{g c:gq}{n j:Nat}{f:iC->iC}(I:Inv X d k H s)(h:H p=some (.lst l))
    (o:s.heap.get? p=some {cls:=.type "list",data:=.seq g.toArray n})(hf:f {cls:=.type "list",data:=.seq g.toArray n}={cls:=.type "list",data:=.seq c.toArray j})(r:Vals i c)(m:i.length<=sizeLine)(t:Nat):
    Inv X d k (upd H p<|.lst i) {s with heap:=s.heap.update p f,toks:=t}:=by
 have e:(s.heap.update p f).get? p=some {cls:=.type "list",data:=.seq c.toArray j}:=by rw[cS f o<|by rw[hf]<;>rfl,hf]
 refine I.write (x:=p) (e:=p) (by rw[h];trivial) (.inl rfl) (λb u v q=>(bE _ _<|b7 v).trans q) ⟨_,e⟩ ?_;exact⟨m,c,j,r,e⟩
def MZ:V->V->V->Hp->(Hp->Prop)->Prop:=λo i v H Q=>∃p c k j,o=.ref p/\i=.int k/\H p=some (.lst c)/\lW c.length k=some j/\Q (upd H p<|.lst<|c.set j v)
def set_list:xK X MZ:=by
 intro c s B H o i v L M u Q I E F D h;obtain⟨p,C,k,j,rfl,rfl,w,K,q⟩:=h;cases E;obtain⟨t,rfl⟩:=F;obtain⟨d,n,r,g,G⟩:=I.lst w;obtain⟨f,O,y,x⟩:=zI K;have l:=r.length;have N:=nT
 have A:Inv X c B (upd H p<|.lst<|C.set j v) {s with heap:=s.heap.update p (Obj.mapSeq (·.setIfInBounds j u))}:=
  I.Hf w g (HB d n j u) (r.set D j) (by rw[aR];exact G) s.toks
 by_cases z:0<=k
 ·have m:k.toNat=j:=by
   rw[seqIndex_of z x]at f;exact Option.some.inj f
  exact W.ki_setAt g z (by omega) (by rw[az,<-l];exact x) (by rw[m];exact⟨_,A,q⟩)
 ·have m:(k+(d.toArray.size:Int)).toNat=j:=by
   rw[seqIndex_neg (by omega) y]at f;rw[az,<-l];exact Option.some.inj f
  exact W.ki_setBack g (by omega) (by rw[az,<-l];exact y) (by omega) (by rw[m];exact⟨_,A,q⟩)
def NL(lo J:kQ)(n:Nat):(sliceBounds lo J none n).1=((HT.gw n 0 lo:Nat):Int)/\(sliceBounds lo J none n).2.1=((HT.gw n n J:Nat):Int)/\(sliceBounds lo J none n).2.2=1:=by
 refine⟨?_,?_,rfl⟩
 ·cases lo with
  |none=>simp[sliceBounds,HT.gw]
  |some i=>
   simp only[sliceBounds,HT.gw,Option.getD_none,show(1:Int)>0 by decide,cz];by_cases h:i<0;·simp only[h,cz]<;>omega
   ·simp only[h,bU]<;>omega
 ·cases J with
  |none=>simp[sliceBounds,HT.gw]
  |some i=>
   simp only[sliceBounds,HT.gw,Option.getD_none,show(1:Int)>0 by decide,cz];by_cases h:i<0;·simp only[h,cz]<;>omega
   ·simp only[h,bU]<;>omega
def NK(c:gq)(lo J:kQ):slicePick c.toArray lo J none=((c.drop (HT.gw c.length 0 lo)).take (HT.gw c.length c.length J - HT.gw c.length 0 lo)).toArray:=by obtain⟨g,f,d⟩:=NL lo J c.toArray.size;unfold slicePick;rw[g,f,d];simp only[sliceRange_one,pick_run,az]<;>rfl
def M0(K:fZ):V->fU Int->fU Int->Hp->VK->Prop:=λx lo J H Q=>∃a c,x=.ref a/\iF K H a c/\∀p,H p=none->Q (.ref p) (upd H p<|.lst<|mO c lo J)
def NG:ma X (M0 X.K):=by intro f s t H x v w u lo J y Q I i p k j h;obtain⟨a,c,rfl,n,q⟩:=h;cases i;obtain⟨l,r,g,m⟩:=I.list n;have d:=r.length;refine⟨"list",_,slot_list_getitem.lookup,g.isList.typeIs,?_⟩;refine wpAny_getItem_list_slice g.isList p k j .none (by simp) ?_ (by rw[az]<;>omega);rw[NK,<-d];refine⟨.ref s.heap.objs.size,_,I.laid (t':=s.toks) (o:=.lst<|mO c lo J) (λb ob q=>ag _ q) (af _) ?_,rfl,q _<|I.hok.fresh<|af _⟩;exact⟨aC (yp c lo J) m,_,0,(r.drop<|HT.gw c.length 0 lo).take (HT.gw c.length c.length J - HT.gw c.length 0 lo),aQ _ rfl⟩
def CW:jN X (.builtin "len") (λk H Q=>∃p d,k=[.ref p]/\(iF X.K H p d\/jC X.K H p d)/\Q (.int d.length) H):=by
 intro l s o H k t Q I r h;obtain⟨p,d,rfl,f,q⟩:=h;obtain⟨u,rfl,m⟩:=vals1 r;cases m;have v:=nT;rcases f with f|f
 ·obtain⟨j,g,i,n⟩:=I.list f;have c:=g.length;exact Calls.call_len_list i.isList (by simp only[az]<;>omega) ⟨.int d.length,H,I.tok _,⟨s.toks+1,by rw[az,c]⟩,q⟩
 ·obtain⟨j,g,i,n⟩:=I.tuple f;have c:=g.length;exact len_tuple i (by simp only[az]<;>omega) ⟨.int d.length,H,I.tok _,⟨s.toks+1,by rw[az,c]⟩,q⟩
def CY:jN X (.builtin "len") (λc H Q=>∃z,c=[.str z]/\z.length<=sizeLine/\Q (.int z.length) H):=by intro d s f H c g Q I r h;obtain⟨z,rfl,i,q⟩:=h;obtain⟨u,rfl,t,rfl⟩:=vals1 r;have j:=nT;exact len_str (by omega) ⟨.int z.length,H,I.tok _,⟨_,rfl⟩,q⟩
def jN.or{f:fN}{r j:fL V->Hp->VK->Prop}(h:jN X f r)(k:jN X f j):jN X f (λd H Q=>r d H Q\/j d H Q):=by
 intro c s g H d i Q I rs q;rcases q with q|q;·exact h c s g H d i Q I rs q
 ·exact k c s g H d i Q I rs q
def C0:jN X (.type "list") (λA H Q=>∃p f,A=[.ref p]/\(iF X.K H p f\/jC X.K H p f)/\∀l,H l=none->Q (.ref l) (upd H l<|.lst f)):=by
 intro j s C H A E Q I r h;obtain⟨p,f,rfl,t,q⟩:=h;obtain⟨u,rfl,D⟩:=vals1 r;cases D
 have fin:∀(c:gq),Vals f c->f.length<=sizeLine->∀(d:gc) (i:Nat),(∀b B,s.heap.get? b=some B->d.get? b=some B)->
  d.get? s.heap.objs.size=some {cls:=.type "list",dict:=none,data:=.seq c.toArray i,slots:=#[]}->EP X j C Q (.ref s.heap.objs.size) {s with heap:=d}:=λc g m d i k e=>
  ⟨.ref s.heap.objs.size,_,I.laid (t':=s.toks) k (af _)<|show iy X.prog X.w _ d _ (.lst f)from⟨m,c,i,g,e⟩,rfl,q _<|I.hok.fresh<|af _⟩
 rcases t with t|t
 ·obtain⟨c,g,w,m⟩:=I.list t;have v:=g.length;obtain⟨o,x,z,n,y⟩:=w.isList;exact call_list_seq p (.inl rfl) x z y (λd i k e=>fin c g m d i k e) (by simp only[az]<;>omega)
 ·obtain⟨c,g,w,m⟩:=I.tuple t;have v:=g.length;obtain⟨o,x,z,n,y⟩:=w;exact call_list_seq p (.inr rfl) x z y (λd i k e=>fin c g m d i k e) (by simp only[az]<;>omega)
def xk(K:fZ)(T:String)(x:V)(H:Hp):Prop:=match x with
 |.str _=>T="str"
 |.int _=>T="int"
 |.ref p=>(T="list"/\∃d,iF K H p d)\/(T="tuple"/\∃o,K.lookup p=some o/\o.cls=.type "tuple"/\o.dict=none)\/
   (T="dict"/\((∃c,H p=some (.dK c))\/∃c,H p=some (.dT c)))\/(T="set"/\∃S n,H p=some (.set S n))
 |_=>False
def Bv{f:gp}{l:St}{H:Hp}{s:fS}{T:String}{x:V}{v:fN}(I:Inv X f l H s)(r:RelV x v)(ty:xk X.K T x H):
    s.TypeIs v T/\∀a,v=.ref a->∃ob,s.heap.get? a=some ob/\ob.dict=none:=by
 cases x with
 |str z=>obtain⟨t,rfl⟩:=r;cases(show T="str" from ty);exact⟨typeIs_str s z t,λ_ e=>nomatch e⟩
 |int i=>obtain⟨t,rfl⟩:=r;cases(show T="int" from ty);exact⟨typeIs_int s i t,λ_ e=>nomatch e⟩
 |ref p=>
  cases r;rcases ty with⟨rfl,w,q⟩|⟨rfl,o,d,u,h⟩|⟨rfl,d⟩|⟨rfl,S,n,d⟩
  ·obtain⟨m,_,k,_⟩:=I.list q;refine⟨k.isList.typeIs,λa e=>?_⟩;cases e;obtain⟨o,n,e,c,h,_⟩:=k;exact⟨o,e,h⟩
  ·refine⟨⟨o,I.jR p o d,u⟩,λa e=>?_⟩;cases e;exact⟨o,I.jR _ o d,h⟩
  ·have z:∃o,s.heap.get? p=some o/\o.ExactDict:=by
    rcases d with⟨g,d⟩|⟨g,d⟩
    ·obtain⟨_,_,_,_,o,_,_,e,ex,_⟩:=I.hok p _ d;exact⟨o,e,ex⟩
    ·obtain⟨_,_,_,_,o,_,_,e,ex,_⟩:=I.hok p _ d;exact⟨o,e,ex⟩
   obtain⟨o,e,ex⟩:=z;refine⟨⟨o,e,ex.1⟩,λa j=>?_⟩;cases j;exact⟨o,e,ex.2.1⟩
  ·obtain⟨o,_,_,_,e,ex,_⟩:=I.hok p _ d;refine⟨⟨o,e,ex.1⟩,λa j=>?_⟩;cases j;exact⟨o,e,ex.2.1⟩
 |_=>exact False.elim ty
def Ob(K:fZ)(T:String)(r:V->fL V->Hp->VK->Prop)(f:TE):TE:=λd H Q=>f d H λx c=>xk K T x c/\r x [] c Q
def Oa(K:fZ)(T:String)(r:V->fL V->Hp->VK->Prop)(g:TE)(t:TA):TE:=λc H Q=>g c H λx d=>xk K T x d/\t c d λf h=>r x f h Q
variable{o:f6}{es:iL}{Y:TE}{t:TA}{M:fR}{U L:Pos}{T O:String}{r:V->fL V->Hp->VK->Prop}
def Jg(q:PlainAttrs T)(g:Slot T M O)(i:typeOf (.builtin O)=pure (.type "method_descriptor"))(w:xI X O r)(u:PE X o Y)
    (f:attributeBase o M X.env (eval o X.env)=eval o X.env)(d:(U.endLine==L.line)=true):PE X (.Call (.Attribute o M U) [] [] L) (Ob X.K T r Y):=by
 intro c s k H Q I h;refine wpAny_Call_method0_late f d (gi (u c s k H _ I h) λv n j=>?_);obtain⟨x,A,m,l,ty,p⟩:=j;obtain⟨z,y⟩:=Bv m l ty;exact⟨T,O,q,g,i,z,y,Calls.callWith_builtin rfl<|PySem.evalArgs_none<|w c n k A x [] v [] Q m l .nil p⟩
def wx(D:PlainAttrs T)(i:Slot T M O)(l:typeOf (.builtin O)=pure (.type "method_descriptor"))(G:xI X O r)(F:PE X o Y)(K:PA X (e::es) t)
    (g:autoParam (attributeBase o M X.env (eval o X.env)=eval o X.env) aZ0)
    (j:autoParam (((backTo L (starEach (e::es) X.env)).all (λx=>!x.1)&&(backToKw L (keywordEach [] X.env)).all (λx=>x.1.isSome)
      &&decide ((e::es).length+([]:fL Keyword).length+(if([]:fL Keyword).isEmpty then 0 else 1)<30))=true) aZ0)
    (f:autoParam ((U.endLine==L.line)=true) aZ0)(E:autoParam (X.se e es) aZ0)(d:autoParam ((backTo L<|starEach es X.env).any (·.1)=false) aZ0):
    PE X (.Call (.Attribute o M U) (e::es) [] L) (Oa X.K T r Y t):=by
 intro c s k H Q I h;refine wpAny_Call_method_late g j f rfl (gi (F c s k H _ I h) λv z m=>?_);obtain⟨x,W,q,n,ty,C⟩:=m;obtain⟨P,N⟩:=Bv q n ty;refine⟨T,O,D,i,l,P,N,?_⟩;have p:=K L c z k W _ q C;rw[E]at p⊢;refine Calls.callWith_builtin (by show(false||(backTo L (starEach es X.env)).any (·.1))=false;rw[d]<;>rfl) (Calls.evalArgs_plain ?_);exact gi p λw y ⟨u,S,R,A,B⟩=>G c y k S x u v w Q R n A B
def uf(X:Cx)(O:String)(r:V->fL V->Hp->VK->Prop):Prop:=
 ∀(c:gp) (s:fS) (σ:St) (H:Hp) (x:V) (xs:fL V) (v:fN) (us:gq) (Q:VK),Inv X c σ H s->RelV x v->Vals xs us->r x xs H Q->
  wpAny (model X.prog X.w) X.A (call (.builtin O)<|v::us) (EP X c σ Q) X.xe s
def Vals.one:∀{x:V} {c:gq},Vals [x] c->∃u,c=[u]/\RelV x u
 |_,_,.cons r .nil=>⟨_,rfl,r⟩
def Vals.zero:∀{c:gq},Vals [] c->c=[]
 |_,.nil=>rfl
variable{m:gp}{C:St}{H:Hp}{s:fS}{l b:fO}{B ys zs:fL V}
def Inv.vY{c its':gq}{n:Nat}{f:fY fN->fY fN}{d:Nat}(I:Inv X m C H s)(j:H l=some (.lst B))
    (e:s.heap.get? l=some {cls:=.type "list",data:=.seq c.toArray n})(hf:f c.toArray=its'.toArray)(hv:Vals ys its')(g:ys.length<=sizeLine):
    Inv X m C (upd H l<|.lst ys) {s with heap:=s.heap.update l<|Obj.mapSeq f,toks:=d}:=by
 have q:=PySem.IsL.update e f;rw[hf]at q;refine I.write (x:=l) (e:=l) (by rw[j];exact trivial) (.inl rfl) (λk u i h=>(bE s.heap (Obj.mapSeq f)<|b7 i).trans h) ⟨_,q⟩ ?_;exact⟨g,its',_,hv,q⟩
def Inv.G8{c:gq}{t':Nat}(I:Inv X m C H s)(hv:Vals ys c)(d:ys.length<=sizeLine):
    Inv X m C (upd H s.heap.objs.size<|.lst ys) {s with heap:=s.heap.push {cls:=.type "list",data:=.seq c.toArray},toks:=t'}:=
 I.laid (λ_ _ q=>ag _ q) (af _) ⟨d,c,0,hv,aQ _ rfl⟩
def Inv.fresh(I:Inv X m C H s):H s.heap.objs.size=none:=I.hok.fresh (af _)
def Inv.vZ(I:Inv X m C H s)(d:H l=some (.lst B)):B.length<=sizeLine/\∃(c:gq) (n:Nat),Vals B c/\B.length=c.length/\s.heap.get? l=some {cls:=.type "list",data:=.seq c.toArray n}:=by obtain⟨z,c,n,r,e⟩:=I.hok l _ d;exact⟨z,c,n,r,r.length,e⟩
def HV{n:Nat}(h:n<=sizeLine):Builtin.List.listTooLong n=false:=by unfold Builtin.List.listTooLong;exact ax (by omega)
def MS:V->fL V->Hp->VK->Prop:=λx c H Q=>∃l B y,x=.ref l/\c=[y]/\H l=some (.lst B)/\B.length<sizeLine/\Q .non (upd H l<|.lst<|B++[y])
def wc:uf X "list.append" MS:=by intro m s C H x j v k Q I f g h;obtain⟨l,B,y,rfl,rfl,d,p,q⟩:=h;cases f;obtain⟨u,rfl,i⟩:=g.one;obtain⟨z,c,n,r,w,e⟩:=I.vZ d;refine call_meets dr ⟨_,e,rfl⟩ F.entry_list_append (F.args_list_append_2 _ _) (PySem.list_append l c.toArray n u (by rw[az];omega)) ⟨e,?_⟩;refine⟨.non,_,I.vY (its':=c++[u]) d e (by simp) (r.append<|.cons i .nil) ?_,rfl,q⟩;rw[aj,dB];omega
def MU:V->fL V->Hp->VK->Prop:=λx c H Q=>∃l B,x=.ref l/\c=[]/\H l=some (.lst B)/\Q .non (upd H l<|.lst [])
def HG:uf X "list.clear" MU:=by intro m s C H x j v k Q I g i h;obtain⟨l,B,rfl,rfl,f,q⟩:=h;cases g;have d:=i.zero;subst d;obtain⟨z,c,n,r,p,e⟩:=I.vZ f;refine call_meets F.slot_list_clear ⟨_,e,rfl⟩ F.entry_list_clear (F.args_list_clear_1 _) (AutoSeq1.list_clear_list_0 l c.toArray n (by rw[az];omega)) ⟨e,?_⟩;exact⟨.non,_,I.vY (its':=[]) (ys:=[]) f e rfl .nil<|bo _,rfl,q⟩
end L2
namespace xu
open PySem PySem.W PySem.Calls PyProof.Rows
abbrev _root_.jw:=fL Int
def Gh{P:Params}{h:gc}:∀(c:jw) (d:gq),WellAll P h d (c.map WData.int)->IntsAre d c:=by
 intro c;induction c with
 |nil=>intro d w;rw[b9]at w;cases w;exact .nil
 |cons n c e=>
  intro d w;rw[ay]at w;cases w with
  |cons a b=>cases a;exact .cons _ _ (e _ b)
def Ny{l:OpenLaw}{n:Nat}(w:l.most=some n){P:Params}{h:gc}{args:fL WData}{c:gq}
    (e:l.row.toRowW.claim.pre args=true)(k:WellAll P h c args):
    ∃a o b,c=[Value.ref a]/\args=[WData.list<|b.map WData.int]/\h.get? a=some {cls:=.type "list",data:=.seq o.toArray}/\IntsAre o b/\b.length<=n:=by
 have m:WShape.hasAll [] args [.list .int]=true:=(pre_splitW e).1;have p:l.pre.holds [] {args:=args}=true:=(pre_splitW e).2;obtain⟨d,r,rfl,z,y⟩:=hasAllW_cons m;obtain rfl:=hasAllW_nil y;obtain⟨A,rfl,x⟩:=hasW_list z;obtain⟨b,rfl⟩:=items_int x;have f:b.length<=n:=by
  unfold OpenLaw.pre at p;have j:(WTm.not<|.lt (.lit<|.int (n:Int))<|.len<|.arg 0).holds [] {args:=[.list<|b.map .int]}=true:=by have j:=(holds_andW p).1;rw[w]at j;exact j
  have i:=condW_of j (w_not<|w_lt w_lit<|w_len_list<|w_arg rfl);rw[ar]at i;refine Nat.le_of_not_lt λq=>?_;have u:(n:Int)<((b.length:Nat):Int):=by omega
  first
   |(rw[aE u]at i;exact absurd i (by decide))
   |(simp at i;omega)
 cases k with
 |cons t s=>
  cases s;cases t with
  |list v g=>exact⟨_,_,b,rfl,rfl,v,Gh b _ g,f⟩
def JO(l:OpenLaw)(args:fL WData):l.row.toRowW.claim.post args (.bool true) args=true:=
 postW_of (r:=l.row.toRowW) (X:=(true==true))
  (show WShape.has [] (.bool true) .bool=true by first|rfl|decide|simp[WShape.has,WShape.arms,WShape.armsAll])
  (show(WTm.eq .res<|.lit<|.bool true).value [] {args:=args,res:=some<|.bool true,after:=args}=some (.bool<|true==true)from w_eq_bool (w_res rfl) w_lit) rfl
def CH{l:OpenLaw}{n:Nat}{q:gy}{e:gu}{XP:(g5)->gc->Prop}{I:gs->gc->Prop}{d:DefRec}
    (M:l.most=some n)(B:d.params.defaults=[])
    (call:∀(w:gs) (c b:fS) (u y:g5) (p:fO) (o:iC) (x v h:fN) (a:fO) (i:gq) (t:jw),
      Ground q e [] XP w c u y b.heap->I w b.heap->
      b.heap.get? p=some o->o.data=.func (docDef d.name d.params d.body d.scope x v h)->b.heap.CodeRec v d.name->u d.name=some (.ref p)->
      b.heap.get? a=some {cls:=.type "list",data:=.seq i.toArray}->IntsAre i t->t.length<=n->b.gens=#[]->
      codeAny (model l.prog w) callerA (.call (.ref p) ⟨[.ref a],[]⟩) (λr s=>r=.ok (.ret (.bool true))/\OldK b.heap s.heap/\s.os=b.os/\AllBare s.gens) b):
    WalkO q e XP I l.row.toRowW d [] (λf i=>PySem.call f i):=by
 intro w c b u y G Y p o x v h dV kV L Q C F A P H D U j E J z O;obtain rfl:dV=.none:=Dflts.none F B;obtain rfl:kV=.none:=Dflts.noKw F;obtain⟨a,i,t,rfl,rfl,k,g,m⟩:=Ny M j z;refine enter_call (eX (call w c b u y p o x v h a i t G Y L (fd_plain Q) C A k g m P) λr s K=>?_);obtain⟨rfl,T,S,R⟩:=K;exact⟨.inl ⟨.bool true,.bool true,[],rfl,λ_=>rfl,.bool true,JO l _,λ_=>⟨List.Pairwise.nil,λ_ N=>(nomatch N)⟩⟩,T,S,R⟩
end xu
namespace L2
open PySem PySem.Spec PyProof.Rows
theorem Bz:∀{a:gq} {b:jw},IntsAre a b->Vals (b.map V.int) a
 |_,_,.nil=>.nil
 |_,_,.cons n t h=>.cons ⟨t,rfl⟩ (Bz h)
def lR(s:Stmt):Arguments:=match s with
 |.FunctionDef _ a _ _ _ _ _ _ _ _=>a
 |_=>{posonlyargs:=[],args:=[],vararg:=none,kwonlyargs:=[],kw_defaults:=[],kwarg:=none,defaults:=[]}
def jD(s:Stmt):fL Stmt:=match s with
 |.FunctionDef _ _ b _ _ _ _ _ _ _=>b
 |_=>[]
def gG(s:Stmt):Scope:=match s with
 |.FunctionDef _ _ _ _ _ _ sc _ _ _=>sc
 |_=>{kind:=.function,names:=[],isGenerator:=false,isCoroutine:=false}
abbrev E0:XK:=λ_ _ _=>False
structure jZ(K:fZ)(x qual:fR)(st:Stmt)(f:fO)(fd:jm):Prop where
 ex:∃(oc:fN) (od:iV) (kV doc pm:fN) (an:iV) (cdv ct:fN) (osl:nE),
  fd=W.fnOf x qual (lR st) (jD st) (gG st) .none kV doc pm an cdv ct/\K.lookup f=some ⟨oc,od,.func fd,osl⟩/\W.codeIn K cdv qual=true
 kp:W.keepIn K (.ref f)=true
variable{P:gy}{w:gs}{K:fZ}{j:g5}{i:gc}
def jZ.binds{x a:fR}{d:Stmt}{f:fO}{m:jm}{g:gu}(F:jZ K x a d f m)
    (h:∀(kV b k:fN) (l:iV) (c ct:fN) (e:gq),e.length=g.length->bindArgs (W.fnOf x a (lR d) (jD d) (gG d) .none kV b k l c ct) ⟨e,[]⟩=pure (g.zip e)):Binds K m g []:=by
 obtain⟨q,p,kV,b,k,l,c,ct,n,rfl,r,o⟩:=F.ex;exact .all (h kV b k l c ct)
def y3{x a:fR}{st:Stmt}{f:fO}{n:fN}{m h:iV}{e:nE}{kV d g b ct:fN}(l:K.lookup f=some ⟨n,m,.func<|W.fnOf x a (lR st) (jD st) (gG st) .none kV d g h b ct,e⟩)
    (c:W.codeIn K b a=true)(k:W.keepIn K (.ref f)=true):jZ K x a st f (W.fnOf x a (lR st) (jD st) (gG st) .none kV d g h b ct):=⟨⟨n,m,kV,d,g,h,b,ct,e,rfl,l,c⟩,k⟩
def qv{A B:Prop}(h:B):if false=true then A else B:=by rw[ah aN];exact h
def qw{A B:Prop}(h:A):if true=true then A else B:=by rw[ae rfl];exact h
def gF(H a:Hp):Prop:=∀b o,H b=some o->a b=some o
end L2
namespace Fx
open PySem
def yB(o:iC)(f):(o.mapFields f).dict=o.dict:=by rcases o with⟨c,d,dt,a⟩;cases dt<;>rfl
def Dk(p:Prop)(h:gc)(e:fO)(d:iV):Prop:=(∀c,d=some c->∃a,h.get? e=some a/\a.dict=some c)/\∃a b,h.get? e=some a/\a.data=.fields b/\(p->b[2]?=some .none)
def kC(p:Prop)(B:gc)(l:iK)(e:fO)(a:fN)(d:iV)(h:gc):Prop:=
 (∃b,Heap.FlyingW B l e a b h)/\Dk p h e d
def q4(p:Prop)(B:gc)(l:iK)(e:fO)(a:fN)(d:iV)(L:fO)(h:gc):Prop:=
 (∃b,Heap.HeldW B l e a b L h)/\Dk p h e d
def yC{p d}{f:fY fN->fY fN}{o}(n:h.get? b=some o)(m:o.data=.fields vs)(hf:∀i:fY fN,(f i)[2]?=i[2]?)(k:Dk p h e d):
    Dk p (h.update b<|Obj.mapFields f) e d:=by
 by_cases q:b=e
 ·subst q;have g:=cS (Obj.mapFields f) n (dD<|cL m f);refine⟨λr l=>?_,?_⟩
  ·obtain⟨j,a,c⟩:=k.1 r l;rw[n]at a;cases a;exact⟨_,g,by rw[yB];exact c⟩
  ·obtain⟨j,i,a,c,s⟩:=k.2;rw[n]at a;cases a;rw[m]at c;cases c;exact⟨_,_,g,cL m f,by rw[hf];exact s⟩
 ·have g:(h.update b<|Obj.mapFields f).get? e=h.get? e:=bE _ _ q;refine⟨λr l=>?_,?_⟩
  ·obtain⟨j,a,c⟩:=k.1 r l;simp_all
  ·obtain⟨j,i,a,c,s⟩:=k.2;simp_all
def A7(x)(a:lL):(a.setIfInBounds 3 x)[2]?=a[2]?:=bP (by decide)
variable{p:Prop}{M:Model}{A:gz}{E:gE}{s:fS}{B:gc}{i:Env}{outer l:iK}{L e:fO}{cls:fN}{d:iV}{Q:oy}
def yJ{more}(C:A.frames=some (i::outer))(y:s.heap.FunFrames B<|i::outer)(hf:i.frame=some L)
 (v:s.heap.get? e=some oe)(P:B.StaysIn s.heap)(N:B.get? e=none)(w:oe.data=.fields vs)(J:1<vs.size)(V:vs[0]?=some a0)(dk:Dk p s.heap e d)
 (U:∀F,q4 p B (i::outer) e oe.cls d L F->s.heap.UpToSlots F->Q () {s with heap:=F}):
   wpAny M A (do
    let fr<-frameOf i
    let at_<-entryPlaceOf L more
    let O<-EntryCells.newEntry head fr .none (rawInt L) .none at_
    setField (.ref e) 1 O) Q E s:=by
  have ne:e∉(i::outer).filterMap (·.frame):=λz=>by obtain⟨_,Y,h,m⟩:=y.mem z;rw[v]at h;cases h;exact m vs w
  refine aa (wpAny_frameOf_fun C y hf λc x=>?_);refine aa (wpAny_entryPlaceOf λa ok=>?_);unfold EntryCells.newEntry newFields;refine aa (bX ?_ (ok.sizeOk5 _ _ _ _ _));have u:c.get? e=some oe:=by rw[x.2.1 e ne];exact v
  have n:B.StaysIn c:=λb o q=>by rw[x.2.1 b λz=>by rw[(y.mem z).1]at q;cases q];exact P b o q
  generalize K:({cls:=.type "traceback",dict:=none,data:=.fields ([head,.ref L,.none,rawInt L,.none]++(if a.isEmpty then List.replicate 6 Value.none else a)).toArray}:iC)=qP;have t:(c.push qP).get? e=some oe:=ag _ u;refine fB t w J (U _ ?_ ?_)
  all_goals
   have I:c.objs.size≠e:=dq (Heap.lt_size u);have keep:∀b o,b≠e->c.get? b=some o->((c.push qP).update e (Obj.mapFields (·.setIfInBounds 1 (Value.ref c.objs.size)))).get? b=some o:=λb o S f=>by rw[bE _ _<|b7 S];exact ag _ f
   have g:∀b o,s.heap.get? b=some o->(∀G,o.data≠.fields G)->b≠e:=λb o f r z=>by subst z;rw[v]at f;cases f;exact r vs w
  ·have k:=cL w (·.setIfInBounds 1 (Value.ref c.objs.size));have j:=cS (Obj.mapFields (·.setIfInBounds 1 (Value.ref c.objs.size))) t (dD k);have D:((c.push qP).update e (Obj.mapFields (·.setIfInBounds 1 (Value.ref c.objs.size)))).get? c.objs.size=some qP:=by
    rw[bE _ _<|b7 I];exact aQ c (by rw[<-K];rfl)
   refine⟨⟨a0,λb o q=>keep b o (λz=>by rw[z,N]at q;cases q)<|n b o q,N,y.of_keeps λb o f r=>?_,?_⟩,λX T=>?_,?_⟩
   ·obtain⟨H,z⟩:=x.2.2 b o f;exact⟨_,keep b _ (g b o f r) z,rfl⟩
   ·refine⟨_,_,c.objs.size,qP,_,j,⟨Obj.cls_mapFields _ _,?_⟩,k,by simp[J],n.fresh,I,D,by rw[<-K],?_⟩;·rw[bP<|by decide];exact V
    ·rcases ok with z|⟨_,_,_,_,_,_,_,z⟩<;>(rw[z];simp)
   ·obtain⟨R,h,m⟩:=dk.1 X T;rw[v]at h;cases h;exact⟨_,j,by rw[yB];exact m⟩
   ·obtain⟨R,G,h,m,W⟩:=dk.2;rw[v]at h;cases h;rw[w]at m;cases m;exact⟨_,_,j,k,by rw[bP (by decide)];exact W⟩
  ·intro b o f r;obtain⟨H,z⟩:=x.2.2 b o f;exact⟨H,keep b _ (g b o f r) z⟩
def EB(k:A.frames=some (i::outer))(hf:i.frame=some L)(x:kC p B (i::outer) e cls d s.heap)
 (y:∀h,q4 p B (i::outer) e cls d L h->s.heap.UpToSlots h->Q () {s with heap:=h}):wpAny M A (noteFrame (.ref e) i) Q E s:=by
  obtain⟨⟨P,u,G,F,N,J,T,O,K,m,⟨w,D⟩,n,h,H,I,hT,f,r⟩,dk⟩:=x;subst w;unfold noteFrame;simp only[hf];refine aa (di m n h ?_);rw[ae<|by simp];refine aa (di hT f r ?_);rw[ah<|by simp[rawInt]];refine aa (fB hT f (bL.mp r).1 ?_);have a:∀b,b≠T->(s.heap.update T (Obj.mapFields (·.setIfInBounds 3 Value.none))).get? b=s.heap.get? b:=λb z=>bE _ _ (b7 z);have c:∀b o,s.heap.get? b=some o->(∀t,o.data≠.fields t)->b≠T:=λb o g j z=>by simp_all
  refine yJ (s:={s with heap:=s.heap.update T (Obj.mapFields (·.setIfInBounds 3 Value.none))}) k (F.of_keeps λb o g j=>⟨o,by rw[a b<|c b o g j];exact g,rfl⟩) hf
   (by rw[a e<|b7 I];exact m) (λb o q=>by rw[a b λz=>by rw[z,H]at q;cases q];exact u b o q) G n (bL.mp h).1 D (yC hT f (A7 _) dk) λC v up=>?_
  exact y C v λb o g j=>up b o (by rw[a b<|c b o g j];exact g) j
def M8(b:A.frames=some (i::outer))(k:s.heap.FunFrames B<|i::outer)(hf:i.frame=some L)(c:s.heap.get? e=some oe)(g:B.StaysIn s.heap)
 (m:B.get? e=none)(f:oe.data=.fields vs)(a:vs[1]?=some .none)(j:vs[0]?=some a0)(dk:Dk p s.heap e d)
 (h:∀a,q4 p B (i::outer) e oe.cls d L a->s.heap.UpToSlots a->Q () {s with heap:=a}):wpAny M A (noteFrame (.ref e) i) Q E s:=by unfold noteFrame;simp only[hf];refine aa (di c f a ?_);exact yJ b k hf c g m f (bL.mp a).1 j dk h
def G0(C:B.StaysIn s.heap)(J:B.get? e=none)(I:s.heap.FunFrames B l)(y:s.heap.TracedAtW B e cls a0 fl)(dk:Dk p s.heap e d)
 (G:∀j,kC p B l e cls d j->s.heap.UpToSlots j->Q () {s with heap:=j}):wpAny M A (setFlight (.ref e) none) Q E s:=by
  obtain⟨D,w,T,K,x,n,F,r,j,t,u,hT,c,H⟩:=y;have m:3<x.size:=(bL.mp H).1;unfold setFlight;refine aa (di n r j ?_);refine fB hT c m (G _ ⟨⟨a0,?_⟩,yC hT c (A7 _) dk⟩ ?_)
  all_goals
   have a:∀b,b≠T->(s.heap.update T (Obj.mapFields (·.setIfInBounds 3 ((none:iV).elim Value.none λf=>rawInt f)))).get? b=s.heap.get? b:=λb z=>bE _ _ (b7 z);have g:∀b o,s.heap.get? b=some o->(∀v,o.data≠.fields v)->b≠T:=λb o h k z=>by simp_all
  ·refine⟨λb o q=>by rw[a b λz=>by rw[z,t]at q;cases q];exact C b o q,J,I.of_keeps λb o h k=>⟨o,by rw[a b<|g b o h k];exact h,rfl⟩,?_⟩;exact⟨D,w,T,_,_,by rw[a e<|b7 u];exact n,F,r,j,t,u,cS _ hT<|dD<|cL c _,cL c _,by simp[m]⟩
  ·exact λb o h k=>⟨o.slots,by rw[a b<|g b o h k];exact h⟩
def zg(x:q4 p B l e cls d L s.heap)(f:∀a,kC p B l e cls d a->s.heap.UpToSlots a->Q () {s with heap:=a}):wpAny M A (setFlight (.ref e) none) Q E s:=by obtain⟨⟨j,c,h,g,b⟩,dk⟩:=x;exact G0 c h g b dk f
def kC.less(x:kC p B (i::outer) e cls d s.heap):kC p B outer e cls d s.heap:=by obtain⟨⟨g,b,f,⟨_,_,c⟩,a⟩,dk⟩:=x;exact⟨⟨g,b,f,c,a⟩,dk⟩
def EA(b:A.frames=some (i::outer))(hf:i.frame=some L)(x:kC p B (i::outer) e cls d s.heap)
 (k:∀a,kC p B outer e cls d a->s.heap.UpToSlots a->Q () {s with heap:=a}):wpAny M A (leaving i<|.ref e) Q E s:=by unfold leaving;exact aa (EB b hf x λa g j=>zg (s:={s with heap:=a}) g λc f h=>k c (kC.less (s:={s with heap:=c}) f)<|j.trans h)
def M7(b:A.frames=some (i::outer))(t:s.heap.FunFrames B<|i::outer)(hf:i.frame=some L)(m:s.heap.get? e=some oe)(k:B.StaysIn s.heap)
 (u:B.get? e=none)(n:oe.data=.fields vs)(a:vs[1]?=some .none)(r:vs[0]?=some a0)(dk:Dk p s.heap e d)
 (o:∀a,kC p B outer e oe.cls d a->s.heap.UpToSlots a->Q () {s with heap:=a}):wpAny M A (leaving i<|.ref e) Q E s:=by unfold leaving;exact aa (M8 b t hf m k u n a r dk λq g j=>zg (s:={s with heap:=q}) g λc f h=>o c (kC.less (s:={s with heap:=c}) f)<|j.trans h)
end Fx
set_option maxHeartbeats 4000000
namespace L2
open PySem PySem.Spec PyProof.Rows Fx
def Fg(d:iV)(H:Hp):Prop:=∀a,d=some a->∃f v,H a=some (.xd [(f,v)])
def gJ(P:gy)(w:gs):ky:=λa H s E e b=>
 ∃(f:fO) (cls:fN) (d:iV) (H1:Hp) (B:gc),e=.ref f/\b.os=s.os/\AllBare b.gens/\kC (Fg d H1) B a f cls d b.heap/\
  (∀c:gc,B.StaysIn c->b.heap.UpToSlots c->Un (frs a) [] H H1 s.heap c/\hX P w H1 c)/\H1 f=none/\s.heap.get? f=none/\E cls d H1
structure xJ(X:Cx)(pins:gp)(e:fO):Prop where
 old:X.s₀.heap.get? e=none
 pin:∀p∈X.pn++pins,p.1≠e
 loc:e≠X.env.locals
 QA:∀x c,X.env.cells.lookup x=some c->c≠e
 frm:e∉X.fs
def XP(X:Cx)(a:gp)(g:St)(R:XK)(e:fN)(c:fS):Prop:=
 ∃(b:fO) (cls:fN) (d:iV) (H1:Hp) (B:gc),e=.ref b/\kC (Fg d H1) B X.stack b cls d c.heap/\
  (∀f:gc,B.StaysIn f->c.heap.UpToSlots f->Inv X a g H1 {c with heap:=f})/\H1 b=none/\xJ X a b/\R cls d H1
section
variable{X:Cx}{i:gp}{j:St}{H:Hp}{s s':fS}{e:fN}{E:XK}
def Inv.HL(I:Inv X i j H s)(n:s.heap.get? ea=none)(d:X.ex=[]):xJ X i ea:=by
 have z:∀b o,s.heap.get? b=some o->b≠ea:=λb o q w=>by rw[w,n]at q;cases q
 refine⟨?_,λp g=>z _ _ (I.pin p g).1,λw=>?_,λx c h=>?_,λk=>?_⟩
 ·cases q:X.s₀.heap.get? ea with
  |none=>rfl
  |some o=>obtain⟨l,f⟩:=I.base.there ea o q (by rw[d];simp);rw[n]at f;cases f
 ·obtain⟨m,⟨o,_,_,a,_⟩,_⟩:=I.loc;exact z _ _ a w.symm
 ·obtain⟨v,o,a,_⟩:=I.cell x c h;exact z _ _ a
 ·obtain⟨_,o,a,_⟩:=I.kW.mem k;exact z _ _ a rfl
def Pq(I:Inv X i j H s)(h:gJ X.prog X.w X.stack H s E e s')(f:X.ex=[]):XP X i j E e s':=by obtain⟨q,g,d,t,B,rfl,m,a,o,cl,p,fr,n⟩:=h;refine⟨q,g,d,t,B,rfl,o,λk r l=>?_,p,I.HL fr f,n⟩;obtain⟨un,c⟩:=cl k r l;exact I.yc (s':={s' with heap:=k}) (ch:=[]) m un c a λb z=>absurd z (by simp)
end
def iy.there{w o}(x:iy P w H h a o):∃ob,h.get? a=some ob:=by
 cases o with
 |lst b=>obtain⟨_,_,_,_,q⟩:=x;exact⟨_,q⟩
 |tup b=>obtain⟨_,_,_,ob,q,_⟩:=x;exact⟨_,q⟩
 |set S n=>obtain⟨ob,_,_,_,q,_⟩:=x;exact⟨_,q⟩
 |ins C g fs=>obtain⟨_,_,_,q,_⟩:=x;exact⟨_,q⟩
 |own y=>exact x
 |xd fs=>obtain⟨_,⟨_,_,_,q,_⟩,_⟩:=x;exact⟨_,q⟩
 |ts lo e=>obtain⟨_,_,_,q⟩:=x;exact⟨_,q⟩
 |j4 ob u=>obtain⟨q,_⟩:=x;exact⟨_,q⟩
 |iu d=>exact⟨_,(show h.get? a=some _ from x)⟩
 |met f y=>exact⟨_,(show h.get? a=some _ from x)⟩
 |ext c=>obtain⟨_,q,_⟩:=x;exact q
 |_=>obtain⟨_,_,_,_,ob,_,_,q,_⟩:=x;exact⟨_,q⟩
def hX.no{w}(x:hX P w H h)(n:h.get? a=none):H a=none:=by
 cases q:H a with
 |none=>rfl
 |some o=>obtain⟨ob,z⟩:=(x a o q).there;rw[n]at z;cases z
section
variable{P:gy}{w:gs}{K:fZ}{v:g5}{j:gc}{N:gu}{i:fR}{c:Scope}{f:fO}{m:fN}{A:gz}{outer:iK}{s:fS}{H:Hp}{E:XK}
def sW:Passes (gJ P w) (gW (gJ P w) P w K v j N i c f m A outer s H E) E:=λp D O F e o I h=>by obtain⟨r,l,d,C,B,rfl,q,cl,z,x,y⟩:=Pq I h rfl;have J:=λb g a=>cl b g a;obtain⟨M,u,_⟩:=q.1;have t:=J o.heap u (Heap.UpToSlots.refl _);show wpAny _ _ (leaving _<|.ref r) _ _ o;refine EA (outer:=outer) (L:=s.heap.objs.size) I.ok.frames rfl q λG k n=>?_;exact⟨r,l,d,C,B,rfl,t.os,t.bare,k,λb g a=>⟨(J b g<|n.trans a).base,(J b g<|n.trans a).hok⟩,z,x.old,y⟩
def M9{d}
 (I:Inv (gW (gJ P w) P w K v j N i c f m A outer s H E) pins σ H2 s2)(R:s2.heap.get? e=some l)(fr:s.heap.get? e=none)(S:l.data=.fields vs)(h1:vs[1]?=some .none)(h0:vs[0]?=some a0)
 (dk:∀U,d=some U->∃l,s2.heap.get? e=some l/\l.dict=some U)(cn:Fg d H2->vs[2]?=some .none)(T:H2 e=none)(hE:E l.cls d H2):(gW (gJ P w) P w K v j N i c f m A outer s H E).xe (.ref e) s2:=by
  let X:=gW (gJ P w) P w K v j N i c f m A outer s H E
  let B:=W.hideAll s2.heap (e::frs X.stack)
  have Z:B.StaysIn s2.heap:=λb o q=>W.of_hideAll _ q;have fe:B.get? e=none:=W.hideAll_none _ (List.Mem.head _);have ff:s2.heap.FunFrames B X.stack:=W.funFrames_hide I.stack λJ hm b g=>List.Mem.tail _ (dh.mpr ⟨J,hm,g⟩);show wpAny _ _ (leaving _ (.ref e)) _ _ s2;refine M7 (B:=B) (outer:=outer) (L:=s.heap.objs.size) I.ok.frames ff rfl R Z fe S h1 h0 ⟨dk,l,vs,R,S,cn⟩ λh3 G Y=>?_;refine⟨e,l.cls,d,H2,B,rfl,I.os,I.bare,G,λF b5 V=>?_,T,fr,hE⟩;have up:s2.heap.UpToSlots F:=Y.trans V;have keep:∀b o,s2.heap.get? b=some o->b≠e->b∉frs X.stack->F.get? b=some o:=λb o q y x=>b5 b o (W.hideAll_get _ q λz=>by
   rcases aH.mp z with z|z;· exact y z
   · exact x z)
  have h:∀b o,H2 b=some o->b≠e/\b∉frs X.stack:=λb o q=>⟨λz=>(by subst z;rw[T]at q;cases q),λz=>(by rw[I.xb b z]at q;cases q)⟩;have t:∀b o,s.heap.get? b=some o->b∉frs outer->b≠e/\b∉frs X.stack:=λb o q n=>⟨λz=>(by subst z;rw[fr]at q;cases q),λz=>(aH.mp (I.tA b z)).elim (λz=>absurd (Heap.lt_size q) (by rw[z];exact bA _)) (λz=>n z)⟩;have k:∀b o,s2.heap.get? b=some o->b∈frs outer->∃O,F.get? b=some {o with slots:=O}:=λb o q g=>by obtain⟨_,o2,p,nf⟩:=I.kW.mem g;rw[q]at p;cases p;exact up b o q nf
  refine⟨⟨λb o q n g _=>?_,λb o q n g _=>?_,λb o q n D=>I.base.free b o q n D,λb o q D=>?_,I.base.tups,I.base.mj,I.base.nh⟩,λa o M=>?_⟩
  ·obtain⟨y,x⟩:=t b o q g;exact keep b o (I.base.keep b o q n g (by intro z;exact absurd (show b∈([]:fL fO)from z) (by simp))) y x
  ·obtain⟨O,C⟩:=I.base.slot b o q n g (by intro z;exact absurd (show b∈([]:fL fO)from z) (by simp));obtain⟨r,p⟩:=k b _ C g;exact⟨r,p⟩
  ·obtain⟨Q,C⟩:=I.base.there b o q D;by_cases g:b∈frs outer
   ·obtain⟨r,p⟩:=k b _ C g;exact⟨_,p⟩
   ·obtain⟨y,x⟩:=t b o q g;exact⟨Q,keep b Q C y x⟩
  ·refine(I.hok a o M).ng (λb u g q=>?_) (λ_ q=>q) λ_ _ q=>q;rcases g with rfl|g;·exact keep b u q (h b _ M).1 (h b _ M).2
   ·exact keep b u q (h b _ g).1 (h b _ g).2
def Et{K}(X:K.In h)(q:W.excIn K C qj newId=true):
    ∃u N z y bs g x sub F d D t r p o k G,h.get? C=some (excClassObj z y C N bs u g x sub F d D t r p o k newId)/\h.Ns N G/\G "__init__"=none/\OwnTail h qj u:=by
 unfold W.excIn at q;split at q
 next D m sl ho=>
  split at q
  next C' u t r p o n k hm hs=>
   simp only[aK,eY,ey]at q;obtain⟨⟨⟨⟨⟨rfl,rfl⟩,a⟩,I⟩,b⟩,e⟩:=q;rcases m with⟨z,bs,L,J,y,B,x,sub,F,d,O⟩;dsimp only at hm a b e;subst hm a;have M:sl=#[t,r,p,o,some (.builtin n),k]:=by rcases sl with⟨l⟩;simp only at hs;rw[hs]
   subst M;exact⟨u,J,z,y,bs,B,x,sub,F,d,D,t,r,p,o,k,_,X _ _ ho,.of_isNs<|W.isNs_of_in X b,W.nsMap_none_of_in X b e,W.tail_of_in X I⟩
  next=>cases q
 next=>cases q
def Ox(E:XK)(C:fO):TS:=λ_ _ H=>E (.ref C) none H
def JT(p:ExcBaseFacts B newId Gf qj)(q:W.excIn K C qj newId=true)
 (F:Gl (gW (gJ P w) P w K v j N i c f m A outer s H E) x)(u:v x=some (.ref C))(d:i8 x):
   PS (gW (gJ P w) P w K v j N i c f m A outer s H E) (.Raise (some<|.Call (.Name x np) [] [] jx) none pos) (Ox E C):=by
  intro a g r R D I h;obtain⟨bm,NS,V,T,bs,l,S,sub,ab,O,dd,k0,k1,Z,Y,X,mN,L,J,b,n⟩:=Et I.jR q;refine wpAny_Raise_call_subT (bm:=bm) p (mN:=mN) (n.hasType p.hasBase) (I.ok.hd rfl) rfl b (zP I F u ⟨rfl,evalArgs_empty ⟨rfl,bo _,L,J,n,λM e mk=>?_⟩⟩ d);obtain⟨t,G,_,_⟩:=mk.there;have Q:Inv (gW (gJ P w) P w K v j N i c f m A outer s H E) a r R {g with heap:=M}:=I.kept (t':=g.toks) mk.keeps;refine M9 Q G ?_ rfl rfl rfl (by intro dx z;cases z) (λ_=>rfl) (I.hok.no mk.new) h;cases z:s.heap.get? e with
  |none=>rfl
  |some o=>obtain⟨U,k⟩:=I.base.there e o z (by intro y;exact absurd (show e∈([]:fL fO)from y) (by simp));rw[mk.new]at k;cases k
end
section
variable{P:gy}{w:gs}{K:fZ}{l:g5}{c:gc}
def jZ.Ai{x a g f n N i k h}(F:jZ K x a g f n)(S:lF N i<|gG g)(len:∀d H Q E,h d H Q E->d.length=i.length)
 (e:∀b (A:gz) outer (s:fS) H d Q E,g8 k (A.deeper (envOfC a (gG g) s.heap.objs.size f b))->h d H Q E->
 ∃t,kN (gW (gJ P w) P w K l c N a (gG g) f b A outer s H E) (jD g) t/\t {nx:=λ_ u=>Q .non u,rt:=Q} (start N d) H):jv P w K l c (gJ P w) (k+1) f n i h:=by obtain⟨z,y,kV,r,v,B,b,ct,o,rfl,p,m⟩:=F.ex;exact ve p m S len λA outer s H d Q E q j=>e b A outer s H d Q E q j
variable{X:Cx}
def B7(i j:Int):Prop:=Builtin.Int.intBits i<=1048576/\Builtin.Int.intBits j<=1048576
def ID:iz X (binaryOp .Mult) (rI B7 λi j=>.int<|i*j):=qG λ_ _ _ _ _ _ _ a q=>mul_int q (IntMulOk.of_le a.1 a.2<|by decide)
def xv(_ j:Int):Prop:=j≠0/\Builtin.Int.intBits j<=9000
def Hc(h:Builtin.Int.intBits j<=9000):j.natAbs.log2<9000:=by
 by_cases z:j.natAbs=0;·rw[z];decide+kernel
 ·exact(Nat.log2_lt z).mpr (intBits_le_iff.mp h)
def Ip:iz X (binaryOp .FloorDiv) (rI xv λi j=>.int<|i.fdiv j):=qG λ_ _ _ _ _ _ _ a q=>floordiv_int a.1 q (.inl<|eH<|Hc a.2)
end
def l8(P:gy)(w:gs)(K:fZ)(c:g5)(a:gc)(g:ky)(k:Nat)(x:fR)(b:gu)(e:Sp):Prop:=
 ∃f d,jv P w K c a g k f d b e/\Binds K d b []/\W.keepIn K (.ref f)=true/\c x=some (.ref f)
abbrev i6(P:gy)(w:gs)(K:fZ)(mg:g5)(base:gc):=l8 P w K mg base (gJ P w)
abbrev kb(P:gy)(w:gs)(K:fZ)(mg:g5)(base:gc):=jv P w K mg base (gJ P w)
def Jb{w}:Passes (gJ P w) X E0:=λ_ _ _ _ _ _ _ h=>by obtain⟨_,_,_,_,_,_,_,_,_,_,_,_,z⟩:=h;exact z.elim
variable{X:Cx}{Y:ky}{k:Nat}{M:gu}{O:Sp}{E:XK}{x:fR}{p T:Pos}{e:f6}{U:iL}{t:TA}
def wy(h:l8 X.prog X.w X.K X.mg X.base Y k x M O)(i:g8 k X.A)(j:Gl X x)(g:Passes Y X E)(n:PA X (e::U) t)(c:i8 x)
 (l:X.se e U)(a:X.bk T U):PE X (.Call (.Name x p) (e::U) [] T) (Bm O [] E t):=by obtain⟨f,o,F,b,d,m⟩:=h;exact Jh F i j m d b .nil g n c l a
end L2
namespace Fx
open PySem
variable{l:gy}{w:gs}{A:gz}{E:gE}{h:gc}{g:fY GenState}{d:Drawn}{t:Nat}{i:OsState}
variable{z q:fR}{C N:fO}{bs T v:gq}{m:f5}{x:gu}{sub:gq}{U:f5}{p:fU f5}{S:iV}{O L J I F:qb}{B j c:String}
abbrev mG(h:gc)(C:fO)(n:fR)(y:qb):Prop:=∀(M:Model) (A:gz) (E:gE) (g:fY GenState) (d:Drawn) (t:Nat) (i:OsState) (Q:fU fN->fS->Prop),
 Q y ⟨h,g,d,t,i⟩->wpAny M A (typeLookup (.ref C) n) Q E ⟨h,g,d,t,i⟩
end Fx
namespace L2
open PySem PySem.Spec PyProof.Rows Fx
def rV(e C:fO)(d:iV):HO:=.ext λh=>∃a c,h.get? e=some a/\a.cls=.ref C/\(∀b,d=some b->a.dict=some b)/\a.data=.fields c
variable{X:Cx}{c:gp}{i:St}{H:Hp}{s:fS}{e:fO}{o:HO}
def drop(H:Hp)(e:fO):Hp:=λb=>if b=e then none else H b
def xh{K:fZ}{n}(X:K.In h)(e:W.findIn K (.ref C) n=some y):mG h C n y:=λM A E g d t a Q b=>(W.looks_findIn (M:=M) X e).here (s:=⟨h,g,d,t,a⟩) b
end L2
namespace P2
open PySem L2
inductive D where
 |non|bl(b:Bool)|int(i:Int)|str(x:Str)|ty(n:String)|ref(a:Addr)
 |tup(ds:List D)|lst(ds:List D)|exc(c:Addr)(ns:List Str)(ds:List D)
inductive R(α:Type) where
 |ok(a:α)|ex(c:Addr)(ns:List Str)(ds:List D)|bad
abbrev gk:=fL D->R D
noncomputable def R.bind{d b:Type}:R d->(d->R b)->R b
 |.ok a,f=>f a
 |.ex c ns ds,_=>.ex c ns ds
 |.bad,_=>.bad
def ya{b a}{r:R b}{g}{y:a}(h:r.bind g=.ok y):∃x,r=.ok x/\g x=.ok y:=by
 cases r with
 |ok x=>exact⟨x,rfl,h⟩
 |_=>cases h
def KL(K:fZ)(a:fO)(c:fL V):Prop:=∃(b:gq) (n:Nat),K.lookup a=some {cls:=.type "list",data:=.seq b.toArray n}/\b.length<=sizeLine/\Vals c b
def KL.sq(h:KL K a vs):iF K H a vs:=let⟨b,n,e,d,c⟩:=h;.inr ⟨_,b.toArray,n,e,rfl,rfl,rfl,by simpa using d,by simpa using c⟩
def KT(K:fZ)(a:fO)(c:fL V):Prop:=∃(o:iC) (b:lL) (n:Nat),K.lookup a=some o/\o.cls=.type "tuple"/\o.data=.seq b n/\b.size<=sizeLine/\Vals c b.toList
def namesOf(K:fZ):fL fR:=match K.lookup mainGlobals with
 |some ⟨_,_,.dict a _,_⟩=>a.toList.filterMap λe=>match e.key with
  |.str x _=>some x
  |_=>none
 |_=>[]
noncomputable def JL(K:fZ)(x:fR):f5:=match W.nsIn K mainGlobals x with
 |some (some (.ref f))=>(match K.lookup f with
  |some ⟨_,_,.func a,_⟩=>(match a.defaults,a.kwdefaults with
   |.none,.none=>true
   |_,_=>false)
  |_=>false)
 |_=>false
noncomputable def ja(K:fZ):fL (fR×fO×fO):=(namesOf K).filterMap λx=>if JL K x then(W.tabIn K x).map λq=>(x,q.1,q.2)else none
def iX(c:fO)(q:fR):HO:=.ext λh=>h.CodeRec (.ref c) q
def iG(K:fZ)(H:Hp):Prop:=∀t∈ja K,∃a,H t.2.2=some (.iu a)/\TriplesOk a.toList/\∀b d,codeAmong b a.toList=some d->∃c,d=.ref c/\H c=some (iX c<|t.1++".<locals>.<lambda>")
def NT(o:HO):Prop:=∀a,o≠.iu a
def kq:NT (.lst l):=λ_ h=>nomatch h
def HW:NT (.tup l):=λ_ h=>nomatch h
def Ac{o u}:NT (.j4 o u):=λ_ h=>nomatch h
def sQ:NT (.xd l):=λ_ h=>nomatch h
def o8:NT (.ext φ):=λ_ h=>nomatch h
structure gF(K:fZ)(H H':Hp):Prop where
 at':∀b o,NT o->H b=some o->H' b=some o
 fr:∀b,H' b=none->H b=none
 tt:iG K H->iG K H'
def gF.refl{K}(H):gF K H H:=⟨λ_ _ _ h=>h,λ_ h=>h,λh=>h⟩
def gF.trans(a:gF K H H1)(b:gF K H1 H2):gF K H H2:=⟨λc o n h=>b.at' c o n<|a.at' c o n h,λc h=>a.fr c<|b.fr c h,λh=>b.tt<|a.tt h⟩
def gF.free(e:gF K H H')(h:H' l=Option.none):H l=Option.none:=e.fr l h
def iG.off{g}(t:iG K H)(i:∀a,H p≠some (.iu a))(j:∀q,H p≠some (iX p q))(e:∀b,b≠p->g b=H b):iG K g:=λx h=>by obtain⟨a,d,l,k⟩:=t x h;refine⟨a,by rw[e _ λw=>i a (by rw[<-w];exact d)];exact d,l,λc o n=>?_⟩;obtain⟨r,m,f⟩:=k c o n;exact⟨r,m,by rw[e _ λw=>j _ (by rw[<-w];exact f)];exact f⟩
def sH{H:Hp}(h:H p=some (.lst l)):(∀a,H p≠some (.iu a))/\∀q,H p≠some (iX p q):=
 ⟨λa w=>(by rw[h]at w;exact nomatch w),λq w=>(by rw[h]at w;unfold iX at w;exact nomatch w)⟩
def iG.upd{o}(t:iG K H)(g:∀a,H p≠some (.iu a))(h:∀q,H p≠some (iX p q)):iG K (upd H p o):=λx f=>by obtain⟨a,c,j,i⟩:=t x f;refine⟨a,by rw[gj λw=>g a (by rw[<-w];exact c)];exact c,j,λb l e=>?_⟩;obtain⟨m,k,d⟩:=i b l e;exact⟨m,k,by rw[gj λw=>h _ (by rw[<-w];exact d)];exact d⟩
mutual
inductive Rep(K:W.Frag)(al:Addr->Prop)(H:Hp):V->D->Prop
 |non:Rep K al H .non .non
 |bl (b:Bool):Rep K al H (.bl b) (.bl b)
 |int (i:Int):Rep K al H (.int i) (.int i)
 |str (x:Str):Rep K al H (.str x) (.str x)
 |ty (n:String):Rep K al H (.ty n) (.ty n)
 |ref (a:Addr):Rep K al H (.ref a) (.ref a)
 |tup {a:Addr} {vs:List V} {ds:List D}:(al a/\H a=some (.tup vs))\/KT K a vs->fX K al H vs ds->Rep K al H (.ref a) (.tup ds)
 |lst {a:Addr} {vs:List V} {ds:List D}:(al a/\Rd H a (.lst vs))\/KL K a vs->fX K al H vs ds->Rep K al H (.ref a) (.lst ds)
 |exc {a c dx:Addr} {ns:List Str} {vs:List V} {ds:List D}:al a->H a=some (rV a c<|some dx)->al dx->H dx=some (.xd<|ns.zip vs)->fX K al H vs ds->Rep K al H (.ref a) (.exc c ns ds)
 |yO {a c:Addr}:al a->H a=some (rV a c none)->Rep K al H (.ref a) (.exc c [] [])
inductive fX(K:W.Frag)(al:Addr->Prop)(H:Hp):List V->List D->Prop
 |nil:fX K al H [] []
 |cons {v:V} {d:D} {vs:List V} {ds:List D}:Rep K al H v d->fX K al H vs ds->fX K al H (v::vs) (d::ds)
end
abbrev _root_.gL:=fO->Prop
def Xt(al:gL)(H:Hp)(b:gL)(c:Hp):Prop:=∀a o,NT o->al a->H a=some o->b a/\c a=some o
def Xt.refl{al}:Xt al H al H:=λ_ _ _ h e=>⟨h,e⟩
def Xt.trans(x:Xt al H Cv H1)(y:Xt Cv H1 Cw H2):Xt al H Cw H2:=λa o n h e=>y a o n (x a o n h e).1 (x a o n h e).2
def Xt.of(s:gF K H H'):Xt al H al H':=λa o n h e=>⟨h,s.at' a o n e⟩
def Xt.sub{al b}(s:∀a,al a->b a):Xt al H b H:=λa o _ h e=>⟨s a h,e⟩
def Na{u}(h:Xt al H iD H')(n:NT u)(z:al a/\Rd H a u):iD a/\Rd H' a u:=by
 obtain⟨z1,z2|⟨o,z2⟩⟩:=z;·exact⟨(h a _ n z1 z2).1,.inl (h a _ n z1 z2).2⟩
 ·exact⟨(h a _ Ac z1 z2).1,.inr ⟨o,(h a _ Ac z1 z2).2⟩⟩
def Rep.mv(h:Xt al H iD H'){v d}(r:Rep K al H v d):Rep K iD H' v d:=
 Rep.rec (motive_1:=λv d _=>Rep K iD H' v d) (motive_2:=λv d _=>fX K iD H' v d) .non .bl .int .str .ty .ref (λp _ q=>.tup (p.elim (λz=>.inl<|h _ _ HW z.1 z.2) .inr) q) (λp _ q=>.lst (p.elim (λz=>.inl<|Na h kq z) .inr) q)
  (λb a e c _ q=>.exc (h _ _ o8 b a).1 (h _ _ o8 b a).2 (h _ _ sQ e c).1 (h _ _ sQ e c).2 q) (λb a=>.yO (h _ _ o8 b a).1 (h _ _ o8 b a).2) .nil (λ_ _ p q=>.cons p q) r
def fX.mv(h:Xt al H iD H'){v d}(r:fX K al H v d):fX K iD H' v d:=by
 induction d generalizing v with
 |nil=>cases r;exact .nil
 |cons d _ a=>
  cases r with
  |cons p q=>exact .cons (p.mv h) (a q)
section
abbrev _root_.gx:=fL D
variable{K:fZ}{al C:gL}{H l:Hp}{v:V}{d:D}{c m:fL V}{j B:gx}
def Rep.up(r:Rep K al H v d)(s:gF K H l):Rep K al l v d:=r.mv (.of s)
def fX.up(r:fX K al H c j)(s:gF K H l):fX K al l c j:=r.mv (.of s)
def fX.length(r:fX K al H c j):c.length=j.length:=by
 induction j generalizing c with
 |nil=>cases r;rfl
 |cons d j e=>cases r with|cons a b=>rw[aI,aI,e b]
def fX.append(r:fX K al H c j)(q:fX K al H m B):fX K al H (c++m) (j++B):=by
 induction j generalizing c with
 |nil=>cases r;exact q
 |cons d j e=>cases r with|cons a b=>exact .cons a (e b)
def fX.get(r:fX K al H c j){i:Nat}{x}(e:c[i]?=some x):∃y,j[i]?=some y/\Rep K al H x y:=by
 induction j generalizing c i with
 |nil=>cases r;simp at e
 |cons d j f=>
  cases r with
  |cons a b=>
   cases i with
   |zero=>simp at e;subst e;exact⟨_,rfl,a⟩
   |succ i=>simpa using f b (by simpa using e)
def fX.getD(r:fX K al H c j){i:Nat}(e:j[i]?=some y):∃x,c[i]?=some x/\Rep K al H x y:=by
 have f:=r.length;have a:i<c.length:=by rw[f];exact(au.mp e).1
 obtain⟨z,b,q⟩:=r.get (aL a);rw[e]at b;cases b;exact⟨_,aL a,q⟩
def fX.drop(r:fX K al H c j)(n):fX K al H (c.drop n) (j.drop n):=by
 induction n generalizing c j with
 |zero=>exact r
 |succ n e=>
  cases r with
  |nil=>exact .nil
  |cons a b=>exact e b
def fX.take(r:fX K al H c j)(n):fX K al H (c.take n) (j.take n):=by
 induction n generalizing c j with
 |zero=>exact .nil
 |succ n e=>
  cases r with
  |nil=>exact .nil
  |cons a b=>exact .cons a (e b)
def Rep.l5(r:Rep K al H v<|.tup j):∃a c,v=.ref a/\jC K H a c/\fX K al H c j:=by
 cases r with
 |tup p q=>exact⟨_,_,rfl,p.elim (λz=>.inl<|.inl z.2) .inr,q⟩
def Rep.lZ(r:Rep K al H v<|.lst j):∃a c,v=.ref a/\iF K H a c/\fX K al H c j:=by
 cases r with
 |lst p q=>exact⟨_,_,rfl,p.elim (λz=>.inl z.2) KL.sq,q⟩
def Rep.sG(r:Rep K al H v<|.lst j):∃a c,v=.ref a/\(Rd H a (.lst c)\/KL K a c)/\fX K al H c j:=by
 cases r with
 |lst p q=>exact⟨_,_,rfl,p.imp (λz=>z.2) id,q⟩
def jG{o}(h:H p=none):gF K H (upd H p o):=⟨λb u _ q=>by rw[gj (iW q h)];exact q,λb q=>by
    by_cases z:b=p;· rw[z];exact h
    · rw[gj z]at q;exact q,λt=>t.upd (λa w=>by rw[h]at w;cases w) λq w=>by rw[h]at w;cases w⟩
def fX.xi(r:fX K al H c j)(h:H p=none)(a:al p):Rep K al (upd H p<|.tup c) (.ref p) (.tup j):=.tup (.inl ⟨a,hD⟩) (r.up<|jG h)
def fX.mR(r:fX K al H c j)(h:H p=none)(a:al p):Rep K al (upd H p<|.lst c) (.ref p) (.lst j):=.lst (.inl ⟨a,.inl hD⟩) (r.up<|jG h)
end
inductive Sl where
 |no|sh(d:D)|ow(ds:List D)
abbrev fV(x:Int):Sl:=.sh (.int x)
abbrev gR(x:gx):Sl:=.sh (.lst x)
abbrev g0(x:fR):Sl:=.sh (.str x)
abbrev Ev:=fL Sl
abbrev gf:=Ev->R D
structure RS(K:fZ)(P:gL)(H0:Hp)(al:gL)(H:Hp)(σ:St)(ρ:Ev):Prop where
 same:gF K H0 H
 tt:iG K H
 fresh:∀a,H a=none->al a
 sub:∀a,al a->P a
 pf:∀a,H0 a=none->P a
 len:ρ.length=σ.length
 sh:∀(i:Nat) (d:D),ρ[i]?=some (.sh d)->∃v,σ[i]?=some (some v)/\Rep K al H v d
 ow:∀(i:Nat) (ds:gx),ρ[i]?=some (.ow ds)->∃a vs,σ[i]?=some (some<|.ref a)/\H a=some (.lst vs)/\fX K al H vs ds/\¬al a/\H0 a=none
 apart:∀(i j:Nat) (ds DY:gx) (a:fO),ρ[i]?=some (.ow ds)->ρ[j]?=some (.ow DY)->σ[i]?=some (some<|.ref a)->σ[j]?=some (some<|.ref a)->i=j
section
variable{K:fZ}{P al:gL}{m H p:Hp}{l:St}{c:Ev}
def RS.grow(r:RS K P m al H l c)(s:gF K H p):RS K P m al p l c where
 same:=r.same.trans s
 tt:=s.tt r.tt
 fresh:=λa h=>r.fresh a (s.free h)
 sub:=r.sub
 pf:=r.pf
 len:=r.len
 sh:=λi d e=>let⟨v,a,b⟩:=r.sh i d e;⟨v,a,b.up s⟩
 ow:=λi o e=>let⟨a,f,n,k,j,g⟩:=r.ow i o e;⟨a,f,n,s.at' _ _ kq k,j.up s,g⟩
 apart:=r.apart
def RS.set(r:RS K P m al H l c){v}{d:D}(n:i<c.length)(q:Rep K al H v d):RS K P m al H (l.set i<|some v) (c.set i<|.sh d) where
 same:=r.same
 tt:=r.tt
 fresh:=r.fresh
 sub:=r.sub
 pf:=r.pf
 len:=by rw[aR,aR];exact r.len
 sh:=λj e h=>by
  by_cases z:i=j
  ·subst z;rw[aD n]at h;cases h;exact⟨v,aD<|by rw[<-r.len];exact n,q⟩
  ·rw[aq z]at h;obtain⟨w,a,b⟩:=r.sh j e h;exact⟨w,by rw[aq z];exact a,b⟩
 ow:=λj s h=>by
  by_cases z:i=j
  ·subst z;rw[aD n]at h;cases h
  ·rw[aq z]at h;obtain⟨a,x,g,f⟩:=r.ow j s h;exact⟨a,x,by rw[aq z];exact g,f⟩
 apart:=λj k s o a g f u t=>by
  by_cases z:i=j;·subst z;rw[aD n]at g;cases g
  ·by_cases y:i=k;·subst y;rw[aD n]at f;cases f
   ·rw[aq z]at g u;rw[aq y]at f t;exact r.apart j k s o a g f u t
end
def XR(K:fZ)(al:gL)(H:Hp)(e:iV)(b:gu)(c:gx):Prop:=
 match e with
 |none=>b=[]/\c=[]
 |some d=>al d/\∃a,H d=some (.xd<|b.zip a)/\fX K al H a c
def XR.mv(h:Xt al H iD H')(r:XR K al H dx ns ds):XR K iD H' dx ns ds:=by
 cases dx with
 |none=>exact r
 |some d=>obtain⟨a,b,e,q⟩:=r;exact⟨(h _ _ sQ a e).1,b,(h _ _ sQ a e).2,q.mv h⟩
def Aft{d:Type}(K:fZ)(al:gL)(E:XK)(H:Hp)(r:R d)(k:d->Hp->Prop):Prop:=
 match r with
 |.ok a=>∀b,gF K H b->k a b
 |.ex c ns ds=>∀e b,gF K H b->XR K al b e ns ds->E (.ref c) e b
 |.bad=>False
section
variable{h l:Type}{K:fZ}{al:gL}{E:XK}{H j:Hp}{r:R h}{k i:h->Hp->Prop}
def Aft.up(a:Aft K al E H r k)(s:gF K H j):Aft K al E j r k:=by
 cases r with
 |ok x=>exact λd b=>a d (s.trans b)
 |ex c f g=>exact λe d b=>a e d (s.trans b)
 |bad=>exact a
def Aft.mono(a:Aft K al E H r k)(m:∀{x b},gF K H b->k x b->i x b):Aft K al E H r i:=by
 cases r with
 |ok x=>exact λb c=>m c (a b c)
 |_=>exact a
def Aft.split{g:h->R l}{k}(a:Aft K al E H (r.bind g) k):Aft K al E H r (λx b=>Aft K al E b (g x) k):=by
 cases r with
 |ok x=>exact λb c=>Aft.up a c
 |_=>exact a
end
structure DE(X:Cx)(E:XK)(e:f6)(f:gf):Prop where
 w_::
 o_:∃t:TE,PE X e t/\
 ∀{P H0 al H σ ρ} {Q:VK},RS X.K P H0 al H σ ρ->Aft X.K al E H (f ρ) (λd H'=>∀v,Rep X.K al H' v d->Q v H')->t σ H Q
abbrev _root_.iM:=Ev->R f5
structure DT(X:Cx)(E:XK)(e:f6)(f:iM):Prop where
 w_::
 o_:∃t:TT,PT X e t/\
 ∀{P H0 al H σ ρ} {Q:mI},RS X.K P H0 al H σ ρ->Aft X.K al E H (f ρ) Q->t σ H Q
structure DW(X:Cx)(E:XK)(e:f6)(f:iM):Prop where
 w_::
 o_:∃t:TT,PW X e t/\
 ∀{P H0 al H σ ρ} {Q:mI},RS X.K P H0 al H σ ρ->Aft X.K al E H (f ρ) Q->t σ H Q
abbrev _root_.ip:=Ev->R (fL D)
structure DA(X:Cx)(E:XK)(es:iL)(f:ip):Prop where
 w_::
 o_:∃t:TA,PA X es t/\
 (∀{P H0 al H σ ρ} {Q:fL V->Hp->Prop},RS X.K P H0 al H σ ρ->Aft X.K al E H (f ρ) (λds H'=>∀vs,fX X.K al H' vs ds->Q vs H')->t σ H Q)/\∀ρ ds,f ρ=.ok ds->ds.length=es.length
structure DN(X:Cx)(E:XK)(e:f6)(f:ip):Prop where
 w_::
 o_:∃t:TE,PE X e t/\
 ∀{P H0 al H σ ρ} {Q:VK},RS X.K P H0 al H σ ρ->Aft X.K al E H (f ρ) (λds H'=>∀p vs,H' p=none->fX X.K al H' vs ds->Q (.ref p) (upd H' p<|.lst vs))->t σ H Q
abbrev _root_.mJ:=D->D->R D
structure i7(X:Cx)(E:XK)(op:fN->fN->Sem fN)(g:mJ):Prop where
 w_::
 o_:∃r:R2,iz X op r/\
 ∀{al H x y dx dy} {Q:VK},(∀a,H a=none->al a)->Rep X.K al H x dx->Rep X.K al H y dy->Aft X.K al E H (g dx dy) (λd H'=>∀v,Rep X.K al H' v d->Q v H')->r x y H Q
structure xB(X:Cx)(E:XK)(g:mJ):Prop where
 w_::
 o_:∃r:R2,lG X r/\
 ∀{al H x y dx dy} {Q:VK},(∀a,H a=none->al a)->Rep X.K al H x dx->Rep X.K al H y dy->Aft X.K al E H (g dx dy) (λd H'=>∀v,Rep X.K al H' v d->Q v H')->r x y H Q
structure xO(X:Cx)(E:XK)(op:fN->Sem fN)(g:D->R D):Prop where
 w_::
 o_:∃r:V->Hp->VK->Prop,ry X op r/\
 ∀{al H x dx} {Q:VK},(∀a,H a=none->al a)->Rep X.K al H x dx->Aft X.K al E H (g dx) (λd H'=>∀v,Rep X.K al H' v d->Q v H')->r x H Q
structure nu(X:Cx)(E:XK)(f:fN)(g:gk):Prop where
 w_::
 o_:∃r:fL V->Hp->VK->Prop,jN X f r/\
 ∀{al H xs ds} {Q:VK},(∀a,H a=none->al a)->fX X.K al H xs ds->Aft X.K al E H (g ds) (λd H'=>∀v,Rep X.K al H' v d->Q v H')->r xs H Q
noncomputable def dV(i:Nat):gf:=λa=>match a[i]? with
 |some (.sh d)=>.ok d
 |_=>.bad
noncomputable def dC(d:D):gf:=λ_=>.ok d
def d1(g:D->R D)(a:gf):gf:=λb=>(a b).bind g
def d2(g:mJ)(a b:gf):gf:=λc=>(a c).bind λx=>(b c).bind λy=>g x y
abbrev fQ(i:Int):gf:=dC (.int i)
abbrev qo(x:fR):gf:=dC (.str x)
def tB(d:D):R f5:=match d with
 |.bl b=>.ok b
 |_=>.bad
noncomputable def tT(d:D):R f5:=match d with
 |.non=>.ok false
 |.bl b=>.ok b
 |.int i=>.ok (i !=0)
 |.str y=>if y.length<=sizeLine then .ok ((y.length:Int)!=0)else .bad
 |.lst ds=>.ok (!ds.isEmpty)
 |.tup ds=>.ok (!ds.isEmpty)
 |_=>.bad
def b1(t:D->R f5)(a:gf):Ev->R f5:=λb=>(a b).bind t
def mL(a b:iM):Ev->R f5:=λd=>(a d).bind λc=>if c=true then b d else .ok false
def lP(a b:iM):Ev->R f5:=λd=>(a d).bind λc=>if c=true then .ok true else b d
def me(a:iM):Ev->R f5:=λb=>(a b).bind λc=>.ok (!c)
def uP(a b:gf):gf:=λd=>((a d).bind tB).bind λc=>if c=true then b d else .ok (.bl false)
def Dj(a b:gf):gf:=λd=>((a d).bind tB).bind λc=>if c=true then .ok (.bl true)else b d
def uR(a:gf):gf:=λb=>((a b).bind tB).bind λc=>.ok (.bl<|!c)
def Dh(c:iM)(a b:gf):gf:=λd=>(c d).bind λk=>if k=true then a d else b d
noncomputable def fW:Ev->R (fL D):=λ_=>.ok []
def fM(a:gf)(r:ip):Ev->R (fL D):=λb=>(a b).bind λx=>(r b).bind λc=>.ok (x::c)
def dA(g:gk)(a:ip):gf:=λb=>(a b).bind g
def i0(a:gx):R D:=if a.length<=sizeLine then .ok (.tup a)else .bad
def ie(a:gx):R (fL D):=if a.length<=sizeLine then .ok a else .bad
def gZ(g:ip):gf:=λa=>(g a).bind λb=>.ok (.lst b)
section
variable{X:Cx}{E:XK}{e a b c:f6}{f B I:gf}{l:Pos}
def kT(i){x}(m:autoParam (X.N[i]?=some x) aZ0)(hv:autoParam (lM X.env.scope x) aZ4)(k:autoParam (i8 x) aZ1)
 (g:autoParam ((x==("__classdict__":fR))=false) aZ1):DE X E (.Name x l) (dV i):=by
  refine⟨_,nX m hv k g,λ{_ _ _ H _ j _} r h=>?_⟩;unfold dV at h;cases q:j[i]? with
  |none=>rw[q]at h;exact h.elim
  |some s=>
   cases s with
   |sh d=>rw[q]at h;obtain⟨v,o,n⟩:=r.sh i d q;exact⟨v,o,h H (.refl H) v n⟩
   |_=>rw[q]at h;exact h.elim
def rN{i j}:DE X E (.Constant (.int i) j l) (fQ i):=⟨_,Jo,λ_ h=>h _ (.refl _) _<|.int i⟩
def yr{i j}:DE X E (.Constant (.bool i) j l) (dC<|.bl i):=⟨_,Je,λ_ h=>h _ (.refl _) _<|.bl i⟩
def Dz{i j}:DE X E (.Constant (.str i) j l) (qo i):=⟨_,Jw,λ_ h=>h _ (.refl _) _<|.str i⟩
def DB{x}{n}(i:Gl X x)(g:X.mg x=none)(hv:bootBuiltins x=some (.type n))(d:autoParam (x≠"__name__") aZ1)(j:autoParam (i8 x) aZ1):DE X E (.Name x l) (dC<|.ty n):=
 ⟨_,Jf (v:=.ty n) i g hv rfl d j,λ_ h=>h _ (.refl _) _<|.ty n⟩
def Dx{j:Operator}{g}(x:i7 X E (binaryOp j) g)(z:DE X E a B)(y:DE X E b I):DE X E (.BinOp a j b l) (d2 g B I):=by obtain⟨r,o,n⟩:=x;obtain⟨F,w,q⟩:=z;obtain⟨D,t,p⟩:=y;refine⟨_,Ax o w t,λs h=>q s<|Aft.mono (Aft.split h) λi C v k=>p (s.grow i)<|Aft.mono (Aft.split C) λd A u m=>?_⟩;exact n ((s.grow i).grow d).fresh (k.up d) m A
def DC{g:D->R D}(o:xO X E (unaryOp op) g)(p:DE X E a B):DE X E (.UnaryOp op a l) (d1 g B):=by obtain⟨r,k,j⟩:=o;obtain⟨t,n,m⟩:=p;exact⟨_,Jx k n,λs h=>m s<|Aft.mono (Aft.split h) λd q v i=>j (s.grow d).fresh i q⟩
def pj{d k}(r:Rep K al H v d)(h:Aft K al E H (tB d) k):∃c,v=.bl c/\k c H:=by
 cases r with
 |bl b=>exact⟨b,rfl,h H<|.refl H⟩
 |_=>exact(h:False).elim
def Ec{j:CmpOp}{g}(F:i7 X E (compareOp j) g)(J:DE X E a B)(H:DE X E b I)(G:autoParam (behindInMarks j b=false) aZ6):DT X E (.Compare a [j] [b] l) (b1 tB<|d2 g B I):=by
 obtain⟨r,t,q⟩:=F;obtain⟨P,D,A⟩:=J;obtain⟨O,C,z⟩:=H;refine⟨_,AJ t D C G,λ{_ _ al _ _ _ Q} s h=>A s<|Aft.mono (Aft.split<|Aft.split h) λ{x _} n M v o=>?_⟩;refine z (s.grow n) (Aft.mono (Aft.split (g:=λy=>g x y) (k:=λd N=>Aft X.K al E N (tB d) Q) ?_) λm L u p=>?_);·exact M
 ·exact q ((s.grow n).grow m).fresh (o.up m) p (Aft.mono L λR K w i=>pj i K)
def Nb{d k}(r:Rep K al H v d)(h:Aft K al E H (tT d) k):∃c,uo K v H c/\k c H:=by
 cases r with
 |non=>exact⟨_,rfl,h H<|.refl H⟩
 |bl b=>exact⟨_,rfl,h H<|.refl H⟩
 |int b=>exact⟨_,rfl,h H<|.refl H⟩
 |str b=>
  unfold tT at h;by_cases z:b.length<=sizeLine
  ·simp only[z,cz]at h;exact⟨_,⟨z,rfl⟩,h H<|.refl H⟩
  ·simp only[z,bU]at h;exact h.elim
 |tup p q=>refine⟨_,.inr<|.inl ⟨_,p.elim (λz=>.inl<|.inl z.2) .inr,?_⟩,h H<|.refl H⟩;cases q<;>rfl
 |lst p q=>refine⟨_,.inl ⟨_,p.elim (λz=>.inl z.2) KL.sq,?_⟩,h H<|.refl H⟩;cases q<;>rfl
 |_=>exact(h:False).elim
def Ef(m:DE X E e B)(k:autoParam (∀d,isTrue e X.env d=(do let v<-d;standAt e.pos;holding [v] (truthy v))) aZ2):DT X E e (b1 tT B):=by obtain⟨o,j,i⟩:=m;exact⟨_,JY j k,λs h=>i s<|Aft.mono (Aft.split h) λp n v g=>Nb g n⟩
variable{C J:iM}{rest:iL}
def DW.dt(h:DW X E e C):DT X E e C:=let⟨t,p,r⟩:=h;⟨t,p.pt,r⟩
def Ej(h:DT X E a C):DW X E (.BoolOp .And [a] l) C:=let⟨t,p,r⟩:=h;⟨t,Ka p,r⟩
def El(h:DT X E a C):DW X E (.BoolOp .Or [a] l) C:=let⟨t,p,r⟩:=h;⟨t,Kc p,r⟩
def Ei(p:DT X E a C)(o:DW X E (.BoolOp .And (b::rest) l) J):DW X E (.BoolOp .And (a::b::rest) l) (mL C J):=by
 obtain⟨r,n,k⟩:=p;obtain⟨q,m,j⟩:=o;refine⟨_,J4 n m,λs h=>k s<|Aft.mono (Aft.split h) λ{c g} i d=>?_⟩;cases c with
 |true=>exact qw (j (s.grow i) d)
 |false=>exact qv (d g<|.refl g)
def Ek(p:DT X E a C)(o:DW X E (.BoolOp .Or (b::rest) l) J):DW X E (.BoolOp .Or (a::b::rest) l) (lP C J):=by
 obtain⟨r,n,k⟩:=p;obtain⟨q,m,j⟩:=o;refine⟨_,Kb n m,λs h=>k s<|Aft.mono (Aft.split h) λ{c g} i d=>?_⟩;cases c with
 |true=>exact qw (d g<|.refl g)
 |false=>exact qv (j (s.grow i) d)
def Ed(j:DT X E a C):DT X E (.UnaryOp .Not a l) (me C):=by obtain⟨m,i,g⟩:=j;exact⟨_,JX i,λs h=>g s<|Aft.mono (Aft.split h) λ{_ d} n k=>k d<|.refl d⟩
def Dw(h:DE X E a B):DE X E (.BoolOp op [a] l) B:=let⟨t,p,r⟩:=h;⟨t,Js p,r⟩
def Dr(q:DE X E a B)(p:DE X E (.BoolOp .And (b::rest) l) I):DE X E (.BoolOp .And (a::b::rest) l) (uP B I):=by
 obtain⟨u,o,m⟩:=q;obtain⟨t,n,k⟩:=p;refine⟨_,Jd o n,λs h=>m s<|Aft.mono (Aft.split<|Aft.split h) λ{_ g} i r v j=>?_⟩;obtain⟨c,e,d⟩:=pj j r;refine⟨c,e,?_⟩;cases c with
 |true=>exact qw (k (s.grow i) d)
 |false=>exact qv (d g (.refl g) _<|.bl false)
def Dv(k:DE X E a B):DE X E (.UnaryOp .Not a l) (uR B):=by obtain⟨o,j,i⟩:=k;refine⟨_,Jr j,λs h=>i s<|Aft.mono (Aft.split<|Aft.split h) λ{_ d} p n v g=>?_⟩;obtain⟨c,e,m⟩:=pj g n;exact⟨c,e,m d (.refl d) _<|.bl _⟩
variable{m:iL}{fs:ip}
def rM:DA X E [] fW:=⟨_,mV,λ_ h=>h _ (.refl _) _ .nil,λ_ _ h=>by cases h;rfl⟩
def uS(G:DE X E e B)(F:DA X E m fs)(A:autoParam (X.se e m) aZ0):DA X E (e::m) (fM B fs):=by
 obtain⟨L,w,r⟩:=G;obtain⟨K,t,q,z⟩:=F;refine⟨_,mU w t A,λ{_ _ _ _ _ i _} s h=>r s<|Aft.mono (Aft.split h) λ{x _} n g v o=>q (s.grow n)<|Aft.mono (Aft.split g) λ{y j} k d u p=>?_,λi M h=>?_⟩;·exact d j (.refl j) _ (.cons (o.up k) p)
 ·obtain⟨x,_,g⟩:=ya h;obtain⟨y,d,H⟩:=ya g;cases H;rw[aI,aI,z i y d]
def yu{j}(q:DA X E m fs):DE X E (.Tuple m j l) (dA i0 fs):=by
 obtain⟨r,o,n,_⟩:=q;refine⟨_,Ay o,λs h=>n s<|Aft.mono (Aft.split h) λ{x _} k d v i=>?_⟩;unfold i0 at d;by_cases z:x.length<=sizeLine
 ·rw[ae z]at d;exact⟨by rw[i.length];exact z,λp g=>d _ (jG g) _<|i.xi g<|(s.grow k).fresh p g⟩
 ·rw[ah z]at d;exact d.elim
def uW(q:DA X E m fs):DN X E (.List m l) (λj=>(fs j).bind ie):=by
 obtain⟨r,n,k,_⟩:=q;refine⟨_,Jq n,λs h=>k s<|Aft.mono (Aft.split h) λ{x i} t d v g=>?_⟩;unfold ie at d;by_cases z:x.length<=sizeLine
 ·rw[ae z]at d;exact⟨by rw[g.length];exact z,λp o=>d i (.refl i) p v o g⟩
 ·rw[ah z]at d;exact d.elim
def DN.de{g}(h:DN X E e g):DE X E e (gZ g):=by obtain⟨t,p,r⟩:=h;exact⟨t,p,λs h=>r s<|Aft.mono (Aft.split h) λi k p n d j=>k _ (jG d) _<|j.mR d<|(s.grow i).fresh p d⟩
def yt{g}(y:xB X E g)(A:DE X E a B)(z:DE X E b I)(x:xM b:=by exact λ_ _=>rfl):DE X E (.Subscript a b l) (d2 g B I):=by obtain⟨r,o,n⟩:=y;obtain⟨K,w,q⟩:=A;obtain⟨H,t,p⟩:=z;refine⟨_,Jp o w t x,λs h=>q s<|Aft.mono (Aft.split h) λi G v j=>p (s.grow i)<|Aft.mono (Aft.split G) λd F u k=>?_⟩;exact n ((s.grow i).grow d).fresh (j.up d) k F
variable{x:fR}{p:Pos}
def Dt{j:String}{g}(F:nu X E (.builtin j) g)(z:Gl X x)(y:X.mg x=none)(hv:bootBuiltins x=some (.builtin j))(G:DA X E (e::m) fs)(w:autoParam (x≠"__name__") aZ1)(i:autoParam (i8 x) aZ1)
 (A:autoParam (X.se e m) aZ0)(d:autoParam (X.bk l m) aZ0):DE X E (.Call (.Name x p) (e::m) [] l) (dA g fs):=by obtain⟨r,q,o⟩:=F;obtain⟨K,u,t,_⟩:=G;exact⟨_,Ji q z y hv u w i A d,λs h=>t s<|Aft.mono (Aft.split h) λk H v n=>o (s.grow k).fresh n H⟩
def Du{g}(A:nu X E (.type T) g)(y:Gl X x)(w:X.mg x=none)(hv:bootBuiltins x=some (.type T))(F:DA X E (e::m) fs)(u:autoParam (x≠"__name__") aZ1)(i:autoParam (i8 x) aZ1)
 (z:autoParam (X.se e m) aZ0)(d:autoParam (X.bk l m) aZ0):DE X E (.Call (.Name x p) (e::m) [] l) (dA g fs):=by obtain⟨r,o,n⟩:=A;obtain⟨H,t,q,_⟩:=F;exact⟨_,Jj o y w hv t u i z d,λs h=>q s<|Aft.mono (Aft.split h) λj G v k=>n (s.grow j).fresh k G⟩
def jj(n:Nat)(K:fZ)(F:gk):Sp:=λg H Q E=>g.length=n/\iG K H/\∃al h,(∀a,H a=none->al a)/\fX K al H g h/\Aft K al E H (F h) (λd i=>∀v,Rep K al i v d->Q v i)
variable{k n:Nat}{L:gu}{F:gk}
def Ds(G:l8 X.prog X.w X.K X.mg X.base (gJ X.prog X.w) k x L<|jj n X.K F)(y:g8 k X.A)(A:Gl X x)(w:Passes (gJ X.prog X.w) X E)(z:(e::m).length=n)(K:DA X E (e::m) fs)(i:autoParam (i8 x) aZ1)
 (H:autoParam (X.se e m) aZ0)(g:autoParam (X.bk l m) aZ0):DE X E (.Call (.Name x p) (e::m) [] l) (dA F fs):=by
  obtain⟨N,u,t,v⟩:=K;refine⟨_,wy G y A w u i H g,λ{_ _ al _ _ o _} s h=>t s ?_⟩;unfold dA at h;cases q:fs o with
  |ok j=>rw[q]at h;intro P d M r;rw[aP];exact⟨by rw[r.length,v o j q];exact z,(s.grow d).tt,al,j,(s.grow d).fresh,r,Aft.up h d⟩
  |ex c O j=>rw[q]at h;exact h
  |bad=>rw[q]at h;exact h.elim
end
inductive RT where
 |nx(ρ:Ev)|rt(d:D)|bk(ρ:Ev)|ct(ρ:Ev)|ex(c:Addr)(ns:List Str)(ds:List D)|bad
abbrev gK:=Ev->RT
noncomputable def toS{b:Type}(r:R b)(k:b->RT):RT:=match r with
 |.ok a=>k a
 |.ex c ns ds=>.ex c ns ds
 |.bad=>.bad
def lz(r:RT)(k:gK):RT:=match r with
 |.nx a=>k a
 |r=>r
def ir(K:fZ)(P:gL)(g:Hp)(E:XK)(D:Ends)(al:gL)(H:Hp):RT->Prop
 |.nx f=>∀e a b,Xt al H e a->RS K P g e a b f->D.nx b a
 |.bk f=>∀e a b,Xt al H e a->RS K P g e a b f->D.bk b a
 |.ct f=>∀e a b,Xt al H e a->RS K P g e a b f->D.ct b a
 |.rt d=>∀v a,gF K g a->Rep K P a v d->D.rt v a
 |.ex c ns ds=>∀h a,gF K g a->XR K P a h ns ds->E (.ref c) h a
 |.bad=>False
section
variable{K:fZ}{P al i:gL}{j H l:Hp}{E:XK}{D:Ends}{s:RT}{m:St}{p:Ev}
def ir.ext(h:ir K P j E D al H s)(x:Xt al H i l):ir K P j E D i l s:=by
 cases s with
 |rt d=>exact h
 |ex c f g=>exact h
 |bad=>exact h
 |_=>exact λa e b y r=>h a e b (x.trans y) r
def ir.mr{d}{r:R d}{k}(h:ir K P j E D al H<|toS r k)(s:RS K P j al H m p):Aft K al E H r (λx a=>ir K P j E D al a<|k x):=by
 cases r with
 |ok x=>exact λa b=>ir.ext h (.of b)
 |ex c f g=>exact λe a b q=>h e a (s.same.trans b) (q.mv<|.sub s.sub)
 |bad=>exact h
end
structure DS(X:Cx)(E:XK)(st:Stmt)(g:gK):Prop where
 w_::
 o_:∃t:TS,PS X st t/\
 ∀{P H0 al H σ ρ} {D:Ends},RS X.K P H0 al H σ ρ->ir X.K P H0 E D al H (g ρ)->t D σ H
structure kA(X:Cx)(E:XK)(st:fL Stmt)(g:gK):Prop where
 w_::
 o_:∃t:TS,kN X st t/\
 ∀{P H0 al H σ ρ} {D:Ends},RS X.K P H0 al H σ ρ->ir X.K P H0 E D al H (g ρ)->t D σ H
def mZ:gK:=.nx
def g7(a b:gK):gK:=λc=>lz (a c) b
def Nr(f:gf):gK:=λa=>toS (f a) λ_=>.nx a
def jz(f:gf):gK:=λa=>toS (f a) .rt
def iR(i:Nat)(f:gf):gK:=λa=>toS (f a) λd=>if i<a.length then .nx (a.set i<|.sh d)else .bad
def mY(c:iM)(a b:gK):gK:=λd=>toS (c d) λk=>if k=true then a d else b d
section
variable{X:Cx}{E:XK}{B:Stmt}{rest F C:fL Stmt}{g u I l:gK}{e c:f6}{f:gf}{y:iM}{j:Pos}
def D9:kA X E [] mZ:=⟨_,wH,λ{_ _ al H a _ _} s h=>h al H a .refl s⟩
def Ea(h:DS X E B g):kA X E [B] g:=let⟨t,p,r⟩:=h;⟨t,tf p,r⟩
def D7(r:DS X E B g)(p:kA X E rest u):kA X E (B::rest) (g7 g u):=by
 obtain⟨z,o,m⟩:=r;obtain⟨w,n,k⟩:=p;refine⟨_,AI o n,λ{P A al H v d D} s h=>m s ?_⟩;unfold g7 at h;cases q:g d with
 |nx b=>rw[q]at h;exact λt G a x i=>k i (ir.ext h x)
 |_=>rw[q]at h;exact h
def D4(d:DE X E e f):DS X E (.Return (some e) j) (jz f):=by obtain⟨t,p,r⟩:=d;exact⟨_,wD p,λs h=>r s<|Aft.mono (ir.mr h s) λ{_ k} a i v b=>i v k (s.same.trans a)<|b.mv<|.sub s.sub⟩
def yI(i)(w:X.N.Nodup)(o:X.N[i]?=some x)(m:Loc X.env.scope x)(q:DE X E e f)(n:autoParam (swapsWith e (some<|.Name x pos') j.line X.env=pure false) aZ0)(hf:autoParam (X.hf x) aZ3):
    DS X E (.Assign [.Name x pos'] e j) (iR i f):=by
 obtain⟨t,p,r⟩:=q;refine⟨_,wF w o m p n hf,λ{_ _ al _ _ b _} s h=>r s<|Aft.mono (ir.mr h s) λ{_ A} d a v k=>?_⟩;by_cases z:i<b.length
 ·simp only[z,cz]at a;exact a al A _ .refl ((s.grow d).set z k)
 ·simp only[z,bU]at a;exact a.elim
def D0(q:DT X E c y)(t:kA X E F I)(r:kA X E C l):DS X E (.If c F C j) (mY y I l):=by
 obtain⟨v,n,d⟩:=q;obtain⟨x,p,m⟩:=t;obtain⟨w,o,i⟩:=r;refine⟨_,wC n p o,λs h=>d s<|Aft.mono (ir.mr h s) λ{k _} a b=>?_⟩;cases k with
 |true=>exact qw (m (s.grow a) b)
 |false=>exact qv (i (s.grow a) b)
def turnT(r:RT)(k:gK):RT:=match r with
 |.nx a=>k a
 |.ct a=>k a
 |.bk a=>.nx a
 |r=>r
def jX(c:iM)(b:gK):Nat->gK
 |0,_=>.bad
 |n+1,a=>toS (c a) λk=>if k=true then turnT (b a) (jX c b n)else .nx a
def Bu{D k}(h:ir K P H0 E D al H<|turnT r k)
 (n:∀a d b i,Xt al H a d->RS K P H0 a d b i->ir K P H0 E D a d (k i)->N b d):ir K P H0 E {D with nx:=N,ct:=N,bk:=D.nx} al H r:=by
  cases r with
  |nx m=>exact λa d b x s=>n a d b m x s (ir.ext h x)
  |ct m=>exact λa d b x s=>n a d b m x s (ir.ext h x)
  |_=>exact h
def D6(n)(N:PassesOwn (model X.prog X.w) X.A X.env X.xe)(O:DT X E c y)(Q:kA X E C l):DS X E (.While c C [] j) (jX y l n):=by
 obtain⟨U,L,J⟩:=O;obtain⟨V,M,K⟩:=Q;refine⟨_,JU N L M,λ{P p al _ _ G D} s h=>⟨λm d v=>∃a b,RS X.K P p a v d b/\ir X.K P p E D a v (jX y l m b),⟨n,al,G,s,h⟩,?_⟩⟩
 rintro m d v ⟨a,b,o,A⟩
 cases m with
 |zero=>exact A.elim
 |succ m=>
  refine J o (Aft.mono (ir.mr A o) λ{k T} w x=>?_);cases k with
  |true=>refine qw ⟨λi q=>∃a b,RS X.K P p a q i b/\ir X.K P p E D a q (jX y l m b),λi q z=>⟨m,eT m,z⟩,K (o.grow w)<|Bu (k:=jX y l m) x λt q i r _ H S=>⟨t,r,H,S⟩⟩
  |false=>exact qv (x a T d .refl<|o.grow w)
end
def Wk(K:fZ)(al:gL)(H:Hp)(J:It)(f:gx):Prop:=∀b c,Xt al H b c->(∀a,c a=none->b a)->
 (∀i d,f[i]?=some d->J.go i c/\∀x e,J.tN i c x e->e=c/\Rep K b c x d)/\∀i,f.length<=i->J.stop i c
structure DI(X:Cx)(E:XK)(tg iter:f6)(f:ip):Prop where
 w_::
 o_:∃wi:TI,PI X tg iter wi/\
 ∀{P H0 al H σ ρ} {R:It->Hp->Prop},RS X.K P H0 al H σ ρ->Aft X.K al E H (f ρ) (λds H'=>∀J,Wk X.K al H' J ds->R J H')->wi σ H R
abbrev _root_.jQ:=fL Nat
def Kp(l:jQ)(b a:St):Prop:=a.length=b.length/\∀j,j∉l->a[j]?=b[j]?
abbrev _root_.kP:=D->Ev->fU Ev
structure DG(X:Cx)(tg:f6)(l:jQ)(a:kP):Prop where
 w_::
 o_:∃g:TG,PG X tg g/\
 ∀{P H0 al H σ ρ v d} {Q:St->Hp->Prop},RS X.K P H0 al H σ ρ->Rep X.K al H v d->(∃jH,a d ρ=some jH/\∀l7,Kp l σ l7->RS X.K P H0 al H l7 jH->Q l7 H)->g v σ H Q
abbrev _root_.uu:=fL D->Ev->fU Ev
structure qY(X:Cx)(tg:iL)(l:jQ)(a:uu):Prop where
 w_::
 o_:∃g:mF,pY X tg g/\
 ∀{P H0 al H σ ρ v d} {Q:St->Hp->Prop},RS X.K P H0 al H σ ρ->fX X.K al H v d->(∃jH,a d ρ=some jH/\∀l7,Kp l σ l7->RS X.K P H0 al H l7 jH->Q l7 H)->g v σ H Q
def gV(i:Nat):D->Ev->fU Ev:=λd a=>if i<a.length then some (a.set i<|.sh d)else none
def gN:fL D->Ev->fU Ev:=λb a=>match b with
 |[]=>some a
 |_=>none
def gC(a:kP)(b:uu):fL D->Ev->fU Ev:=λe c=>match e with
 |d::r=>(a d c).bind (b r)
 |[]=>none
def gT(n:Nat)(a:uu):D->Ev->fU Ev:=λd b=>match d with
 |.tup ds=>if ds.length=n then a ds b else none
 |_=>none
def toO{b:Type}(r:fU b)(k:b->RT):RT:=match r with
 |some a=>k a
 |none=>.bad
def jy(a:kP)(b:gK):fL D->gK
 |[],e=>.nx e
 |d::r,e=>toO (a d e) λc=>turnT (b c) (jy a b r)
section
variable{X:Cx}{E:XK}{Y L:f6}{I:fL Stmt}{U:ip}{a:kP}{O:gK}{M:Pos}
def qK(U:ip)(a:kP)(O:gK):gK:=λb=>toS (U b) λc=>jy a O c b
def kU(i)(l:X.N.Nodup)(k:X.N[i]?=some x)(f:Loc X.env.scope x)(hf:autoParam (X.hf x) aZ3):DG X (.Name x M) [i] (gV i):=by
 refine⟨_,wz l k f hf,λ{_ _ _ _ _ c _ _ _} s d h=>?_⟩;obtain⟨b,e,q⟩:=h;unfold gV at e;by_cases z:i<c.length
 ·rw[ae z]at e;cases e;exact q _ ⟨aR ..,λj g=>aq<|λw=>g<|by simp[w]⟩ (s.set z d)
 ·rw[ah z]at e;cases e
def yA:qY X [] [] gN:=by
 refine⟨_,JD,λs c h=>?_⟩;obtain⟨b,e,q⟩:=h;cases c with
 |nil=>cases e;exact⟨rfl,q _ ⟨rfl,λ_ _=>rfl⟩ s⟩
 |cons _ _=>cases e
def mP{u}(A:DG X e l1 a)(z:qY X es l2 u)(y:autoParam ((assignEach (e::es) X.env).map (·.2)=assign e X.env::(assignEach es X.env).map (·.2)) aZ0):qY X (e::es) (l1++l2) (gC a u):=by
 obtain⟨G,x,t⟩:=A;obtain⟨F,v,r⟩:=z;refine⟨_,JC x v y,λs n h=>?_⟩;obtain⟨d,e,q⟩:=h;cases n with
 |nil=>cases e
 |cons p o=>obtain⟨c,C,B⟩:=aT.mp e;exact⟨_,_,rfl,t s p ⟨c,C,λk g m=>r m o ⟨d,B,λb f l=>q b ⟨f.1.trans g.1,λj i=>(f.2 j λw=>i<|aM _ w).trans (g.2 j λw=>i<|bT _ w)⟩ l⟩⟩⟩
def yz{k n u}(p:X.calm=true)(h:qY X es l u)(o:autoParam ((assignEach es X.env).length=n) aZ0)(c:autoParam ((assignEach es X.env).findIdx? (·.1)=none) aZ0):DG X (.Tuple es k M) l (gT n u):=by
 obtain⟨w,m,j⟩:=h;refine⟨_,JB p m o c,λ{_ _ _ _ _ _ _ d _} s i h=>?_⟩;obtain⟨b,e,q⟩:=h;unfold gT at e;cases d with
 |tup v=>
  by_cases z:v.length=n
  ·simp only[z,cz]at e;obtain⟨a,g,t,r,f⟩:=i.l5;exact⟨a,g,t,r,by rw[f.length];exact z,j s f ⟨b,e,q⟩⟩
  ·simp only[z,bU]at e;cases e
 |_=>cases e
def uX(hp:PassesOwn (model X.prog X.w) X.A X.env X.xe)(hc:X.calm=true)(u:DI X E Y L U)(hg:DG X Y l a)(hb:kA X E I O)(hs:autoParam (∀x,foldedSetIterable L X.env x=pure x) aZ2):
    DS X E (.For Y L I [] M) (qK U a O):=by
 obtain⟨wi,pi,ri⟩:=u;obtain⟨g,pg,rg⟩:=hg;obtain⟨tb,pb,rb⟩:=hb;refine⟨_,wB hp hc pi pg pb hs,λ{P v al _ _ G D} s h=>ri s<|Aft.mono (ir.mr h s) λ{d _} Z h1 J S=>?_⟩;refine⟨λi m j p=>∃b c,RS X.K P v b p j c/\Wk X.K b p J d/\ir X.K P v E D b p (jy a O (d.drop i) c)/\m=d.length - i,⟨_,al,G,s.grow Z,S,h1,rfl⟩,?_⟩
 rintro i m j p ⟨b,c,z,r,f,rfl⟩
 obtain⟨V,T⟩:=r b p .refl z.fresh;by_cases u:i<d.length
 ·right;have ed:d[i]?=some d[i]:=aL u;obtain⟨go,K⟩:=V i _ ed;rw[bj u]at f;refine⟨go,λn t=>∃b c,RS X.K P v b t n c/\Wk X.K b t J d/\ir X.K P v E D b t (jy a O (d.drop<|i+1) c),λn t ⟨B,o,z1,z2,H⟩=>⟨d.length - (i+1),by grind,B,o,z1,z2,H,rfl⟩,λx H3 y=>?_⟩;obtain⟨rfl,rx⟩:=K x H3 y;unfold jy at f;cases q:a d[i] c with
  |some o=>rw[q]at f;refine rg z rx ⟨o,q,λF _ W=>rb W<|Bu (k:=jy a O<|d.drop<|i+1) f λC t n w Q s' h'=>⟨C,w,s',λA H4 N=>r A H4<|Q.trans N,h'⟩⟩
  |none=>rw[q]at f;exact f.elim
 ·left;have e:d.drop i=[]:=bu (by simp_all);rw[e]at f;exact⟨T i<|by simp_all,f b p j .refl z⟩
def gY(n:Nat)(b:gx):Ev:=b.map .sh++List.replicate (n - b.length) .no
noncomputable def gX:RT->R D
 |.rt d=>.ok d
 |.nx _=>.ok .non
 |.ex c ns ds=>.ex c ns ds
 |_=>.bad
def A4{al}(tt:iG K H)(fr:∀a,H a=none->al a)(r:fX K al H vs ds):RS K al H al H (L2.start N vs) (gY N.length ds) where
 same:=.refl H
 tt:=tt
 fresh:=fr
 sub:=λ_ h=>h
 pf:=fr
 len:=by unfold L2.start gY;simp[r.length]
 sh:=λi d h=>by
  unfold gY at h;by_cases b:i<ds.length
  ·rw[aB<|by simpa using b,aF]at h;cases q:ds[i]? with
   |none=>rw[q]at h;cases h
   |some y=>rw[q]at h;cases h;obtain⟨v,e,c⟩:=r.getD q;refine⟨v,?_,c⟩;unfold L2.start;rw[aB<|by simpa [r.length]using b,aF,e];rfl
  ·rw[av<|by simpa using b,bt]at h;split at h<;>cases h
 ow:=λi d h=>by
  unfold gY at h;by_cases b:i<ds.length
  ·rw[aB<|by simpa using b,aF]at h;cases q:ds[i]? with
   |_=>rw[q]at h;cases h
  ·rw[av<|by simpa using b,bt]at h;split at h<;>cases h
 apart:=λi j d f a h _ _ _=>by
  unfold gY at h;by_cases b:i<ds.length
  ·rw[aB<|by simpa using b,aF]at h;cases q:ds[i]? with
   |_=>rw[q]at h;cases h
  ·rw[av<|by simpa using b,bt]at h;split at h<;>cases h
variable{P:gy}{w:gs}{K:fZ}{T:g5}{C:gc}
def EE{k g}(F:jZ K x x st f fd)(S:lF N ps<|gG st)
 (I:∀e A b s H E,g8 k (gW (gJ P w) P w K T C N x (gG st) f e A b s H E).A->kA (gW (gJ P w) P w K T C N x (gG st) f e A b s H E) E (jD st) g):
   kb P w K T C (k+1) f fd ps (jj ps.length K λl=>gX<|g<|gY N.length l):=by
  refine F.Ai S (λo H Q E h=>h.1) (λe A b s H o Q E y h=>?_);obtain⟨J,u,al,l,fr,j,h⟩:=h;obtain⟨t,p,r⟩:=I e A b s H E y;dsimp only at h;refine⟨t,p,r (A4 u fr j) ?_⟩;cases q:g (gY N.length l)with
  |nx B=>rw[q]at h;exact λz m n _ i=>h m i.same .non .non
  |rt d=>rw[q]at h;exact λv m i j=>h m i v j
  |ex c G V=>rw[q]at h;exact h
  |_=>rw[q]at h;exact h.elim
def l8.up{k}(G:i6 P w K T C j x ps sp)(h:j<=k):i6 P w K T C k x ps sp:=let⟨f,b,fo,r⟩:=G;⟨f,b,fo.mono h,r⟩
variable{N:gu}{qual:fR}{scope:Scope}{f:fO}{cd:fN}{A:gz}{B:iK}{s:fS}{H:Hp}
end
def vA(T:String):D->f5
 |.str _=>T=="str"
 |.int _=>T=="int"
 |.lst _=>T=="list"
 |_=>false
def Di(T:String)(g:D->gk)(o:gf)(a:ip):gf:=λb=>(o b).bind λx=>if vA T x=true then(a b).bind λc=>g x c else .bad
section
variable{X:Cx}{E:XK}{o e:f6}{z:iL}{fo:gf}{fs:ip}{c:fR}{q m:Pos}{T y:String}{g:D->gk}
structure DO(X:Cx)(E:XK)(e:fU f6)(f:Ev->R (fU Int)):Prop where
 w_::
 o_:∃t:TO,PO X e t/\
 ∀{P H0 al H σ ρ} {Q:fU Int->Hp->Prop},RS X.K P H0 al H σ ρ->Aft X.K al E H (f ρ) Q->t σ H Q
abbrev _root_.uq:=D->fU Int->fU Int->R D
structure uj(X:Cx)(E:XK)(g:uq):Prop where
 w_::
 o_:∃r,ma X r/\
 ∀{al H x dx lo hi} {Q:VK},(∀a,H a=none->al a)->Rep X.K al H x dx->Aft X.K al E H (g dx lo hi) (λd H'=>∀v,Rep X.K al H' v d->Q v H')->r x lo hi H Q
def pI(d:D):R (fU Int):=match d with
 |.int i=>.ok (some i)
 |_=>.bad
def DV:DO X E none (λ_=>.ok none):=⟨_,JM,λ_ h=>h _<|.refl _⟩
def DX(h:DE X E e fo):DO X E (some e) (λd=>(fo d).bind pI):=by
 obtain⟨t,p,r⟩:=h;refine⟨_,JN p,λs h=>r s<|Aft.mono (Aft.split h) λ{_ b} j a v f=>?_⟩;cases f with
 |int i=>exact⟨i,rfl,a b<|.refl b⟩
 |_=>exact(a:False).elim
def oO(g:uq)(a:gf)(l u:Ev->R (fU Int)):gf:=λb=>(a b).bind λx=>(l b).bind λi=>(u b).bind λj=>g x i j
def Dy{g lo}(x:uj X E g)(B:DE X E e fo)(A:DO X E lo fl)(w:DO X E hi fu):DE X E (.Subscript e (.Slice lo hi none p2) pos) (oO g fo fl fu):=by obtain⟨r,l,j⟩:=x;obtain⟨I,t,k⟩:=B;obtain⟨J,u,n⟩:=A;obtain⟨H,p,i⟩:=w;refine⟨_,Jt l t u p,λs h=>k s<|Aft.mono (Aft.split h) λb G v f=>?_⟩;refine n (s.grow b) (Aft.mono (Aft.split G) λa F=>i ((s.grow b).grow a)<|Aft.mono (Aft.split F) λd C=>?_);exact j (((s.grow b).grow a).grow d).fresh ((f.up a).up d) C
end
def AB(d:PI X tg iter w1)(c:PI X tg iter w2):PI X tg iter (λb H R=>w1 b H R\/w2 b H R):=λa s b H R I h=>h.elim (d a s b H R I) (c a s b H R I)
section
variable{X:Cx}{E:XK}{J e:f6}{f:gf}
def Pj(r:Rep K al H (.ref a)<|.lst ds):Wk K al H (tY K a) ds:=by intro g m x fr;obtain⟨l,b,e,q,rs⟩:=(r.mv x).lZ;cases e;refine⟨λi d h=>?_,λi h=>⟨b,q,by rw[rs.length];exact h⟩⟩;obtain⟨v,c,k⟩:=rs.getD h;refine⟨⟨b,v,q,c⟩,λy j z=>⟨z.1,?_⟩⟩;have:=z.2 b q;simp_all
def Po(r:Rep K al H (.ref a)<|.tup ds):Wk K al H (tZ K a) ds:=by intro g m x fr;obtain⟨l,b,e,q,rs⟩:=(r.mv x).l5;cases e;refine⟨λi d h=>?_,λi h=>⟨b,q,by rw[rs.length];exact h⟩⟩;obtain⟨v,c,k⟩:=rs.getD h;refine⟨⟨b,v,q,c⟩,λy j z=>⟨z.1,?_⟩⟩;have:=z.2 b q;simp_all
def kZ(lo:Int)(n:Nat):fL D:=(List.range n).map λ(k:Nat)=>D.int (lo+(k:Int))
def BH{lo n}:Wk K al H (pU lo n) (kZ lo n):=by
 intro b g x fr;refine⟨λi d h=>?_,λi h=>?_⟩
 ·unfold kZ at h;rw[aF]at h;by_cases a:i<n
  ·rw[List.getElem?_range a]at h;cases h;exact⟨a,λy c z=>⟨z.1,by rw[z.2];exact .int _⟩⟩
  ·simp_all
 ·unfold kZ at h;show n<=i;simpa using h
noncomputable def mx(a:gx):R (fL D):=match a with
 |[.int j]=>if -(2^62)<=j/\j<2^62 then .ok (kZ 0 j.toNat)else .bad
 |_=>.bad
def nY(a:gx):R (fL D):=match a with
 |[.int i,.int j]=>if -(2^62)<=i/\i<2^62/\ -(2^62)<=j/\j<2^62 then .ok (kZ i (j - i).toNat)else .bad
 |_=>.bad
def uV{fs}(n:Gl X "range")(m:X.mg "range"=none)(o:DA X E [a] fs)(l:autoParam (starEach [a] X.env=[(false,eval a X.env)]) aZ0):DI X E J (.Call (.Name "range" p) [a] [] pos) (λd=>(fs d).bind mx):=by
 obtain⟨t,q,r,_⟩:=o;refine⟨_,JE n m q l,λs h=>r s<|Aft.mono (Aft.split h) λ{_ c} v b u g=>?_⟩;unfold mx at b;split at b
 ·rename_i j;cases g with
  |cons k i=>
   cases i;cases k;split at b
   ·rename_i z;exact⟨j,rfl,z.1,z.2,b c (.refl c) _ BH⟩
   ·exact b.elim
 ·exact b.elim
def DF{a b:f6}{fs:ip}{p g:Pos}(x:Gl X "range")(w:X.mg "range"=none)(y:DA X E [a,b] fs)(v:starEach [a,b] X.env=[(false,eval a X.env),(false,eval b X.env)])(k:starEach [b] X.env=[(false,eval b X.env)]):
    DI X E J (.Call (.Name "range" p) [a,b] [] g) (λm=>(fs m).bind nY):=by
 obtain⟨t,q,r,_⟩:=y;refine⟨_,JF x w q v k,λs h=>r s<|Aft.mono (Aft.split h) λ{_ l} B c A n=>?_⟩;unfold nY at c;split at c
 ·rename_i i j;cases n with
  |cons u d=>
   cases d with
   |cons d o=>
    cases o;cases u;cases d;split at c
    ·rename_i z;exact⟨i,j,rfl,z,c l (.refl l) _ BH⟩
    ·exact c.elim
 ·exact c.elim
variable{K:fZ}{P al:gL}{F H:Hp}{C:St}{m:Ev}
def RS.own(r:RS K P F al H C m)(y:i<m.length)(t:H p=none)(q:fX K al H vs ds):
    RS K P F (λb=>al b/\b≠p) (upd H p<|.lst vs) (C.set i<|some<|.ref p) (m.set i<|.ow ds)/\Xt al H (λb=>al b/\b≠p) (upd H p<|.lst vs):=by
 have x:Xt al H (λb=>al b/\b≠p) (upd H p<|.lst vs):=λb o _ g e=>⟨⟨g,iW e t⟩,by rw[gj<|iW e t];exact e⟩;have s:=jG (K:=K) (o:=HO.lst vs) t;have O:i<C.length:=by rw[<-r.len];exact y
 refine⟨⟨r.same.trans s,s.tt r.tt,λb g=>?_,λb g=>r.sub b g.1,r.pf,by rw[aR,aR];exact r.len,λj d h=>?_,λj A h=>?_,λj k d1 d2 b R M Q L=>?_⟩,x⟩
 ·refine⟨r.fresh b<|s.free g,λz=>?_⟩;rw[z,hD]at g;cases g
 ·by_cases z:i=j;·subst z;rw[aD y]at h;cases h
  ·rw[aq z]at h;obtain⟨v,n,u⟩:=r.sh j d h;exact⟨v,by rw[aq z];exact n,u.mv x⟩
 ·by_cases z:i=j
  ·subst z;rw[aD y]at h;cases h;exact⟨p,vs,aD O,hD,q.mv x,λw=>w.2 rfl,r.same.free t⟩
  ·rw[aq z]at h;obtain⟨a,I,n,u,U,T,S⟩:=r.ow j A h;exact⟨a,I,by rw[aq z];exact n,s.at' _ _ kq u,U.mv x,λw=>T w.1,S⟩
 ·have c:∀(l:Nat) (d:gx),(m.set i<|.ow ds)[l]?=some (.ow d)->(C.set i<|some<|.ref p)[l]?=some (some<|.ref b)->(l=i/\b=p)\/(l≠i/\b≠p/\m[l]?=some (.ow d)/\C[l]?=some (some<|.ref b)):=by
   intro l d z1 z2;by_cases z:i=l;·simp_all
   ·rw[aq z]at z1 z2;right;obtain⟨a,I,n,u,_⟩:=r.ow l d z1;rw[n]at z2;cases z2;exact⟨λw=>z w.symm,iW u t,z1,n⟩
  rcases c j d1 R Q with⟨N,G⟩|⟨N,G,a3,Z⟩
  ·rcases c k d2 M L with⟨b1,_⟩|⟨_,B,_⟩;·rw[N,b1]
   ·exact absurd G B
  ·rcases c k d2 M L with⟨_,B⟩|⟨_,_,Y,V⟩;·exact absurd B G
   ·exact r.apart j k d1 d2 b a3 Y Z V
def RS.write(r:RS K P F al H C m)(h:m[i]?=some (.ow yH))(e:C[i]?=some (some<|.ref a))(q:fX K al H vs ds):
    RS K P F al (upd H a<|.lst vs) C (m.set i<|.ow ds)/\Xt al H al (upd H a<|.lst vs):=by
 obtain⟨a',V,M,L,Z,I,u⟩:=r.ow i yH h;rw[e]at M;cases M;have G:i<m.length:=(au.mp h).1;have ne:∀b,al b->b≠a:=λb g z=>I (z▸g);have x:Xt al H al (upd H a (.lst vs)):=λb o _ g w=>⟨g,by rw[gj (ne b g)];exact w⟩;have up:iG K H->iG K (upd H a (.lst vs)):=λt=>t.upd (λY w=>by rw[L]at w;cases w) λq w=>by rw[L]at w;unfold iX at w;cases w
 refine⟨⟨⟨λb o n w=>?_,λb w=>?_,λt=>up<|r.same.tt t⟩,up r.tt,λb g=>?_,r.sub,r.pf,by rw[aR];exact r.len,λj d z=>?_,λj d z=>?_,λj k d1 d2 b z1 z2 O N=>?_⟩,x⟩;·rw[gj<|iW w u];exact r.same.at' b o n w
 ·by_cases z:b=a;·rw[z];exact u
  ·rw[gj z]at w;exact r.same.fr b w
 ·by_cases z:b=a;·rw[z,hD]at g;cases g
  ·rw[gj z]at g;exact r.fresh b g
 ·by_cases y:i=j;·subst y;rw[aD G]at z;cases z
  ·rw[aq y]at z;obtain⟨v,p,s⟩:=r.sh j d z;exact⟨v,p,s.mv x⟩
 ·by_cases y:i=j
  ·subst y;rw[aD G]at z;cases z;exact⟨a,vs,e,hD,q.mv x,I,u⟩
  ·rw[aq y]at z;obtain⟨b,Q,p,s,T,S,R⟩:=r.ow j d z;refine⟨b,Q,p,?_,T.mv x,S,R⟩;rw[gj];exact s;intro c;subst c;exact y (r.apart i j yH d b h z e p)
 ·have back:∀(l:Nat) (d:gx),(m.set i<|.ow ds)[l]?=some (.ow d)->∃U,m[l]?=some (.ow U):=λl d w=>by
   grind
  obtain⟨B,p⟩:=back j d1 z1;obtain⟨A,s⟩:=back k d2 z2;exact r.apart j k B A b p s O N
def oT(i:Nat)(m:Ev):Ev:=match m[i]? with
 |some (.ow a)=>m.set i (gR a)
 |_=>m
def RS.freeze(r:RS K P F al H C m)(i):∃g,RS K P F g H C (oT i m)/\Xt al H g H:=by
 unfold oT;split
 ·rename_i p h;obtain⟨a,O,s,N,M,Q,L⟩:=r.ow i p h;have q:i<m.length:=(au.mp h).1;have x:Xt al H (λb=>al b\/b=a) H:=.sub λ_ z=>.inl z;refine⟨λb=>al b\/b=a,⟨r.same,r.tt,λb c=>.inl (r.fresh b c),λb c=>?_,r.pf,by rw[aR];exact r.len,λj d z=>?_,λj d z=>?_,λj k d1 d2 b z1 z2 u t=>?_⟩,x⟩
  ·rcases c with c|rfl;·exact r.sub b c
   ·exact r.pf _ L
  ·by_cases y:i=j
   ·subst y;rw[aD q]at z;cases z;exact⟨.ref a,s,.lst (.inl ⟨.inr rfl,.inl N⟩)<|M.mv x⟩
   ·rw[aq y]at z;obtain⟨v,n,o⟩:=r.sh j d z;exact⟨v,n,o.mv x⟩
  ·by_cases y:i=j;·subst y;rw[aD q]at z;cases z
   ·rw[aq y]at z;obtain⟨b,A,n,o,I,G,B⟩:=r.ow j d z;refine⟨b,A,n,o,I.mv x,λw=>?_,B⟩;rcases w with w|rfl;·exact G w
    ·exact y (r.apart i j p d b h z s n)
  ·have back:∀(l:Nat) (d:gx),(m.set i<|gR p)[l]?=some (.ow d)->m[l]?=some (.ow d):=λl d w=>by
    grind
   exact r.apart j k d1 d2 b (back j d1 z1) (back k d2 z2) u t
 ·exact⟨al,r,.refl⟩
variable{I:fL Stmt}{M:Stmt}{g:gK}{L:ip}{B:Pos}
def D8(i)(h:kA X E I g):kA X E I (λm=>g (oT i m)):=by obtain⟨t,p,r⟩:=h;refine⟨t,p,λs h=>?_⟩;obtain⟨b,a,x⟩:=s.freeze i;exact r a (ir.ext h x)
def HP{b:Type}(r:R b):R b:=match r with
 |.ok a=>.ok a
 |_=>.bad
def wV(i:Nat)(f:ip):gK:=λm=>toS (f m) λa=>if i<m.length then .nx (m.set i<|.ow a)else .bad
def D1(i)(v:X.N.Nodup)(o:X.N[i]?=some x)(k:Loc X.env.scope x)(u:DN X E e L)(l:autoParam (swapsWith e (some<|.Name x pos') B.line X.env=pure false) aZ0)(hf:autoParam (X.hf x) aZ3):
    DS X E (.Assign [.Name x pos'] e B) (wV i L):=by
 obtain⟨t,p,r⟩:=u;refine⟨_,wF v o k p l hf,λ{_ _ _ _ _ m _} s h=>r s<|Aft.mono (ir.mr h s) λd a q w n j=>?_⟩;by_cases z:i<m.length
 ·simp only[z,cz]at a;obtain⟨c,b⟩:=(s.grow d).own z n j;exact a _ _ _ b c
 ·simp only[z,bU]at a;exact a.elim
def mX(i:Nat)(f:gf):gK:=λm=>match m[i]? with
 |some (.ow a)=>toS (f m) λd=>if a.length<sizeLine then .nx (m.set i<|.ow<|a++[d])else .bad
 |_=>.bad
def DZ(i){o:f6}{b:Pos}(Z:PlainAttrs "list")(k:Slot "list" "append" "list.append")(w:typeOf (.builtin "list.append")=pure (.type "method_descriptor"))(he:DE X E e f)
 (hN:autoParam (X.N[i]?=some x) aZ0)(hv:autoParam (lM X.env.scope x) aZ4)(hd:autoParam (i8 x) aZ1)
 (A:autoParam ((x==("__classdict__":fR))=false) aZ1)
 (j:autoParam (attributeBase (.Name x ji) "append" X.env (eval (.Name x ji) X.env)=eval (.Name x ji) X.env) aZ0)
 (l:autoParam (((backTo jx (starEach [e] X.env)).all (λx=>!x.1)&&(backToKw jx (keywordEach [] X.env)).all (λx=>x.1.isSome)
 &&decide ([e].length+([]:fL Keyword).length+(if([]:fL Keyword).isEmpty then 0 else 1)<30))=true) aZ0)
 (d:autoParam ((b.endLine==jx.line)=true) aZ0)(N:autoParam (X.se e []) aZ0)(c:autoParam ((backTo jx<|starEach [] X.env).any (·.1)=false) aZ0)
 (y:autoParam (swapsWith (.Call (.Attribute (.Name x ji) "append" b) [e] [] jx) none B.line X.env=pure false) aZ0):
   DS X E (.Expr (.Call (.Attribute (.Name x ji) "append" b) [e] [] jx) B) (mX i f):=by
  obtain⟨t,p,r⟩:=he;refine⟨_,td (wx Z k w wc (nX hN hv hd A) (mU p mV N) j l d N c) y,λs h=>?_⟩;unfold mX at h;split at h
  ·rename_i T q;obtain⟨a,G,S,Q,O,e4,e5⟩:=s.ow i T q;refine⟨_,S,.inl ⟨rfl,G,.inl<|.inl Q⟩,r s<|Aft.mono (ir.mr h s) λu n v Y=>?_⟩;by_cases z:T.length<sizeLine
   ·simp only[z,cz]at n;obtain⟨V,U⟩:=(s.grow u).write q S ((O.up u).append (.cons Y .nil));exact⟨a,G,v,rfl,rfl,u.at' _ _ kq Q,by rw[O.length];exact z,n _ _ _ U V⟩
   ·simp only[z,bU]at n;exact n.elim
  ·exact h.elim
end
variable{P:gy}{w:gs}{K:fZ}{mg:g5}{base:gc}{N:gu}{qual:fR}{scope:Scope}{f:fO}{cd:fN}{A:gz}{outer:iK}{s:fS}{H:Hp}{E:XK}
def D3(g:ExcBaseFacts B newId Gf qj)(q:W.excIn K C qj newId=true)
 (d:Gl (gW (gJ P w) P w K mg base N qual scope f cd A outer s H E) x)(c:mg x=some (.ref C))(a:autoParam (i8 x) aZ1):
   DS (gW (gJ P w) P w K mg base N qual scope f cd A outer s H E) E (.Raise (some<|.Call (.Name x np) [] [] jx) none pos) (λ_=>.ex C [] []):=
  ⟨_,JT g q d c a,λ{k l al e i j D} b h=>h none e b.same ⟨rfl,rfl⟩⟩
end P2
namespace L2
open PySem PySem.Spec PyProof.Rows
variable{f:gy}{w:gs}{A:gz}{R:Result->fS->Prop}{s:fS}
def Df(I:Nat->fS->Prop)
 (q:∀n s,I n s->wpAny (model f w) A (pyNext it) (λr b=>match r with
 |none=>R (.ok .next) b
 |some v=>wpAny (model f w) A (letOwnedTupleGo target it v) (λ_ l=>wpAny (model f w) A (assign target env v) (λ_ k=>
 wpAny (model f w) A (forIn ifs true λc r=>if r=true then do let ok<-isTrue c env (eval c env);pure (ForInStep.yield ok)else pure (ForInStep.yield r)) (λok a=>
 if ok=true then wpAny (model f w) A (eval elt env) (λx j=>
 wpAny (model f w) A (call (.builtin "list.append") [acc,x]) (λ_ i=>∃m,m<n/\I m i) (notedBy (model f w) A env λe d=>R (.error e) d) j) (notedBy (model f w) A env λe d=>R (.error e) d) a
 else∃m,m<n/\I m a) (notedBy (model f w) A env λe d=>R (.error e) d) k) (notedBy (model f w) A env λe d=>R (.error e) d) l) (notedBy (model f w) A env λe d=>R (.error e) d) b) (notedBy (model f w) A env λe d=>R (.error e) d) s)
 (n)(h:I n s):codeAny (model f w) A (.compLoop (.ListComp elt [⟨target,iter,ifs,0⟩] scope pos) 0 it acc env) R s:=by
  refine codeAny_loop rfl I (λn s B=>?_) n h;refine wpAny_noted ?_;refine aa (dN<|aa<|aU (q n s B) (λr b p=>?_) λ_ _ g=>g);cases r with
  |none=>exact aG p
  |some v=>
   refine aa (aU p (λ_ l z=>?_) λ_ _ g=>g);refine aa (aU z (λ_ k y=>aa<|aU y (λok a o=>?_) λ_ _ g=>g) λ_ _ g=>g);cases ok with
   |false=>exact aG ⟨rfl,o⟩
   |true=>exact aa (aa<|aU o (λx j u=>aa<|aU u (λ_ i t=>aG<|aG ⟨rfl,t⟩) λ_ _ g=>g) λ_ _ g=>g)
abbrev _root_.qa:=fL (fR×fO)
abbrev Cx.comp(X:Cx)(scope:Scope)(N':gu)(cl:qa)(fp:kc)(s3:fS)(H3:Hp)(C:fO):Cx:=
 {X with N:=N',s₀:=s3,H₀:=H3,env:=compEnvC scope cl C X.env,outer:=X.stack,ex:=fp,fn:=λ_=>false,pn:=[],xe:=λ_ _=>False}
inductive kz(X:Cx)(cl:List<|Str×Addr):List Str->List Nat->Prop
 |nil:kz X cl [] []
 |cons {x:Str} {i:Nat} {N:List Str} {ci:List Nat}:X.N[i]?=some x->(X.env.kindOf x=some .cell\/X.env.kindOf x=some .free)->cl.lookup x=X.env.cells.lookup x->kz X cl N ci->kz X cl (x::N) (i::ci)
def kz.length{cl}(h:kz X cl N ci):N.length=ci.length:=by
 induction h with
 |nil=>rfl
 |cons _ _ _ _ a=>simp_all
def kz.get{X}{cl}{a}(h:kz X cl N a){k:Nat}(e:N[k]?=some x):∃i,a[k]?=some i/\X.N[i]?=some x/\(X.env.kindOf x=some .cell\/X.env.kindOf x=some .free)/\cl.lookup x=X.env.cells.lookup x:=by
 induction h generalizing k with
 |nil=>simp at e
 |cons g d c _ b=>grind
def kh(b:Nat)(c:jQ)(a:St):St:=List.replicate b none++c.map λi=>(a[i]?).getD none
def yd(h:(kh tn ci σ)[j]?=some (some v)):∃k i,j=tn+k/\ci[k]?=some i/\σ[i]?=some (some v):=by
 unfold kh at h
 grind
def uM:(kh tn ci σ).length=tn+ci.length:=by unfold kh;simp
def xg(y:TI)(h:Nat)(n:jQ)(g:TG)(B:TT)(z:TE):TE:=λk H Q=>y k H λJ p=>∀l,p l=none->∃W:Nat->Nat->Hp->Prop,(∃m,W 0 m<|upd p l<|.lst [])/\∀i m d,W i m d->(∀b o u,upd p l (.lst []) b=some (.j4 o u)->d b=some (.j4 o u))->
 (J.stop i d/\Q (.ref l) d)\/(J.go i d/\∀x t,J.tN i d x t->g x (kh h n k) t λa C=>(a.length=h+n.length/\∀j,h<=j->a[j]?=(kh h n k)[j]?)/\B a C λb r=>if b=true then z a r λv q=>∃c,q l=some (.lst c)/\c.length<sizeLine/\∃e,e<m/\W (i+1) e (upd q l<|.lst<|c++[v])else∃e,e<m/\W (i+1) e r)
def PF(X:Cx)(b:iL)(t:TT):Prop:=
 ∀(a:gp) (s:fS) (σ:St) (H:Hp) (Q:mI),Inv X a σ H s->t σ H Q->
  wpAny (model X.prog X.w) X.A (forIn b true λc r=>if r=true then do let ok<-isTrue c X.env (eval c X.env);pure (ForInStep.yield ok)else pure (ForInStep.yield r)) (TP X a σ Q) X.xe s
def Jy:PF X [] (λ_ H Q=>Q true H):=λ_ _ _ H _ I h=>wpAny_tests_nil ⟨H,I,h⟩
def Jz{t}(h:PT X c t):PF X [c] t:=λa s b H Q I d=>wpAny_tests_one (h a s b H Q I d)
variable{X:Cx}{O B L:f6}{K:iL}{scope:Scope}{M:Pos}{P:TI}{g:TG}{tc:TT}{te:TE}{cl:qa}{F:Nat}{Nt Nc:gu}{E:jQ}
def yn{s}{H:Hp}{RR:fN->fO->Result->fS->Prop}(I:Inv X pins σ H s)(hc:X.calm=true)(hi:PI X O B P)
 (hg:∀D s3 H3 C,PG (X.comp scope (Nt++Nc) cl D s3 H3 C) O g)(hf:∀D s3 H3 C,PF (X.comp scope (Nt++Nc) cl D s3 H3 C) K tc)(he:∀D s3 H3 C,PE (X.comp scope (Nt++Nc) cl D s3 H3 C) L te)
 (hkind:scope.kind=.function)(hcell:nV scope)(qs:kz X cl Nc E)(si:Nt.length=F)
 (V:∀x c,cl.lookup x=some c->X.env.cells.lookup x=some c)(hhas:∀x,((relabel scope X.env).names.lookup x=some .cell\/(relabel scope X.env).names.lookup x=some .free)->∃c,cl.lookup x=some c)
 (su:∀x∈Nc,(relabel scope X.env).names.lookup x=some .cell\/(relabel scope X.env).names.lookup x=some .free)
 (h:xg P F E g tc te σ H Q)
 (fin:∀l C H' s' m,s'.heap.Ns C m->Inv X pins σ H' s'->H' C=none->C≠X.env.locals->X.s₀.heap.objs.size<=C->(∀x c,X.env.cells.lookup x=some c->c≠C)->(∀p∈X.pn++pins,p.1≠C)->Q (.ref l) H'->RR (.ref l) C (.ok .next) s'):
   wpAny (model X.prog X.w) X.A (eval B X.env) (λx N3=>wpAny (model X.prog X.w) X.A (pyIter x) (λit N4=>wpAny (model X.prog X.w) X.A (newList []) (λacc N5=>wpAny (model X.prog X.w) X.A (newFunctionEnv scope X.env.globals cl [] X.env.qual none .none<|some X.env) (λyh N6=>codeAny (model X.prog X.w) X.A (.compStart (.ListComp L [⟨O,B,K,0⟩] scope M) 0 it acc {yh with scope:=relabel scope X.env}) (RR acc yh.locals) N6) X.xe N5) X.xe N4) X.xe N3) X.xe s:=by
  refine gi (hi pins s σ H _ I h) λv s1 h1=>gi h1 λGp s2 h2=>?_;obtain⟨it,D,tk,J,H2,rfl,I2,T,pC,f2,hW⟩:=h2;refine bX (wpAny_newFunctionEnv hcell (by intro y hy;simp at hy) (λh₁ S N=>?_) hkind);dsimp only at S N⊢;generalize hG:s2.heap.push {cls:=.type "list",dict:=none,data:=.seq ([]:fL fN).toArray}=G at S N⊢;have E2:G.objs.size=s2.heap.objs.size+1:=by rw[<-hG,Heap.size_push]
  have hl:H2 s2.heap.objs.size=none:=I2.hok.fresh (af _);obtain⟨W,⟨m0,w0⟩,turn⟩:=hW _ hl;have t:Inv X pins σ (upd H2 s2.heap.objs.size<|.lst []) {s2 with heap:=G}:=by rw[<-hG];exact I2.laid (t':=s2.toks) (λb u e=>ag _ e) (af _) ⟨bo _,[],0,.nil,aQ _ rfl⟩
  generalize ze:upd H2 s2.heap.objs.size (.lst [])=H3 at w0 t;have keep:∀b o,G.get? b=some o->h₁.get? b=some o:=λb o e=>N.extBut b o (aZ<|Heap.lt_size e) (ag _ e);have zX:∀b∈D,b<s2.heap.objs.size:=λb a=>by obtain⟨o,e,_⟩:=T.obj 0 _ pC b a;exact Heap.lt_size e
  have yX:∀b∈D,b≠G.objs.size:=λb a=>aZ (ao (zX b a)<|by rw[E2];exact cJ _);have yY:∀b∈D,H3 b=none:=λb a=>by rw[<-ze,gj<|aZ<|zX b a];exact(f2 b a).1
  let X':=X.comp scope (Nt++Nc) cl D {s2 with heap:=G} H3 G.objs.size
  have ok':X'.Ok:=by
   refine⟨t.ok.mod,(by show(relabel scope X.env).kind=_;exact hkind),t.ok.glob,t.ok.blt,af _,λx y c e1 e2=>t.ok.inj x y c (V x c e1)<|V y c e2,λx hx=>hhas x hx,(λx c z=>nomatch z),t.ok.hd,t.ok.frames,.inl rfl,λb a=>⟨yX b a,λx c e=>(f2 b a).2.2.2.2.1 x c (V x c e)⟩,λb o e=>t.bs b o e,aC t.ok.nJ t.sz,λb o e a=>?_,λb a z=>?_,t.stack,t.xb⟩
   ·rcases(f2 b a).2.2.2.1 with z|z;·exact t.ok.we b o e z
    ·exact absurd (ao (Heap.lt_size e)<|aC t.ok.nJ z) (bA _)
   ·rcases aH.mp (t.tA b z)with e|e;·exact(f2 b a).2.1 e
    ·exact(f2 b a).2.2.1 e
  have J0:Inv X' [] (kh F E σ) H3 {s2 with heap:=h₁,toks:=s2.toks+0}:=by
   refine⟨ok',rfl,t.bare,Un.kept keep,⟨_,S,λi x v e1 e2 e3=>?_⟩,λx c e=>?_,t.hok.fresh<|af _,λx c e=>t.mi x c<|V x c e,λp hp=>absurd (show p∈([]:fL<|fO×iC)from hp)<|by simp,t.hok.kept keep,?_⟩
   ·obtain⟨k,j,rfl,q1,q2⟩:=yd e2;have rS:Nc[k]?=some x:=by
     rw[av<|by simp_all]at e1;rw[show F+k - Nt.length=k by simp_all]at e1;exact e1
    obtain⟨j',z1,z2,z3,z4⟩:=qs.get rS;rw[q1]at z1;cases z1;obtain⟨m,hn,FR⟩:=t.loc;obtain⟨u,r,lk⟩:=FR j x v z2 q2 (z3.elim (λz=>.inr<|.inl z) λz=>.inr<|.inr z);refine⟨u,r,.inr ⟨su x<|cx rS,?_⟩⟩;rcases lk with⟨k1,_⟩|⟨_,c,k2,k3⟩;·rcases z3 with z|z<;>(rw[k1]at z;cases z)
    ·refine⟨c,z4.trans k2,?_⟩;obtain⟨o,ho,hd⟩:=k3;exact⟨o,keep _ _ ho,hd⟩
   ·obtain⟨v,o,ho,hd⟩:=t.cell x c (V x c e);exact⟨v,o,keep _ _ ho,hd⟩
   ·rw[uM];show _=(Nt++Nc).length;rw[aj,qs.length,si]
  have stat:∀{Y:gp} {H':Hp},(∀p∈Y,p.1∉D)->(∀b∈D,H' b=none)->∀b∈D,jO X' Y H' b:=λ{Y H'} hp hn b a=>⟨hn b a,yX b a,λz=>ok'.vb b a z,.inl a,λx c e=>(ok'.Eu b a).2 x c e,λp FZ z=>hp p ((bf.mp FZ).elim (λw=>absurd (show p∈([]:fL<|fO×iC)from w)<|by simp) λw=>w)<|by rw[z];exact a⟩
  have mk:∀(s5:fS),(∀i H5,Inv X' [] (kh F E σ) H5 s5->tk i s5.heap->(∀b∈D,H5 b=none)->∀n,W i n H5->
   codeAny (model X.prog X.w) X.A (.compLoop (.ListComp L [⟨O,B,K,0⟩] scope M) 0 (.ref it) (.ref s2.heap.objs.size) (compEnvC scope cl G.objs.size X.env)) (RR (.ref s2.heap.objs.size) G.objs.size) s5):=by
   intro s5 i5 H5 J5 Be vf n5 w5;refine Df (λn s'=>∃i H',Inv X' [] (kh F E σ) H' s'/\tk i s'.heap/\(∀b∈D,H' b=none)/\W i n H') ?_ n5 ⟨i5,H5,J5,Be,vf,w5⟩
   rintro n s6 ⟨i,H6,J6,Bf,yZ,w6⟩
   rcases turn i n H6 w6 (λb o u e=>J6.base.mj b o u (show H3 b=_ by rw[<-ze];exact e))with⟨stop,q⟩|⟨go,step⟩
   ·refine aU (T.done X' rfl rfl rfl hc i [] s6 _ H6 (λ_ _=>False) J6 (stat (by simp) yZ) Bf stop) (λr s7 ⟨hr,J7⟩=>?_) λ_ _ z=>z.elim;subst hr;obtain⟨m,hn,_⟩:=J7.loc;have IX:Inv X pins σ H6 s7:=t.yc (ch:=D) J7.os J7.base J7.hok J7.bare λb a=>⟨(f2 b a).2.2.2.1,(f2 b a).2.1,(f2 b a).2.2.2.2.1,(f2 b a).2.2.2.2.2⟩;refine fin _ _ H6 s7 m hn IX J7.free (dq t.lt) (aC t.sz<|af _) (λx c e z=>?_) (λp hp z=>?_) q
    ·obtain⟨v,o,ho,_⟩:=t.cell x c e;exact absurd (Heap.lt_size ho) (by rw[z];exact bA _)
    ·exact absurd (Heap.lt_size (t.pin p hp).1) (by rw[z];exact bA _)
   ·refine aU (T.item X' rfl rfl rfl hc i [] s6 _ H6 (λ_ _=>False) J6 (stat (by simp) yZ) Bf go) (λr s7 ⟨u,hr,h7⟩=>?_) λ_ _ z=>z.elim;subst hr;refine aU h7 (λ_ s8 Z=>?_) λ_ _ z=>z.elim;obtain⟨x,H8,J8,r8,y8,xa,EK⟩:=Z;have Ci:=J8.pinned (stat (by simp) EK) (T.obj _ _ xa)
    have back:∀{U:St} {H9:Hp} {s9:fS},Inv X' ([]++qH D s8.heap) U H9 s9->U.length=F+E.length->(∀j,F<=j->U[j]?=(kh F E σ)[j]?)->∀m',m'<n->W (i+1) m' H9->
     ∃m,m<n/\∃i H',Inv X' [] (kh F E σ) H' s9/\tk i s9.heap/\(∀b∈D,H' b=none)/\W i m H':=λ{U H9 s9} J9 FL FH m' hm w9=>by
     refine⟨m',hm,i+1,H9,J9.qQ.weak (by rw[uM,FL]) λj v e=>?_,T.keep _ _ _ xa λb a o e=>(J9.pin (b,o)<|aM _<|aM _<|o7 a e).1,λb a=>?_,w9⟩
     ·obtain⟨k,_,rfl,_⟩:=yd e;rw[FH _<|by simp];exact e
     ·obtain⟨o,e,d⟩:=T.obj _ _ xa b a;exact(J9.pin (b,o)<|aM _<|aM _<|o7 a e).2.1
    refine aU (hg D _ _ _ _ s8 _ H8 x u _ Ci r8<|step x H8 y8) (λ_ s9 Z=>?_) λ_ _ z=>z.elim;obtain⟨U,H9,J9,⟨l9,k9⟩,q9⟩:=Z;refine aU (hf D _ _ _ _ s9 U H9 _ J9 q9) (λb jt ⟨Cc,xC,ti⟩=>?_) λ_ _ z=>z.elim;cases b with
    |false=>rw[ah aN]at ti⊢;obtain⟨m',hm,O6⟩:=ti;exact back xC l9 k9 m' hm O6
    |true=>rw[ae rfl]at ti⊢;refine aU (he D _ _ _ _ jt U Cc _ xC ti) (λy i9 Z=>?_) λ_ _ z=>z.elim;obtain⟨v,Cd,Cf,MP,acc,rT,Py,m',hm,O7⟩:=Z;refine aU (wc (X:=X') _ i9 U Cd (.ref _) [v] (.ref _) [y] (λ_ xA=>W (i+1) m' xA) Cf rfl (.cons MP .nil) ⟨_,acc,v,rfl,rfl,rT,Py,O7⟩) (λ_ Np Z=>?_) λ_ _ z=>z.elim;obtain⟨_,xA,Cg,_,O8⟩:=Z;exact back Cg l9 k9 m' hm O8
  have w8:tk 0 h₁:=T.keep _ _ _ pC λb _ o e=>keep b o (by rw[<-hG];exact ag _ e);exact codeAny_compStart_list (mk _ 0 H3 J0 w8 yY m0 w0) (T.self _ 0 _ _ _ w8<|mk _ 0 H3 J0 w8 yY m0 w0)
def Jl(V:X.calm=true)(S:PI X O B P)(T:∀v k y C,PG (X.comp scope (Nt++Nc) cl v k y C) O g)(hf:∀v k y C,PF (X.comp scope (Nt++Nc) cl v k y C) K tc)(U:∀v k y C,PE (X.comp scope (Nt++Nc) cl v k y C) L te)
 (i:closureFor scope X.env=pure cl)(a:scope.kind=.function)(j:nV scope)(d:o6 scope)(u:kz X cl Nc E)(z:Nt.length=F)
 (p:∀x c,cl.lookup x=some c->X.env.cells.lookup x=some c)(t:∀x,((relabel scope X.env).names.lookup x=some .cell\/(relabel scope X.env).names.lookup x=some .free)->∃c,cl.lookup x=some c)
 (n:∀x∈Nc,(relabel scope X.env).names.lookup x=some .cell\/(relabel scope X.env).names.lookup x=some .free)
 (J:∀x,foldedSetIterable B X.env x=pure x):PE X (.ListComp L [⟨O,B,K,0⟩] scope M) (xg P F E g tc te):=by intro D s σ H Q I h;refine wpAny_comprehension_free (use:=none) rfl J i a d (yn (Nt:=Nt) (Nc:=Nc) I V S T hf U a j u z p t n h ?_);intro l C H' G m N I' h1 h2 h3 Z Y q;exact⟨m,N,λEX r=>⟨.ref l,H',I'.turned (t':=G.toks) (λb o W e=>r.extBut b o W e) h1 h2 (.inr h3) Z Y,rfl,q⟩⟩
def ui(X:Cx)(e:f6)(t:TE):Prop:=
 ∀(i:Nat) (x:fR) (pos':Pos) (_:X.N.Nodup) (_:X.N[i]?=some x) (_:Loc X.env.scope x) (_:X.hf x) (pins:gp) (s:fS) (σ:St) (H:Hp) (Q:VK),Inv X pins σ H s->t σ H Q->
  wpAny (model X.prog X.w) X.A (evalThenUse e X.env<|assign (.Name x pos') X.env) (λ_ b=>∃v a,Inv X pins (σ.set i<|some v) a b/\Q v a) X.xe s
def JZ(hc:X.calm=true)(hi:PI X O B P)(hg:∀J p N C,PG (X.comp scope (Nt++Nc) cl J p N C) O g)(hf:∀J p N C,PF (X.comp scope (Nt++Nc) cl J p N C) K tc)(he:∀J p N C,PE (X.comp scope (Nt++Nc) cl J p N C) L te)
    (k:closureFor scope X.env=pure cl)(d:scope.kind=.function)(n:nV scope)(j:o6 scope)(G:kz X cl Nc E)(U:Nt.length=F)
    (y:∀x c,cl.lookup x=some c->X.env.cells.lookup x=some c)(D:∀x,((relabel scope X.env).names.lookup x=some .cell\/(relabel scope X.env).names.lookup x=some .free)->∃c,cl.lookup x=some c)
    (u:∀x∈Nc,(relabel scope X.env).names.lookup x=some .cell\/(relabel scope X.env).names.lookup x=some .free)
    (hs:∀x,foldedSetIterable B X.env x=pure x):ui X (.ListComp L [⟨O,B,K,0⟩] scope M) (xg P F E g tc te):=by
 intro i x t hN S hx T V s σ H Q I h;unfold evalThenUse;refine aa (wpAny_comprehension_free (use:=some<|assign (.Name x t) X.env) rfl hs k d j<|yn (Nt:=Nt) (Nc:=Nc) I hc hi hg hf he d n G U y D u h ?_);intro l C H' s' m hn I' h1 h2 h3 h4 h5 q;refine aa (dN<|fA<|Bh I' hN S hx (v:=.ref l) rfl (λZ I2 W=>?_) T);obtain⟨a,Y,W⟩:=W;have ne:C≠a:=by grind
 obtain⟨o,es,ep,e,r⟩:=hn;refine⟨m,⟨o,es,ep,(Y.2 C ne).trans e,r⟩,λEX z=>aG ⟨.ref l,H',I2.turned (t':=Z.toks) (λb o hb e=>z.extBut b o hb e) h1 h2 (.inr h3) h4 h5,q⟩⟩
def AH{te}(l:X.N.Nodup)(j:X.N[i]?=some x)(c:Loc X.env.scope x)(k:ui X e te)(d:swapsWith e (some<|.Name x pos') NR.line X.env=pure true)(hf:X.hf x):
    PS X (.Assign [.Name x pos'] e NR) (xf te<|vg i):=by
 intro a s b H D I h;rw[exec_Assign_Name_used _ _ _ _ d];refine aa (dN<|aa<|gi (k i x pos' l j c hf a s b H _ I h) λ_ o ⟨v,n,m,q⟩=>aG ⟨_,n,m,q⟩)
end L2
namespace P2
open PySem L2 PyProof.Rows
abbrev bits(x:Int):Nat:=Builtin.Int.intBits x
def sV(h:iz X f r)(e:iz X f r'):iz X f (λx y H Q=>r x y H Q\/r' x y H Q):=
 λa s b H x y v u Q I d c q=>q.elim (h a s b H x y v u Q I d c) (e a s b H x y v u Q I d c)
def iB(C:Int->Int->f5)(g:Int->Int->D)(x y:D):R D:=match x,y with
 |.int i,.int j=>if C i j=true then .ok (g i j)else .bad
 |_,_=>.bad
section
variable{X:Cx}{E:XK}
def wu{g}(c:iz X op<|rI C g)(e:∀i j,Cb i j=true->C i j)(d:∀i j K al H,Rep K al H (g i j)<|gd i j):i7 X E op (iB Cb gd):=by
 refine⟨_,c,λ{_ H _ _ _ _ _} fr b a h=>?_⟩;unfold iB at h;split at h
 ·rename_i i j;cases b;cases a;split at h
  ·rename_i z;exact⟨i,j,rfl,rfl,e i j z,h H (.refl H) _<|d i j _ _ _⟩
  ·exact h.elim
 ·exact h.elim
def sU{g}(c:iz X op<|mW g)(d:∀i j K al H,Rep K al H (g i j)<|gd i j):i7 X E op (iB (λ_ _=>true) gd):=by
 refine⟨_,c,λ{_ H _ _ _ _ _} fr b a h=>?_⟩;unfold iB at h;split at h
 ·rename_i i j;cases b;cases a;exact⟨i,j,rfl,rfl,h H (.refl H) _<|d i j _ _ _⟩
 ·exact h.elim
def jW:D->D->R D:=iB (λ_ _=>true) λi j=>.int (i - j)
def IL:i7 X E (binaryOp .Sub) jW:=sU IK λ_ _ _ _ _=>.int _
def wg(i j:Int):f5:=decide (bits i<=1048576)&&decide (bits j<=1048576)
def o9(_ j:Int):f5:=decide (j≠0)&&decide (bits j<=9000)
def Ag(i j:Int):f5:=decide (0<=j)&&decide (j<=1000000)&&decide (i.natAbs<2^64)
def hJ:D->D->R D:=iB o9 λi j=>.int (i.fdiv j)
def Iq:i7 X E (binaryOp .FloorDiv) hJ:=wu Ip (λi j h=>by unfold o9 at h;simpa [xv]using h) λ_ _ _ _ _=>.int _
def gA:D->D->R D:=iB (λ_ j=>decide<|j≠0) λi j=>.int (i.fmod j)
def IA:i7 X E (binaryOp .Mod) gA:=wu IB (λi j h=>by simpa using h) λ_ _ _ _ _=>.int _
def sZ:D->D->R D:=iB Ag λi j=>.int (i^j.toNat)
def IJ:i7 X E (binaryOp .Pow) sZ:=wu II (λi j h=>by unfold Ag at h;simp only[aK,aY]at h;exact⟨h.1.1,h.1.2,h.2⟩) λ_ _ _ _ _=>.int _
def kX:D->D->R D:=iB (λ_ _=>true) λi j=>.bl (decide<|i<j)
def sD:D->D->R D:=iB (λ_ _=>true) λi j=>.bl (decide<|i<=j)
def lU:D->D->R D:=iB (λ_ _=>true) λi j=>.bl (decide<|j<i)
def EU:D->D->R D:=iB (λ_ _=>true) λi j=>.bl (decide<|j<=i)
def Iz:i7 X E (compareOp .Lt) kX:=sU Iy λ_ _ _ _ _=>.bl _
def Iw:i7 X E (compareOp .LtE) sD:=sU Iv λ_ _ _ _ _=>.bl _
def Iu:i7 X E (compareOp .Gt) lU:=sU Ir λ_ _ _ _ _=>.bl _
def sO:D->R D
 |.int i=>.ok (.int<|-i)
 |_=>.bad
def O1:xO X E (unaryOp .USub) sO:=by
 refine⟨_,O0,λ{_ H _ _ _} fr a h=>?_⟩;unfold sO at h;split at h;·cases a;exact⟨_,rfl,h H (.refl H) _<|.int _⟩
 ·exact h.elim
def rn(K:fZ)(H:Hp)(a:fO)(b:fL V):Prop:=Rd H a (.lst b)\/KL K a b
def rn.is{s}(I:Inv X pins σ H s)(h:rn X.K H a xs):∃b n,Vals xs b/\s.heap.get? a=some {cls:=.type "list",data:=.seq b.toArray n}:=by
 rcases h with h|⟨b,n,h1,h2,h3⟩
 ·obtain⟨z,b,n,r,e⟩:=h.ok I.hok
  grind
 ·exact⟨b,n,h3,I.jR a _ h1⟩
def MT(K:fZ):R2:=λx y H Q=>∃l b c a,x=.ref l/\y=.ref b/\rn K H l c/\rn K H b a/\c.length+a.length<=sizeLine/\∀p,H p=none->Q (.ref p) (upd H p<|.lst<|c++a)
def Av:iz X (binaryOp .Add) (MT X.K):=by
 intro f s t H x y v u Q I i g h;obtain⟨l,b,z,w,rfl,rfl,k,m,B,q⟩:=h;cases i;cases g;obtain⟨c,n,r,e⟩:=k.is I;obtain⟨a,A,d,p⟩:=m.is I;have C:=r.length;have j:=d.length;refine PySem.P.add_list e p ?_ (by rw[az,az];simp_all);have o:c.toArray++a.toArray=(c++a).toArray:=by simp
 rw[o];exact⟨.ref _,_,I.G8 (t':=s.toks) (r.append d)<|by rw[aj];omega,rfl,q _ I.fresh⟩
noncomputable def gM:D->D->R D
 |.int i,.int j=>.ok (.int<|i+j)
 |.str i,.str j=>if i.length+j.length<=sizeLine then .ok (.str<|i++j)else .bad
 |.lst xs,.lst a=>if xs.length+a.length<=sizeLine then .ok (.lst<|xs++a)else .bad
 |_,_=>.bad
def Ii:i7 X E (binaryOp .Add) gM:=by
 refine⟨_,sV Ih<|sV Ij Av,λ{_ H _ _ _ _ _} fr d c h=>?_⟩;unfold gM at h;split at h;·cases d;cases c;exact .inl ⟨_,_,rfl,rfl,h H (.refl H) _<|.int _⟩
 ·cases d;cases c;split at h;·rename_i z;exact .inr (.inl ⟨_,_,rfl,rfl,z,h H (.refl H) _<|.str _⟩)
  ·exact h.elim
 ·split at h
  ·rename_i z;obtain⟨a,j,rfl,l,g⟩:=d.sG;obtain⟨b,i,rfl,k,f⟩:=c.sG;exact .inr (.inr ⟨a,b,j,i,rfl,rfl,l,k,by rw[g.length,f.length];exact z,λp e=>h _ (jG e) _ ((g.append f).mR e (fr p e))⟩)
  ·exact h.elim
 ·exact h.elim
noncomputable def wh(x:fR)(n:Int):f5:=!(decide (n< -(2^63:Int))||decide (n≥2^63))&&decide (x.length*n.toNat<=1000000)&&decide (x.length<=1000000)&&decide (n<=1000000)
def IF:iz X (binaryOp .Mult) (λx y H Q=>∃i n,x=.str i/\y=.int n/\MulOk i n/\Q (.str<|Txt.mul i n) H):=by intro a s f H x y v u Q I d c h;obtain⟨i,j,rfl,rfl,e,q⟩:=h;obtain⟨t,rfl⟩:=d;obtain⟨g,rfl⟩:=c;exact SB.mul e λb k=>⟨.str _,H,I.tok _,⟨_,rfl⟩,q⟩
def mulOk_of{n}(h:wh x n=true):MulOk x n:=by
 unfold wh at h;simp only[aK,aY,ey]at h;obtain⟨⟨⟨a,g⟩,f⟩,e⟩:=h;refine⟨a,λd _=>?_,λ_ _=>?_⟩
 ·have c:(1:Int)<=n:=by simp_all
  have b:(1000000:Int)<=(2^63 - 1)/n:=by
   apply(eZ<|by walk_at "l").mpr
   lia
  lia
 ·have:sizeLine=16777216:=sizeLine_eq;unfold Builtin.Str.tooLong;simp only[dj]
  lia
noncomputable def qp:D->D->fU f5
 |.non,.non=>some true
 |.int i,.int j=>some (decide<|i=j)
 |.str i,.str j=>some (decide<|i=j)
 |.bl i,.bl j=>some (decide<|i=j)
 |.non,.int _=>some false
 |.int _,.non=>some false
 |.non,.str _=>some false
 |.str _,.non=>some false
 |.non,.bl _=>some false
 |.bl _,.non=>some false
 |.int _,.str _=>some false
 |.str _,.int _=>some false
 |_,_=>none
def iN(x y:D):R D:=match qp x y with
 |some b=>.ok (.bl b)
 |none=>.bad
def mS(x y:D):R D:=match qp x y with
 |some b=>.ok (.bl<|!b)
 |none=>.bad
def yV{K}(c:Rep K al H x dx)(a:Rep K al H y dy)(h:qp dx dy=some b):wW x y=true/\decide (x=y)=b:=by
 have f:∀{x i},Rep K al H x (.int i)->x=.int i:=λr=>by cases r;rfl
 have d:∀{x i},Rep K al H x (.str i)->x=.str i:=λr=>by cases r;rfl
 have g:∀{x i},Rep K al H x (.bl i)->x=.bl i:=λr=>by cases r;rfl
 have e:∀{x},Rep K al H x .non->x=.non:=λr=>by cases r;rfl
 cases dx<;>first|(cases h;done)|(cases dy<;>first|(cases h;done)|((first|cases f c|cases d c|cases g c|cases e c)<;>(first|cases f a|cases d a|cases g a|cases e a)<;>(cases h;exact⟨rfl,by simp⟩)))
def Io:i7 X E (compareOp .Eq) iN:=by
 refine⟨_,Il,λ{_ H _ _ g f _} fr c a h=>?_⟩;unfold iN at h;cases q:qp g f with
 |none=>rw[q]at h;exact h.elim
 |some b=>rw[q]at h;obtain⟨e,d⟩:=yV c a q;exact⟨e,by rw[d];exact h H (.refl H) _ (.bl b)⟩
def IH:i7 X E (compareOp .NotEq) mS:=by
 refine⟨_,IG,λ{_ H _ _ g f _} fr c a h=>?_⟩;unfold mS at h;cases q:qp g f with
 |none=>rw[q]at h;exact h.elim
 |some b=>rw[q]at h;obtain⟨e,d⟩:=yV c a q;exact⟨e,by rw[d];exact h H (.refl H) _ (.bl _)⟩
def Ge:D->D->R D
 |.str i,.str j=>.ok (.bl<|Txt.contains j i)
 |_,_=>.bad
def fX.gO{K}(r:fX K al H vs ds){d}(h:L2.gO ds i=some d):∃v,L2.gO vs i=some v/\Rep K al H v d:=by
 unfold L2.gO at h⊢;rw[r.length];cases q:lW ds.length i with
 |none=>simp_all
 |some j=>rw[q]at h;exact r.getD h
noncomputable def gD:D->D->R D
 |.lst ds,.int i=>match L2.gO ds i with
  |some d=>.ok d
  |none=>.bad
 |.tup ds,.int i=>match L2.gO ds i with
  |some d=>.ok d
  |none=>.bad
 |.str z,.int i=>if z.length<=sizeLine then(match L2.gO z.cps.toList i with
  |some c=>.ok (.str ⟨#[c]⟩)
  |none=>.bad)else .bad
 |_,_=>.bad
abbrev gP(i:Nat)(k:Int):gf:=d2 gD (dV i) (fQ k)
def zJ:xB X E gD:=by
 refine⟨_,Gv,λ{_ H _ _ _ _ _} fr f e h=>?_⟩;unfold gD at h;split at h
 ·rename_i m i;cases e;cases q:L2.gO m i with
  |none=>rw[q]at h;exact h.elim
  |some d=>rw[q]at h;obtain⟨a,b,rfl,j,g⟩:=f.lZ;obtain⟨v,l,k⟩:=fX.gO g q;exact .inl ⟨a,b,i,v,rfl,rfl,j,l,h H (.refl H) _ k⟩
 ·rename_i m i;cases e;cases q:L2.gO m i with
  |none=>rw[q]at h;exact h.elim
  |some d=>rw[q]at h;obtain⟨a,b,rfl,j,g⟩:=f.l5;obtain⟨v,l,k⟩:=fX.gO g q;exact .inr (.inl ⟨a,b,i,v,rfl,rfl,j,l,h H (.refl H) _ k⟩)
 ·rename_i z i;cases f;cases e;split at h
  ·rename_i n;cases q:L2.gO z.cps.toList i with
   |none=>rw[q]at h;exact h.elim
   |some c=>rw[q]at h;exact .inr (.inr ⟨z,i,c,rfl,rfl,n,q,h H (.refl H) _<|.str _⟩)
  ·exact h.elim
 ·exact h.elim
def uT(i){x:fR}{k j}{p c b}(e:X.N[i]?=some x)(hv:lM X.env.scope x)(d:(x==("__debug__":fR))=false)(a:(x==("__classdict__":fR))=false):DE X E (.Subscript (.Name x p) (.Constant (.int k) j c) b) (gP i k):=yt zJ (kT i e hv d a) rN
def M1:V->fU Int->fU Int->Hp->VK->Prop:=λx lo a H Q=>∃z,x=.str z/\z.length<=sizeLine/\Q (.str<|Txt.slice z lo a) H
def NH:ma X M1:=by
 intro m s w H x v A y lo C B Q I n r p g h;obtain⟨z,rfl,a,q⟩:=h;obtain⟨t,rfl⟩:=n;refine⟨"str",_,PySem.F.slot_str_getitem.lookup,typeIs_str s z t,?_⟩;obtain⟨o,d,c,b⟩:=r;cases p with
 |none=>
  cases g with
  |none=>exact cC (l:=none) (u:=none) (st:=none) ⟨o,d,c,b⟩ rfl (dX ⟨aC (fb z none none) a,λe k=>⟨.str _,H,I.tok _,⟨_,rfl⟩,q⟩⟩)
  |int j u=>exact cC (l:=none) (u:=some (j,u)) (st:=none) ⟨o,d,c,b⟩ rfl (dX ⟨aC (fb z none<|some j) a,λe k=>⟨.str _,H,I.tok _,⟨_,rfl⟩,q⟩⟩)
 |int i f=>
  cases g with
  |none=>exact cC (l:=some (i,f)) (u:=none) (st:=none) ⟨o,d,c,b⟩ rfl (dX ⟨aC (fb z (some i) none) a,λe k=>⟨.str _,H,I.tok _,⟨_,rfl⟩,q⟩⟩)
  |int j u=>exact cC (l:=some (i,f)) (u:=some (j,u)) (st:=none) ⟨o,d,c,b⟩ rfl (dX ⟨aC (fb z (some i)<|some j) a,λe k=>⟨.str _,H,I.tok _,⟨_,rfl⟩,q⟩⟩)
def cutD(a:gx)(lo b:kQ):fL D:=(a.drop<|HT.gw a.length 0 lo).take (HT.gw a.length a.length b - HT.gw a.length 0 lo)
def fX.cut{K}(r:fX K al H vs ds)(lo hi):fX K al H (mO vs lo hi) (cutD ds lo hi):=by unfold mO cutD;rw[r.length];exact(r.drop _).take _
def qM:D->fU Int->fU Int->R D
 |.lst ds,lo,a=>.ok (.lst<|cutD ds lo a)
 |.str z,lo,a=>if z.length<=sizeLine then .ok (.str<|Txt.slice z lo a)else .bad
 |_,_,_=>.bad
def ND:uj X E qM:=by
 refine⟨_,NG.or NH,λ{_ H _ _ lo f _} fr c h=>?_⟩;unfold qM at h;split at h
 ·obtain⟨a,d,rfl,i,g⟩:=c.lZ;exact .inl ⟨a,d,rfl,i,λp b=>h _ (jG b) _<|(g.cut lo f).mR b (fr p b)⟩
 ·cases c;split at h;·rename_i e;exact .inr ⟨_,rfl,e,h H (.refl H) _<|.str _⟩
  ·exact h.elim
 ·exact h.elim
noncomputable def jr:gk
 |[.str z]=>if z.length<=sizeLine then .ok (.int z.length)else .bad
 |[.lst ds]=>.ok (.int ds.length)
 |[.tup ds]=>.ok (.int ds.length)
 |_=>.bad
def fX.one{K d}(r:fX K al H vs [d]):∃v,vs=[v]/\Rep K al H v d:=by
 cases r with
 |cons a b=>cases b;exact⟨_,rfl,a⟩
def fX.two{K d}(r:fX K al H vs [d,e]):∃v u,vs=[v,u]/\Rep K al H v d/\Rep K al H u e:=by
 cases r with
 |cons a b=>obtain⟨u,rfl,q⟩:=fX.one b;exact⟨_,_,rfl,a,q⟩
def CV:nu X E (.builtin "len") jr:=by
 refine⟨_,CY.or CW,λ{_ H _ _ _} fr r h=>?_⟩;unfold jr at h;split at h
 ·obtain⟨v,rfl,q⟩:=fX.one r;cases q;split at h;·rename_i e;exact .inl ⟨_,rfl,e,h H (.refl H) _<|.int _⟩
  ·exact h.elim
 ·obtain⟨v,rfl,q⟩:=fX.one r;obtain⟨a,b,rfl,d,c⟩:=q.lZ;exact .inr ⟨a,b,rfl,.inl d,by rw[c.length];exact h H (.refl H) _ (.int _)⟩
 ·obtain⟨v,rfl,q⟩:=fX.one r;obtain⟨a,b,rfl,d,c⟩:=q.l5;exact .inr ⟨a,b,rfl,.inr d,by rw[c.length];exact h H (.refl H) _ (.int _)⟩
 ·exact h.elim
noncomputable def oB:gk
 |[.int i]=>.ok (.int<|if i<0 then -i else i)
 |_=>.bad
def CP:nu X E (.builtin "abs") oB:=by
 refine⟨_,CO,λ{_ H _ _ _} fr r h=>?_⟩;unfold oB at h;split at h
 ·obtain⟨v,rfl,q⟩:=fX.one r;cases q;exact⟨_,rfl,h H (.refl H) _<|.int _⟩
 ·exact h.elim
noncomputable def HC:gk
 |[.int i,.int j]=>.ok (.int<|if j>i then j else i)
 |_=>.bad
noncomputable def intD:gk
 |[.str z]=>match PySem.intText? z with
  |some n=>if z.length<=640 then .ok (.int n)else .bad
  |none=>.bad
 |_=>.bad
def qk:fL D->fU (fL f5)
 |[]=>some []
 |.bl b::r=>(qk r).map (b:: ·)
 |_=>none
def Cy:gk
 |[.lst ds]=>match qk ds with
  |some bs=>.ok (.bl<|bs.all id)
  |none=>.bad
 |_=>.bad
def CB:gk
 |[.lst ds]=>match qk ds with
  |some bs=>.ok (.bl<|bs.any id)
  |none=>.bad
 |_=>.bad
def NZ:D->gk
 |.str i,[.str j]=>.ok (.bl<|Txt.startswith i j)
 |_,_=>.bad
noncomputable def Qa:D->gk
 |.str z,[.int i]=>if PadOk i=true then .ok (.str<|Txt.zfill z i)else .bad
 |_,_=>.bad
noncomputable def EC:D->R D
 |.str z=>if z.length<=sizeLine then .ok (.str z)else .bad
 |.int i=>if i.natAbs.log2<1920 then .ok (.str<|toString i)else .bad
 |_=>.bad
def GA(out:fR):gf:=λ_=>if out.length<=sizeLine then .ok (.str out)else .bad
def Gz(a:gf)(r:fR->gf)(out:fR):gf:=λb=>(a b).bind λx=>match x with
 |.str y=>if(out++y).length<=sizeLine then r (out++y) b else .bad
 |_=>.bad
end
def wE(K:fZ)(E:XK)(f:gf):TE:=λc H Q=>∃P e al a,RS K P e al H c a/\Aft K al E H (f a) (λd b=>∀v,Rep K al b v d->Q v b)
def wT(K:fZ)(E:XK)(f:iM):TT:=λb H Q=>∃P c al a,RS K P c al H b a/\Aft K al E H (f a) Q
def wG(K:fZ)(l:jQ)(a:kP):TG:=λv e H Q=>∃P g al f d,RS K P g al H e f/\Rep K al H v d/\∃c,a d f=some c/\∀b,Kp l e b->RS K P g al H b c->Q b H
def DE.w{X E e f}(h:DE X E e f):PE X e (wE X.K E f):=by obtain⟨t,p,r⟩:=h;intro b s c H Q I g;obtain⟨P,j,al,i,d,a⟩:=g;exact p b s c H Q I (r d a)
def DT.w{X E e f}(h:DT X E e f):PT X e (wT X.K E f):=by obtain⟨t,p,r⟩:=h;intro b s c H Q I g;obtain⟨P,j,al,i,d,a⟩:=g;exact p b s c H Q I (r d a)
def DG.w{X c l a}(h:DG X c l a):PG X c (wG X.K l a):=by obtain⟨t,p,r⟩:=h;intro b s e H v u Q I g j;obtain⟨P,m,al,k,d,f,i,a⟩:=j;exact p b s e H v u Q I g (r f i a)
def nA(X:Cx)(a:iL)(f:iM):Prop:=PF X a (wT X.K (λ_ _ _=>False) f)
def uU:nA X [] (λ_=>.ok true):=λb s c H Q I h=>by obtain⟨P,f,al,d,e,a⟩:=h;exact Jy b s c H Q I (a H<|.refl H)
def DD(h:DT X (λ_ _ _=>False) c f):nA X [c] f:=Jz h.w
noncomputable def kR(b:Nat)(c:jQ)(a:Ev):Ev:=List.replicate b .no++c.map λi=>match a[i]? with
 |some (.sh d)=>.sh d
 |_=>.no
def nW{b:Type}:R b->fU b
 |.ok a=>some a
 |_=>none
def qE{b:Type}:fU b->R b
 |some a=>.ok a
 |none=>.bad
noncomputable def kj(a:kP)(c:iM)(e:gf)(f:Ev):fL D->fU (fL D)
 |[]=>some []
 |d::r=>(a d f).bind λg=>(nW<|c g).bind λb=>if b=true then(nW<|e g).bind λv=>(kj a c e f r).bind λh=>some (v::h)else kj a c e f r
def iZ(g:ip)(f:Nat)(h:jQ)(a:kP)(c:iM)(e:gf):Ev->R (fL D):=λb=>(g b).bind λd=>if d.length<=sizeLine then qE (kj a c e (kR f h b) d)else .bad
def Af{a}(h:nW r=some a):r=.ok a:=by
 cases r with
 |ok x=>cases h;rfl
 |_=>cases h
def Ni{K}(s:RS K P H0 al H1 σ ρ)(x:Xt al H1 iD H2)(g:gF K H1 H2)(fr:∀a,H2 a=none->iD a)(sub:∀a,iD a->al a)(tn ci):
    RS K al H1 iD H2 (kh tn ci σ) (kR tn ci ρ) where
 same:=g
 tt:=g.tt s.tt
 fresh:=fr
 sub:=sub
 pf:=s.fresh
 len:=by unfold kh kR;simp
 sh:=λj d h=>by
  unfold kR at h;by_cases c:j<tn;·rw[aB<|by simpa using c,bt,ae c]at h;cases h
  ·rw[av<|by simpa using c,cm,aF]at h;cases q:ci[j - tn]? with
   |none=>rw[q]at h;cases h
   |some i=>
    rw[q]at h;have f:(match ρ[i]? with|some (.sh d)=>Sl.sh d|_=>.no)=.sh d:=Option.some.inj h;cases z:ρ[i]? with
    |none=>rw[z]at f;cases f
    |some y=>
     rw[z]at f;cases y with
     |sh e=>cases f;obtain⟨v,m,l⟩:=s.sh i d z;refine⟨v,?_,l.mv x⟩;unfold kh;rw[av<|by simpa using c,cm,aF,q];show some ((σ[i]?).getD none)=_;rw[m];rfl
     |_=>cases f
 ow:=λj d h=>by
  unfold kR at h;by_cases c:j<tn;·rw[aB<|by simpa using c,bt,ae c]at h;cases h
  ·rw[av<|by simpa using c,cm,aF]at h;cases q:ci[j - tn]? with
   |none=>rw[q]at h;cases h
   |some i=>rw[q]at h;have f:(match ρ[i]? with|some (.sh d)=>Sl.sh d|_=>.no)=.ow d:=Option.some.inj h;split at f<;>cases f
 apart:=λj k d n b h _ _ _=>by
  exfalso;unfold kR at h;by_cases c:j<tn;·rw[aB<|by simpa using c,bt,ae c]at h;cases h
  ·rw[av<|by simpa using c,cm,aF]at h;cases q:ci[j - tn]? with
   |none=>rw[q]at h;cases h
   |some i=>rw[q]at h;have f:(match ρ[i]? with|some (.sh d)=>Sl.sh d|_=>.no)=.ow d:=Option.some.inj h;split at f<;>cases f
variable{X:Cx}{E:XK}{F B M:f6}{L:iL}{A:Scope}{U:Pos}{S:ip}{a:kP}{O:iM}{N:gf}{cl:qa}{tn:Nat}{Nt Nc:gu}{ci l:jQ}
structure nC(X:Cx)(E:XK)(e:f6)(f:ip):Prop where
 w_::
 o_:∃t:TE,PE X e t/\ui X e t/\
 ∀{P H0 al H σ ρ} {Q:VK},RS X.K P H0 al H σ ρ->Aft X.K al E H (f ρ) (λds H'=>∀p vs,H' p=none->fX X.K al H' vs ds->Q (.ref p) (upd H' p<|.lst vs))->t σ H Q
def nC.dn(h:nC X E e f):DN X E e f:=let⟨t,p,_,r⟩:=h;⟨t,p,r⟩
def yF(Y:X.calm=true)(hi:DI X E F B S)(hg:∀I k r C,DG (X.comp A (Nt++Nc) cl I k r C) F l a)(hl:∀j∈l,j<tn)(hf:∀I k r C,nA (X.comp A (Nt++Nc) cl I k r C) L O)
 (he:∀I k r C,DE (X.comp A (Nt++Nc) cl I k r C) (λ_ _ _=>False) M N)
 (T:closureFor A X.env=pure cl)(Q:A.kind=.function)(V:nV A)(H:o6 A)(qs:kz X cl Nc ci)(si:Nt.length=tn)
 (hsub:∀x c,cl.lookup x=some c->X.env.cells.lookup x=some c)(hhas:∀x,((relabel A X.env).names.lookup x=some .cell\/(relabel A X.env).names.lookup x=some .free)->∃c,cl.lookup x=some c)
 (su:∀x∈Nc,(relabel A X.env).names.lookup x=some .cell\/(relabel A X.env).names.lookup x=some .free)
 (hs:∀x,foldedSetIterable B X.env x=pure x):nC X E (.ListComp M [⟨F,B,L,0⟩] A U) (iZ S tn ci a O N):=by
  obtain⟨wi,pi,ri⟩:=hi;refine⟨_,Jl (te:=wE X.K (λ_ _ _=>False) N) (tc:=wT X.K (λ_ _ _=>False) O) (g:=wG X.K l a) Y pi (λI k r C=>(hg I k r C).w) hf (λI k r C=>(he I k r C).w) T Q V H qs si hsub hhas su hs,JZ (te:=wE X.K (λ_ _ _=>False) N) (tc:=wT X.K (λ_ _ _=>False) O) (g:=wG X.K l a) Y pi (λI k r C=>(hg I k r C).w) hf (λI k r C=>(he I k r C).w) T Q V H qs si hsub hhas su hs,λ{_ _ al _ _ ρ _} s h=>ri s<|Aft.mono (Aft.split h) λ{K H1} s1 h1 J wk=>?_⟩;intro p hp;by_cases hz:K.length<=sizeLine
  ·rw[ae hz]at h1;cases q:kj a O N (kR tn ci ρ) K with
   |none=>rw[q]at h1;exact h1.elim
   |some out=>
    rw[q]at h1;have s2:=s.grow s1
    let f:fO->Prop:=λb=>al b/\b≠p
    refine⟨λi m G=>∃e rest d,out=e++rest/\kj a O N (kR tn ci ρ) (K.drop i)=some rest/\G p=some (.lst d)/\fX X.K f G d e/\gF X.K H1 G/\(∀b,G b=none->f b)/\m=K.length - i/\i<=K.length/\e.length<=i,⟨_,[],out,[],rfl,q,hD,.nil,jG hp,λb W=>?_,rfl,bo _,af _⟩,?_⟩
    ·have z:b≠p:=λw=>by rw[w,hD]at W;cases W
     rw[gj z]at W;exact⟨s2.fresh b W,z⟩
    ·rintro i m G ⟨e,rest,d,e1,e2,e3,e4,Z,e6,rfl,e7,e8⟩ _
     have BJ:Xt al H1 f G:=λb o n W w=>⟨⟨W,iW w hp⟩,Z.at' _ _ n w⟩;obtain⟨w1,w2⟩:=wk f G BJ e6;by_cases hi:i<K.length
     ·right;have ed:K[i]?=some K[i]:=aL hi;obtain⟨go,yl⟩:=w1 i _ ed;refine⟨go,λx r y=>?_⟩;obtain⟨rfl,rx⟩:=yl x r y;rw[bj hi]at e2;unfold kj at e2;obtain⟨xr,a1,a2⟩:=aT.mp e2;obtain⟨b,a3,a4⟩:=aT.mp a2;refine⟨al,H1,f,kR tn ci ρ,K[i],Ni s2 BJ Z e6 (λ_ z=>z.1) tn ci,rx,xr,a1,λQ6 kp k=>⟨⟨?_,λj hj=>kp.2 j λw=>absurd (hl j w)<|by lia⟩,al,H1,f,xr,k,?_⟩⟩;·rw[kp.1,uM]
      ·rw[Af a3];intro H5 P;cases b with
       |false=>rw[ah aN]at a4⊢;exact⟨K.length - (i+1),by grind,e,rest,d,e1,a4,P.at' _ _ kq e3,e4.up P,Z.trans P,λb W=>e6 b<|P.free W,rfl,hi,by walk_at "l"⟩
       |true=>
        rw[ae rfl]at a4⊢;obtain⟨v,a5,a6⟩:=aT.mp a4;obtain⟨vs,a7,a8⟩:=aT.mp a6;cases a8;refine⟨al,H1,f,xr,k.grow P,?_⟩;rw[Af a5];intro H6 s6 u ru;have u4:=s6.at' _ _ kq (P.at' _ _ kq e3);have x6:Xt f H6 f (upd H6 p (.lst (d++[u]))):=λc o _ Y w=>⟨Y,by rw[gj Y.2];exact w⟩;refine⟨d,u4,by rw[e4.length];lia,K.length - (i+1),by grind,e++[v],vs,d++[u],by rw[e1];simp,a7,hD,((((e4.up P).up s6).append (.cons ru .nil)).mv x6),?_,λc Y=>?_,rfl,hi,by rw[aj];simp;omega⟩
        ·exact⟨λc o n w=>by
          rw[gj<|iW w hp];exact s6.at' _ _ n (P.at' _ _ n<|Z.at' _ _ n w),λc w=>by
          by_cases z:c=p;· rw[z];exact hp
          · rw[gj z]at w;exact Z.fr c (P.fr c (s6.fr c w)),λt=>(s6.tt (P.tt (Z.tt t))).upd (sH u4).1 (sH u4).2⟩
        ·have z:c≠p:=λw=>by rw[w,hD]at Y;cases Y
         rw[gj z]at Y;exact e6 c (P.free<|s6.free Y)
     ·left;have ei:i=K.length:=by lia
      rw[bu<|by simp_all]at e2;cases e2;rw[aP]at e1;subst e1;refine⟨w2 i<|by simp_all,?_⟩
      let H':Hp:=λb=>if b=p then none else G b
      have hH:upd H' p (.lst d)=G:=by
       funext b;by_cases z:b=p;·subst z;rw[hD,e3]
       ·rw[gj z];show(if b=p then none else G b)=_;rw[ah z]
      have sm:gF X.K H1 H':=⟨λb o n w=>by
       show(if b=p then none else G b)=_;rw[ah<|iW w hp];exact Z.at' _ _ n w,λb w=>by
       by_cases z:b=p;· rw[z];exact hp
       · have w':(if b=p then none else G b)=none:=w;rw[ah z]at w';exact Z.fr b w',λt=>(Z.tt t).off (sH e3).1 (sH e3).2 λb z=>by show(if b=p then none else G b)=_;rw[ah z]⟩
      rw[<-hH];refine h1 H' sm p d (by show(if p=p then none else G p)=_;rw[ae rfl]) (e4.mv λb o _ W w=>⟨W.1,?_⟩);show(if b=p then none else G b)=_;rw[ah W.2];exact w
  ·rw[ah hz]at h1;exact h1.elim
def DU(u:X.calm=true)(r:DI X E F B S)(s:∀i h m C,DG (X.comp A Nt [] i h m C) F l a)(q:∀j∈l,j<tn)(hf:∀i h m C,nA (X.comp A Nt [] i h m C) L O)
 (t:∀i h m C,DE (X.comp A Nt [] i h m C) (λ_ _ _=>False) M N)
 (b:∀y∈A.names,y.2≠.free)(g:A.kind=.function)(d:nV A)(f:o6 A)(o:Nt.length=tn)
 (p:autoParam (∀x,foldedSetIterable B X.env x=pure x) aZ2):nC X E (.ListComp M [⟨F,B,L,0⟩] A U) (iZ S tn [] a O N):=by
  have e:relabel A X.env=A:=by
   have:A.names.map (λ(n,k)=>if(k==NameKind.free&&X.env.scope.kind==.function&&X.env.kindOf n==some .cell)then(n,NameKind.cell)else(n,k))=A.names:=by
    refine map_eq_self λy v=>?_
    grind
   unfold relabel;rw[this]
  refine yF (cl:=[]) (Nc:=[]) (ci:=[]) u r (by rw[aP];exact s) q (by rw[aP];exact hf) (by rw[aP];exact t) (closureFor_none b) g d f .nil o (λx c z=>nomatch z) (λx z=>?_) (λx z=>nomatch z) p;rw[e]at z;rcases z with z|z;·exact absurd rfl (d _<|br z)
  ·exact absurd rfl (b _<|br z)
def yD(q:X.calm=true)(n:DI X E F B S)(o:∀g f h C,DG (X.comp A Nt [] g f h C) F l a)(m:∀j∈l,j<tn)(hf:∀g f h C,nA (X.comp A Nt [] g f h C) L O)
    (p:∀g f h C,DE (X.comp A Nt [] g f h C) (λ_ _ _=>False) M N)
    (d:∀y∈A.names,y.2≠.free)(c:A.kind=.function)(e:nV A)(b:o6 A)(i:Nt.length=tn)
    (k:autoParam (∀x,foldedSetIterable B X.env x=pure x) aZ2):DN X E (.ListComp M [⟨F,B,L,0⟩] A U) (iZ S tn [] a O N):=(DU q n o m hf p d c e b i k).dn
def q8(x:fR):It:=⟨λi _=>i<x.cps.size,λi H v b=>b=H/\∃c,x.cps[i]?=some c/\v=.str ⟨#[c]⟩,λi _=>x.cps.size<=i⟩
def OT{w K F}(x t it):Turn P w K F (q8 x) [it] it (λi h=>h.IsStrIter it "str_ascii_iterator" x t i) where
 mem:=by simp
 obj:=λi h g b n=>by
  have e:b=it:=by simpa using n
  subst e;obtain⟨o,e,c,d⟩:=g;exact⟨o,e,λv z=>by rw[d]at z;cases z⟩
 keep:=λi h q g k=>let⟨o,ho,r⟩:=g;⟨o,k it (by simp) o ho,r⟩
 item:=by intro X C u G f i m s Y H E I hf g y;subst C u G;obtain⟨W,V,f2,T,Q,J⟩:=hf it (by simp);have j:i<x.cps.size:=y;refine wpAny_pyNext_ascii_item g (c:=x.cps[i]) (by simp[j]) λq p Z=>?_;have I1:Inv X m Y H {s with heap:=q,toks:=s.toks+1}:=I.turned (λb o n e=>(Z.2 b n).trans e) W V T Q J;obtain⟨o,e,c,d⟩:=id p;exact⟨_,rfl,oX (s:={s with heap:=q,toks:=s.toks+1}) e c d (by decide) ⟨.str ⟨#[x.cps[i]]⟩,H,I1,⟨_,rfl⟩,⟨rfl,x.cps[i],by simp[j],rfl⟩,p,λb n=>(hf b n).1⟩⟩
 done:=by intro X C u G f i m s Y H E I hf g y;subst C u G;obtain⟨W,V,f2,T,Q,J⟩:=hf it (by simp);have j:x.cps.size<=i:=y;exact wpAny_pyNext_ascii_end (I.ok.hd f) g (by simp[j]) λq eb=>⟨rfl,I.turned (t':=s.toks) (λb o n e=>eb b o n e) W V T Q J⟩
 self:=λ_ _ _ _ _ g h=>wpAny_pyIter_striter_ascii g h
def OY{w K F}(x t it):Turn P w K F (q8 x) [it] it (λi h=>h.IsStrIter it "str_iterator" x t i) where
 mem:=by simp
 obj:=λi h g b n=>by
  have e:b=it:=by simpa using n
  subst e;obtain⟨o,e,c,d⟩:=g;exact⟨o,e,λv z=>by rw[d]at z;cases z⟩
 keep:=λi h q g k=>let⟨o,ho,r⟩:=g;⟨o,k it (by simp) o ho,r⟩
 item:=by intro X C u G f i m s Y H E I hf g y;subst C u G;obtain⟨W,V,f2,T,Q,J⟩:=hf it (by simp);have j:i<x.cps.size:=y;refine wpAny_pyNext_wide_item g (c:=x.cps[i]) (by simp[j]) λq p Z=>?_;have I1:Inv X m Y H {s with heap:=q,toks:=s.toks+1}:=I.turned (λb o n e=>(Z.2 b n).trans e) W V T Q J;obtain⟨o,e,c,d⟩:=id p;exact⟨_,rfl,oX (s:={s with heap:=q,toks:=s.toks+1}) e c d (by decide) ⟨.str ⟨#[x.cps[i]]⟩,H,I1,⟨_,rfl⟩,⟨rfl,x.cps[i],by simp[j],rfl⟩,p,λb n=>(hf b n).1⟩⟩
 done:=by intro X C u G f i m s Y H E I hf g y;subst C u G;obtain⟨W,V,f2,T,Q,J⟩:=hf it (by simp);have j:x.cps.size<=i:=y;exact wpAny_pyNext_wide_end (I.ok.hd f) g (by simp[j]) λq eb=>⟨rfl,I.turned (t':=s.toks) (λb o n e=>eb b o n e) W V T Q J⟩
 self:=λ_ _ _ _ _ g h=>wpAny_pyIter_striter_wide g h
variable{e:f6}{f:gf}
def Gb(c:TE):TI:=λb H R=>c b H λx d=>∃z,x=.str z/\R (q8 z) d
def JH{l}(u:PE X l tl):PI X F l (Gb tl):=by
 intro d s n H R I h;refine gi (u d s n H _ I h) λv c i=>?_;obtain⟨x,j,g,p,r⟩:=i;obtain⟨z,e,q⟩:=r;subst e;obtain⟨t,rfl⟩:=p;have m:∀b∈[c.heap.objs.size],jO X d j b:=λb w=>by
  have e:b=c.heap.objs.size:=by simpa using w
  subst e;exact g.nP (af _) (g.hok.fresh<|af _)
 cases k:z.cps.all (· <128)with
 |true=>refine wpAny_pyIter_ascii k ?_;exact⟨c.heap.objs.size,[c.heap.objs.size],_,_,j,rfl,g.kept (t':=c.toks) λb o e=>ag _ e,OT z t _,⟨_,aQ _ rfl,rfl,rfl⟩,m,q⟩
 |false=>refine wpAny_pyIter_wide k ?_;exact⟨c.heap.objs.size,[c.heap.objs.size],_,_,j,rfl,g.kept (t':=c.toks) λb o e=>ag _ e,OY z t _,⟨_,aQ _ rfl,rfl,rfl⟩,m,q⟩
def signs(z:fR):fL D:=z.cps.toList.map λc=>.str ⟨#[c]⟩
def Pn{K}:Wk K al H (q8 z) (signs z):=by
 intro j n x fr;refine⟨λi d h=>?_,λi h=>?_⟩
 ·unfold signs at h;rw[aF,aO]at h;cases q:z.cps[i]? with
  |none=>simp_all
  |some c=>rw[q]at h;cases h;refine⟨(bL.mp q).1,λy k w=>⟨w.1,?_⟩⟩;obtain⟨m,b,g⟩:=w.2;rw[q]at b;cases b;subst g;exact .str _
 ·unfold signs at h;show z.cps.size<=i;simpa using h
def jo(d:D):R (fL D):=match d with
 |.lst ds=>.ok ds
 |.tup ds=>.ok ds
 |.str z=>.ok (signs z)
 |_=>.bad
def rO(u:DE X E e f):DI X E F e (λj=>(f j).bind jo):=by
 obtain⟨t,p,r⟩:=u;refine⟨_,AB (AA p)<|AB (JI p)<|JH p,λ{_ _ _ _ _ j _} s h=>?_⟩
 (try dsimp only at h)
 cases q:f j with
 |bad=>rw[q]at h;exact h.elim
 |ex c x o=>rw[q]at h;exact .inl (r s<|by rw[q];exact h)
 |ok d=>
  rw[q]at h;cases d with
  |lst o=>left;refine r s ?_;rw[q];intro i g v b;obtain⟨a,k,n,m,w⟩:=b.lZ;subst n;exact⟨a,rfl,⟨k,m⟩,h i g _<|Pj b⟩
  |tup o=>right;left;refine r s ?_;rw[q];intro i g v b;obtain⟨a,k,n,m,w⟩:=b.l5;subst n;exact⟨a,rfl,⟨k,m⟩,h i g _<|Po b⟩
  |str z=>right;right;refine r s ?_;rw[q];intro i g v b;cases b;exact⟨z,rfl,h i g _ Pn⟩
  |_=>exact(h:False).elim
def tyName:D->fU String
 |.non=>some "NoneType"
 |.bl _=>some "bool"
 |.int _=>some "int"
 |.str _=>some "str"
 |.lst _=>some "list"
 |.tup _=>some "tuple"
 |_=>none
def o4:fL String:=["NoneType","bool","int","str","list","tuple"]
def GP(K):∀T∈o4,∀n∈o4,W.kitOne K (.type T) (.type n)=some (T==n||(T=="bool"&&n=="int")):=by intro T hT n b;simp only[o4,aH,c5,fJ]at hT b;rcases hT with rfl|rfl|rfl|rfl|rfl|rfl<;>rcases b with rfl|rfl|rfl|rfl|rfl|rfl<;>first|rfl|kernel_rfl
noncomputable def isD:gk
 |[d,.ty n]=>match tyName d with
  |some T=>if o4.contains n then .ok (.bl<|T==n||(T=="bool"&&n=="int"))else .bad
  |none=>.bad
 |_=>.bad
def MW(X:Cx):fL V->Hp->VK->Prop:=λd H Q=>∃x n T,d=[x,.ty n]/\o4.contains T=true/\o4.contains n=true/\
 ((x=.non/\T="NoneType")\/(∃b,x=.bl b/\T="bool")\/(∃i,x=.int i/\T="int")\/(∃z,x=.str z/\T="str")\/(∃a c,x=.ref a/\iF X.K H a c/\T="list")\/(∃a c,x=.ref a/\jC X.K H a c/\T="tuple"))/\Q (.bl<|T==n||(T=="bool"&&n=="int")) H
def CQ:jN X (.builtin "isinstance") (MW X):=by
 intro g s y H V Y Q I r h;obtain⟨x,n,T,rfl,K,J,P,q⟩:=h;obtain⟨u,c,rfl,d,G⟩:=vals2 r;cases G;have e:=GP X.K T (by simpa using K) n (by simpa using J);have fin:∀tk,EP X g y Q (.bool<|T==n||(T=="bool"&&n=="int")) {s with toks:=tk}:=λtk=>⟨.bl _,H,I.tok tk,rfl,q⟩;rcases P with⟨rfl,rfl⟩|⟨b,rfl,rfl⟩|⟨i,rfl,rfl⟩|⟨z,rfl,rfl⟩|⟨a,C,rfl,p,rfl⟩|⟨a,C,rfl,p,rfl⟩;·cases d;exact d9 W.kitx_none I.jR True.intro e (λz=>nomatch z) fin
 ·cases d;exact d9 W.kitx_bool I.jR True.intro e (λz=>nomatch z) fin
 ·obtain⟨t,rfl⟩:=d;exact d9 W.kitx_int I.jR True.intro e (λz=>nomatch z) fin
 ·obtain⟨t,rfl⟩:=d;exact d9 W.kitx_str I.jR True.intro e (λz=>nomatch z) fin
 ·cases d;obtain⟨m,_,j,_⟩:=I.list p;obtain⟨o,k,w,v,_⟩:=j;exact d9 W.kitx_list I.jR ⟨o,w,v⟩ e (λz=>nomatch z) fin
 ·cases d;obtain⟨m,_,j,_⟩:=I.tuple p;obtain⟨o,w,v,_⟩:=j;exact d9 W.kitx_tuple I.jR ⟨o,w,v⟩ e (λz=>nomatch z) fin
def CU:nu X E (.builtin "isinstance") isD:=by
 refine⟨_,CQ,λ{_ H _ _ _} fr r h=>?_⟩;unfold isD at h;split at h
 ·rename_i d n;obtain⟨v,u,rfl,q,i⟩:=fX.two r;cases i;cases e:tyName d with
  |none=>rw[e]at h;exact h.elim
  |some T=>
   rw[e]at h;dsimp only at h;split at h
   ·rename_i g;have c:=h H (.refl H) _ (.bl _);cases q with
    |non=>cases e;exact⟨_,n,_,rfl,rfl,g,.inl ⟨rfl,rfl⟩,c⟩
    |bl b=>cases e;exact⟨_,n,_,rfl,rfl,g,.inr<|.inl ⟨b,rfl,rfl⟩,c⟩
    |int b=>cases e;exact⟨_,n,_,rfl,rfl,g,.inr<|.inr<|.inl ⟨b,rfl,rfl⟩,c⟩
    |str b=>cases e;exact⟨_,n,_,rfl,rfl,g,.inr<|.inr<|.inr<|.inl ⟨b,rfl,rfl⟩,c⟩
    |lst p _=>cases e;exact⟨_,n,_,rfl,rfl,g,.inr<|.inr<|.inr<|.inr<|.inl ⟨_,_,rfl,p.elim (λz=>.inl z.2) KL.sq,rfl⟩,c⟩
    |tup p _=>cases e;exact⟨_,n,_,rfl,rfl,g,.inr<|.inr<|.inr<|.inr<|.inr ⟨_,_,rfl,p.elim (λz=>.inl<|.inl z.2) .inr,rfl⟩,c⟩
    |_=>cases e
   ·exact h.elim
 ·exact h.elim
def uF:bootBuiltins "isinstance"=some (.builtin "isinstance"):=by decide+kernel
def uG:bootBuiltins "len"=some (.builtin "len"):=by decide+kernel
def uC:bootBuiltins "abs"=some (.builtin "abs"):=by decide+kernel
def uE:bootBuiltins "int"=some (.type "int"):=by decide+kernel
def uD:bootBuiltins "bool"=some (.type "bool"):=by decide+kernel
def uJ:bootBuiltins "tuple"=some (.type "tuple"):=by decide+kernel
def uH:bootBuiltins "list"=some (.type "list"):=by decide+kernel
end P2
namespace Fx
open PySem
variable{i:gy}{w:gs}{A:gz}{E:gE}{h:gc}{g:fY GenState}{d:Drawn}{t:Nat}{l:OsState}
variable{s q:fR}{C N:fO}{bs j J:gq}{f:f5}{p:gu}{sub:gq}{I:f5}{m:fU f5}{H:iV}{F B z y v:qb}{c:String}
def Dc{o}{R:Result->fS->Prop}(r:h.get? C=some (excClassObj s q C N bs j f p sub I m H F B z y v c))(a:j.contains (.type "object")=true)
 (k:h.get? x=some o)(n:o.cls=.ref C)(u:R (.ok<|.ret<|.ref C) ⟨h,g,d,t,l⟩):
   codeAny (model i w) A (.call (.builtin "getset_descriptor.__get__") ⟨[.builtin "object.__class__",.ref x,.ref C],[]⟩) R ⟨h,g,d,t,l⟩:=by
  have e:(⟨h,g,d,t,l⟩:fS).TypeIs (.builtin "object.__class__") "getset_descriptor":=cV;have ow:".".intercalate ("object.__class__".cutAt '.').dropLast="object":=by decide+kernel
  have b:(Value.ref C::j).contains (.type<|".".intercalate ("object.__class__".cutAt '.').dropLast)=true:=by rw[ow,List.contains_cons,a,Bool.or_true]
  refine codeAny_call_builtin PySem.F.slot_gs_get.plain PySem.F.entry_gs_get (PySem.F.slot_gs_get.check _ _ _ _ _ _ _ _ e (PySem.F.args_gs_get _ _ _) ?_);repeat(any_goals(first|assumption|(with_reducible refine cW k ?_;rw[n])|(with_reducible refine wpAny_isSubtype_exc r ?_;rw[b])|wp_step))
  refine⟨Code.quiet_builtin _<|by decide+kernel,codeAny_builtin PySem.F.entry_object_class ?_⟩;repeat(any_goals(first|assumption|(with_reducible refine cW k ?_;rw[n])|wp_step))
def C9{o}{Q:Fin->fS->Prop}(r:h.get? C=some (excClassObj s q C N bs j f p sub I m H F B z y v c))(a:j.contains (.type "object")=true)
 (k:mG h C "__class__"<|some<|.builtin "object.__class__")(b:h.get? x=some o)(e:o.cls=.ref C)(u:Q (.done<|.ret<|.ref C) ⟨h,g,d,t,l⟩):
   wpAny (model i w) A (Builtin.«object.__getattribute__» ⟨[.ref x,.str "__class__" tk],[]⟩) Q E ⟨h,g,d,t,l⟩:=by
  have n:(⟨h,g,d,t,l⟩:fS).TypeIs (.builtin "object.__class__") "getset_descriptor":=cV;have K:=cV;have G:=PySem.F.slot_gs_get.lookup;have D:=PySem.F.slot_gs_set.lookup;repeat(any_goals(first|assumption|(with_reducible refine cW b ?_;rw[e])|with_reducible refine k _ _ _ _ _ _ _ _ ?_|wp_step))
  refine Dc r a b e ?_;repeat(any_goals(first|assumption|wp_step))
def C3{o}{Q:oy}(D:h.get? C=some (excClassObj s q C N bs j f p sub I m H F B z y v c))
 (b:j.contains (.type "BaseException")=true)(k:h.get? x=some o)(u:o.cls=.ref C)(n:Q () ⟨h,g,d,t,l⟩):wpAny M A (checkBuiltinCall "BaseException.__getattribute__" ⟨[.ref x,nv],[]⟩) Q E ⟨h,g,d,t,l⟩:=by
  have r:builtinKind "BaseException.__getattribute__"=some .slot:=by decide+kernel
  have a:splitId "BaseException.__getattribute__"=some ("BaseException","__getattribute__"):=by decide+kernel
  have e:(Value.ref C::j).contains (.type "BaseException")=true:=by rw[List.contains_cons,b,Bool.or_true]
  have G:=PySem.F.args_bexc_ga (.ref x) nv;simp only[checkBuiltinCall,r,a];refine aa ?_;unfold isInstance;repeat(first|(with_reducible refine cW k ?_;rw[u])|(with_reducible refine wpAny_isSubtype_exc D ?_;rw[e])|wp_step)
  exact n
def C8{o}{Q:gE}(k:h.get? C=some (excClassObj s q C N bs j f p sub I m H F B z y v c))(G:j.contains (.type "BaseException")=true)(b:j.contains (.type "object")=true)
 (D:mG h C "__getattribute__"<|some<|.builtin "BaseException.__getattribute__")(u:mG h C "__getattr__" none)(r:mG h C "__class__"<|some<|.builtin "object.__class__")(a:h.get? x=some o)(e:o.cls=.ref C)(K:Q (.ref C) ⟨h,g,d,t,l⟩):
   wpAny (model i w) A (getAttrBy (.ref x) (.str "__class__" tk) false) Q E ⟨h,g,d,t,l⟩:=by
  have n:=PySem.F.attr_ValueError;have L:=n.ga.bind (.ref x);have z2:(Value.builtin "BaseException.__getattribute__"==Value.builtin "object.__getattribute__")=false:=by decide+kernel
  have z1:(onTheHeap (Value.ref C)&&Value.builtin "BaseException.__getattribute__"==Value.builtin "object.__getattribute__")=false:=by rw[z2];rfl
  repeat(any_goals(first|assumption|(with_reducible refine cW a ?_;rw[e])|with_reducible refine D _ _ _ _ _ _ _ _ ?_|with_reducible refine u _ _ _ _ _ _ _ _ ?_|wp_step))
  refine codeAny_call_builtin n.ga.plain PySem.F.entry_bexc_ga (C3 k G a e<|C9 k b r a e ?_);repeat(any_goals(first|assumption|wp_step))
def C7{o}{Q:fU fN->fS->Prop}(D:h.get? C=some (excClassObj s q C N bs j f p sub I m H F B z y v c))(u:j.contains (.type "BaseException")=true)(a:j.contains (.type "object")=true)
 (k:mG h C "__getattribute__"<|some<|.builtin "BaseException.__getattribute__")(e:mG h C "__getattr__" none)(b:mG h C "__class__"<|some<|.builtin "object.__class__")(n:h.get? x=some o)(r:o.cls=.ref C)(G:Q (some<|.ref C) ⟨h,g,d,t+1,l⟩):
   wpAny (model i w) A (getAttr? (.ref x) "__class__") Q E ⟨h,g,d,t,l⟩:=by
  unfold getAttr? getAttrBy?;repeat(any_goals(first|assumption|with_reducible apply C8 D u a k e b n r|wp_step))
end Fx
namespace L2
open PySem PySem.Spec PyProof.Rows
structure rz(K:fZ)(C:fO):Prop where
 ob:∀h:gc,K.In h->∃nm q N bs bm Fo sn sub ab col dd k0 k1 k2 k3 k5 newId,h.get? C=some (excClassObj nm q C N bs bm Fo sn sub ab col dd k0 k1 k2 k3 k5 newId)/\bm.contains (.type "BaseException")=true/\bm.contains (.type "object")=true
 ga:W.findIn K (.ref C) "__getattribute__"=some (some<|.builtin "BaseException.__getattribute__")
 gn:W.findIn K (.ref C) "__getattr__"=some none
 cl:W.findIn K (.ref C) "__class__"=some (some<|.builtin "object.__class__")
structure xQ(K:fZ)(C:fO):Prop where
 cls:W.excIn K C [.type "ValueError",.type "Exception",.type "BaseException",.type "object"] "ValueError.__new__"=true
 kp:W.keepIn K (.ref C)=true
 ga:W.findIn K (.ref C) "__getattribute__"=some (some<|.builtin "BaseException.__getattribute__")
 gn:W.findIn K (.ref C) "__getattr__"=some none
 cl:W.findIn K (.ref C) "__class__"=some (some<|.builtin "object.__class__")
def GQ{K:fZ}{x C:fO}(c:rz K C):W.KitX K (.ref x) (.ref C) (λh=>∃o,h.get? x=some o/\o.cls=.ref C) where
 ty:=λM h k p=>by obtain⟨o,l,j⟩:=p;exact j▸(W.Looks.ld l).andThen .now
 it:=λM h k p=>by obtain⟨v,q,N,bs,I,a,r,sub,J,f,V,H,G,F,D,B,y,b,_⟩:=c.ob h k;intro A' Q' E' Y P O;unfold isType loadHead;exact aa (wpAny_loadPart (P _ _ b)<|aG O)
 ne:=λh L V R n X k i=>by obtain⟨v,q,N,bs,I,a,r,sub,J,f,m,H,G,F,D,B,y,b,_⟩:=c.ob h k;refine Bool.eq_false_iff.mpr λz=>?_;have e:C=L:=Value.ref.inj (eY.mp z);subst e;have z:=a9 Obj.cls (Option.some.inj<|b.symm.trans i);have z2:Value.type "type"=Value.type "tuple":=z;exact absurd (Value.type.inj z2) (by decide)
 ca:=λ{u w A E Q s} k p S=>by obtain⟨o,l,j⟩:=p;obtain⟨v,q,N,bs,I,a,r,sub,J,f,m,H,G,F,D,B,y,b,U,T⟩:=c.ob _ k;obtain⟨h,g,d,t,Z⟩:=s;exact Fx.C7 b U T (xh k c.ga) (xh k c.gn) (xh k c.cl) l j S
variable{X:Cx}
def CS:jN X (.builtin "isinstance") (λg H Q=>∃a c d f u b,g=[.ref a,f]/\H a=some (rV a c d)/\rz X.K c/\(∀z,RelV f z->z=u)/\W.kitOne X.K (.ref c) u=some b/\Q (.bl b) H):=by intro i s v H g x Q I r h;obtain⟨a,c,d,f,u,b,rfl,o,j,un,e,q⟩:=h;obtain⟨y,k,rfl,m,l⟩:=vals2 r;cases un k l;cases m;obtain⟨⟨n,w,t,p,B,A⟩,_,_⟩:=I.hok a _ o;exact d9 (GQ j) I.jR ⟨n,t,p⟩ e (λz=>nomatch z) λtk=>⟨.bl b,H,I.tok tk,rfl,q⟩
end L2
namespace P2
open PySem L2 PySem.Spec
open PyProof.Rows hiding St
section
variable{X:Cx}{E:XK}{x:fR}{j:Pos}
def C1(h:jN X f r)(g:jN X f r'):jN X f (λb H Q=>r b H Q\/r' b H Q):=
 λa s c H b d Q I e q=>q.elim (h a s c H b d Q I e) (g a s c H b d Q I e)
def yk:D->fU fN
 |.ref C=>some (.ref C)
 |.ty T=>some (.type T)
 |_=>none
noncomputable def km(q:fO->fN->fU f5)(a:gx):R D:=match a with
 |[.exc c _ _,d]=>(match(yk d).bind (q c)with
  |some b=>.ok (.bl b)
  |none=>.bad)
 |a=>isD a
def q5(K:fZ)(q:fO->fN->fU f5):Prop:=∀c u b,q c u=some b->rz K c/\W.kitOne K (.ref c) u=some b
def CT(o:q5 X.K q):nu X E (.builtin "isinstance") (km q):=by
 obtain⟨B,t,s⟩:=CU (X:=X) (E:=E);refine⟨_,C1 CS t,λ{al H A K Q} fr r h=>?_⟩;unfold km at h;split at h
 ·rename_i c I J d;obtain⟨v,u,rfl,p,e⟩:=fX.two r;left;cases z:(yk d).bind (q c)with
  |none=>rw[z]at h;exact h.elim
  |some b=>
   rw[z]at h;have n:=h H (.refl H) _ (.bl _);obtain⟨w,z1,z2⟩:=aT.mp z;obtain⟨k,m⟩:=o _ _ _ z2;have f:∃a g,v=.ref a/\H a=some (rV a c g):=by
    cases p with
    |exc l e G F D=>exact⟨_,_,rfl,e⟩
    |yO l e=>exact⟨_,_,rfl,e⟩
   obtain⟨a,g,rfl,f⟩:=f;refine⟨a,c,g,u,w,b,rfl,f,k,λy i=>?_,m,n⟩;cases e with
   |ref C=>cases z1;exact i
   |ty T=>cases z1;exact i
   |_=>cases z1
 ·exact .inr (s fr r h)
mutual
def j7:D->fU PyData
 |.non=>some .none
 |.bl b=>some (.bool b)
 |.int i=>some (.int i)
 |.str z=>some (.str z)
 |.tup ds=>(js ds).map .tuple
 |.lst ds=>(js ds).map .list
 |_=>none
def js:fL D->fU (fL PyData)
 |[]=>some []
 |d::a=>(j7 d).bind λp=>(js a).map (p:: ·)
end
def AW{s}(I:Inv X pins σ H s){v d u p}(r:Rep X.K al H v d):RelV v u->j7 d=some p->∃f,Reads s.heap u p f:=by
 revert u p;refine Rep.rec (motive_1:=λv d _=>∀{u p},RelV v u->j7 d=some p->∃f,Reads s.heap u p f) (motive_2:=λg j _=>∀{k h},Vals g k->js j=some h->∃f,ReadsAll s.heap k h f) ?_ ?_ ?_ ?_ ?_ ?_ ?_ ?_ ?_ ?_ ?_ ?_ r;·intro u p r e;cases r;cases e;exact⟨_,.none⟩
 ·intro b u p r e;cases r;cases e;exact⟨_,.bool _⟩
 ·intro b u p r e;obtain⟨t,rfl⟩:=r;cases e;exact⟨_,.int _ _⟩
 ·intro b u p r e;obtain⟨t,rfl⟩:=r;cases e;exact⟨_,.str _ _⟩
 ·intro b u p r e;cases e
 ·intro b u p r e;cases e
 ·intro a g j z _ A u p r e;cases r;have D:(js _).map PyData.tuple=some _:=e;obtain⟨h,i,rfl⟩:=aA.mp D;have l:jC X.K H _ g:=z.elim (λz=>.inl<|.inl z.2) .inr;obtain⟨q,m,⟨o,C,B,n,E⟩,_⟩:=I.tuple l;obtain⟨f,w⟩:=A m i;exact⟨f,reads_tuple_at C B E<|by simpa using w⟩
 ·intro a g j z _ A u p r e;cases r;have D:(js _).map PyData.list=some _:=e;obtain⟨h,i,rfl⟩:=aA.mp D;have l:iF X.K H _ g:=z.elim (λz=>.inl z.2) KL.sq;obtain⟨q,m,⟨o,n,C,B,E,L⟩,_⟩:=I.list l;obtain⟨f,w⟩:=A m i;exact⟨_,reads_list_at C B L<|by simpa using w⟩
 ·intro a c Q P g j _ _ _ _ _ _ u p r e;cases e
 ·intro a c _ _ u p r e;cases e
 ·intro k h r e;cases r;cases e;exact⟨_,.nil⟩
 ·intro v d g j _ _ y x k h r e;cases r with
  |cons K J=>obtain⟨O,i,N⟩:=aT.mp e;obtain⟨h,M,rfl⟩:=aA.mp N;obtain⟨f,G⟩:=y K i;obtain⟨bs,F⟩:=x J M;exact⟨_,.cons G F⟩
noncomputable def mh(a b:D):fU f5:=(j7 a).bind λp=>(j7 b).bind λq=>if(SeqAt.shaped p&&SeqAt.shaped q)=true then some (PyData.eqv p q)else none
def oP(a b:D):R D:=match mh a b with
 |some r=>.ok (.bl r)
 |none=>.bad
def kY(a b:D):R D:=match mh a b with
 |some r=>.ok (.bl<|!r)
 |none=>.bad
def yN{c:gp}{g:L2.St}{H:Hp}{s:fS}(I:Inv X c g H s){al:gL}{x y:V}{a b:D}{u v:fN}{r:f5}(m:Rep X.K al H x a)(l:Rep X.K al H y b)(k:RelV x u)(j:RelV y v)(e:mh a b=some r):
    ∃p q f bs,Reads s.heap u p f/\Reads s.heap v q bs/\SeqAt.shaped p=true/\SeqAt.shaped q=true/\PyData.eqv p q=r:=by
 obtain⟨p,t,o⟩:=aT.mp e;obtain⟨q,n,d⟩:=aT.mp o;split at d
 ·rename_i z;rw[aK]at z;obtain⟨f,i⟩:=AW I m k t;obtain⟨bs,h⟩:=AW I l j n;exact⟨p,q,f,bs,i,h,z.1,z.2,Option.some.inj d⟩
 ·cases d
def Im(n:X.A.units+64<cLine):i7 X E (compareOp .Eq) oP:=by
 refine⟨λx y H Q=>∃al a b r,Rep X.K al H x a/\Rep X.K al H y b/\mh a b=some r/\Q (.bl r) H,λe s A H x y v u Q I d c h=>?_,λ{al H _ _ g f _} fr d c h=>?_⟩
 ·obtain⟨al,a,b,r,z,w,t,o⟩:=h;obtain⟨p,q,B,bs,m,l,k,j,i⟩:=yN I z w d c t;exact eq_dataH m l k j n (by rw[i];exact⟨.bl r,H,I,rfl,o⟩)
 ·unfold oP at h;cases q:mh g f with
  |none=>rw[q]at h;exact h.elim
  |some r=>rw[q]at h;exact⟨al,g,f,r,d,c,q,h H (.refl H) _<|.bl r⟩
def wt(n:X.A.units+64<cLine):i7 X E (compareOp .NotEq) kY:=by
 refine⟨λx y H Q=>∃al a b r,Rep X.K al H x a/\Rep X.K al H y b/\mh a b=some r/\Q (.bl<|!r) H,λe s A H x y v u Q I d c h=>?_,λ{al H _ _ g f _} fr d c h=>?_⟩
 ·obtain⟨al,a,b,r,z,w,t,o⟩:=h;obtain⟨p,q,B,bs,m,l,k,j,i⟩:=yN I z w d c t;exact ne_dataH m l k j n (by rw[i];exact⟨.bl (!r),H,I,rfl,o⟩)
 ·unfold kY at h;cases q:mh g f with
  |none=>rw[q]at h;exact h.elim
  |some r=>rw[q]at h;exact⟨al,g,f,r,d,c,q,h H (.refl H) _<|.bl<|!r⟩
end
open PySem.Builtin PySem.Builtin.Str
open PyProof.Rows hiding St
variable{X:Cx}{E:XK}
def sR(i j:Int):f5:=(decide (-18446744073709551616<i)&&decide (i<18446744073709551616))||(decide (-18446744073709551616<j)&&decide (j<18446744073709551616))
end P2
namespace P2
open PySem L2 PySem.Spec
open PyProof.Rows hiding St
def mw{g:ky}{P:gy}{w:gs}{K:fZ}{h:g5}{d:gc}{N:gu}{c:fR}{b:Scope}{f:fO}{i:fN}{A:gz}{a:iK}{s:fS}{H:Hp}{E:XK}:
    PassesOwn (model (gW g P w K h d N c b f i A a s H E).prog (gW g P w K h d N c b f i A a s H E).w) (gW g P w K h d N c b f i A a s H E).A (gW g P w K h d N c b f i A a s H E).env (gW g P w K h d N c b f i A a s H E).xe:=
 PassesOwn.leaving (Q₁:=λe j=>g a H s E e j)
variable{X:Cx}{E:XK}{e a b c I:f6}{f F C B:gf}{l:Pos}
def pA(i j:Nat)(fs:ip):gK:=λd=>toS (fs d) λg=>match g with
 |[d1,d2]=>if i<d.length/\j<d.length then .nx ((d.set i<|.sh d1).set j (.sh d2))else .bad
 |_=>.bad
def D2{fs pt m n d}(i j)(L:X.calm=true)(N:X.N.Nodup)(K:X.N[i]?=some x)(J:X.N[j]?=some y)(o:i≠j)
 (D:X.env.scope.names.lookup x=some .local)(A:X.env.scope.names.lookup y=some .local)(M:DA X E [a,b] fs)
 (G:autoParam (swappedStores [.Tuple [.Name x px,.Name y py] m pt] (.Tuple [a,b] n d) X.env=pure (some [x,y])) aZ0)
 (H:autoParam (swapsWithSole [.Tuple [.Name x px,.Name y py] m pt] (.Tuple [a,b] n d) l.line X.env=pure false) aZ0):
   DS X E (.Assign [.Tuple [.Name x px,.Name y py] m pt] (.Tuple [a,b] n d) l) (pA i j fs):=by
  obtain⟨t,p,r,_⟩:=M;refine⟨_,JS L N K J o D A p G H,λ{_ _ al _ _ _ _} s h=>r s<|Aft.mono (ir.mr h s) λ{_ O} q g P u=>?_⟩;split at g
  ·rename_i d1 d2;cases u with
   |cons w k=>
    cases k with
    |cons k v=>
     cases v;split at g
     ·rename_i z;exact⟨_,_,rfl,g al O _ .refl (((s.grow q).set z.1 w).set (by rw[aR];exact z.2) k)⟩
     ·exact g.elim
  ·exact g.elim
def uQ(g h:mJ)(F C B:gf):gf:=λd=>(F d).bind λx=>(C d).bind λy=>(g x y).bind λz=>match z with
 |.bl true=>(B d).bind λw=>h y w
 |.bl false=>.ok (.bl false)
 |_=>.bad
def Eb{g}(M:i7 X E (compareOp op) g)(m:i7 X E (compareOp As) g')(Q:DE X E a F)(P:DE X E b C)(O:DE X E c B)
 (N:lastMarks [op,As] [b,c]=false:=by with_unfolding_all rfl):DT X E (.Compare a [op,As] [b,c] l) (b1 tB<|uQ g g' F C B):=by
  obtain⟨r1,L,d1⟩:=M;obtain⟨r2,K,d2⟩:=m;obtain⟨ta,J,A⟩:=Q;obtain⟨Z,H,y⟩:=P;obtain⟨Y,G,x⟩:=O;refine⟨_,JV L K J H G N,λs h=>A s<|Aft.mono (Aft.split<|Aft.split h) λp U v w=>y (s.grow p)<|Aft.mono (Aft.split U) λo T u r=>?_⟩;have i:=(s.grow p).grow o;refine d1 i.fresh (w.up o) r (Aft.mono (Aft.split T) λ{z t} j d V q=>?_);split at d
  ·cases q;refine⟨true,rfl,?_⟩;rw[ae rfl];exact x (i.grow j) (Aft.mono (Aft.split d) λn S wv k=>d2 ((i.grow j).grow n).fresh (r.up<|j.trans n) k (Aft.mono S λs5 R W D=>pj D R))
  ·cases q;refine⟨false,rfl,?_⟩;rw[ah<|by decide];exact pj (.bl false) (d t<|.refl t)
  ·exact d.elim
noncomputable def A6:D->D->fU f5
 |.non,.non=>some true
 |.bl a,.bl b=>some (a==b)
 |.bl _,.non=>some false
 |.int _,.non=>some false
 |.str _,.non=>some false
 |.tup _,.non=>some false
 |.lst _,.non=>some false
 |_,_=>none
def vG(x y:D):R D:=match A6 x y with
 |some b=>.ok (.bl b)
 |none=>.bad
def vI(x y:D):R D:=match A6 x y with
 |some b=>.ok (.bl<|!b)
 |none=>.bad
noncomputable def nc:D->fU Int->fU Int->R D
 |.tup ds,lo,g=>if¬(HT.gw ds.length 0 lo=0/\HT.gw ds.length ds.length g=ds.length)then .ok (.tup<|cutD ds lo g)else .bad
 |d,lo,g=>qM d lo g
def NF:uj X E nc:=by
 obtain⟨q,k,o⟩:=ND (X:=X) (E:=E);refine⟨_,NI.or k,λ{_ _ _ _ lo m _} fr g h=>?_⟩;unfold nc at h;split at h
 ·obtain⟨a,j,rfl,n,i⟩:=g.l5;split at h
  ·rename_i z;exact .inl ⟨a,j,rfl,n,by rw[i.length];exact z,λp d=>h _ (jG d) _ ((i.cut lo m).xi d (fr p d))⟩
  ·exact h.elim
 ·exact .inr (o fr g h)
def vS:gk
 |[.lst ds]=>.ok (.lst ds)
 |[.tup ds]=>.ok (.lst ds)
 |_=>.bad
def CZ:nu X E (.type "list") vS:=by
 refine⟨_,C0,λfr r h=>?_⟩;unfold vS at h;split at h
 ·obtain⟨v,rfl,q⟩:=fX.one r;obtain⟨a,g,rfl,j,i⟩:=q.lZ;exact⟨a,g,rfl,.inl j,λp d=>h _ (jG d) _<|i.mR d<|fr p d⟩
 ·obtain⟨v,rfl,q⟩:=fX.one r;obtain⟨a,g,rfl,j,i⟩:=q.l5;exact⟨a,g,rfl,.inr j,λp d=>h _ (jG d) _<|i.mR d<|fr p d⟩
 ·exact h.elim
variable{m:ip}
def D5(i)(J:X.N.Nodup)(A:X.N[i]?=some x)(w:Loc X.env.scope x)(G:nC X E e m)(y:autoParam (swapsWith e (some<|.Name x pos') l.line X.env=pure true) aZ0)(hf:autoParam (X.hf x) aZ3):
    DS X E (.Assign [.Name x pos'] e l) (iR i<|gZ m):=by
 obtain⟨t,_,p,r⟩:=G;refine⟨_,AH J A w p y hf,λ{P N al H _ d D} s h=>?_⟩;have L:ir X.K P N E D al H (toS (m d) λM=>if i<d.length then .nx (d.set i<|gR M)else .bad):=by
  unfold iR gZ at h;cases q:m d with
  |bad=>rw[q]at h;exact h.elim
  |_=>rw[q]at h;exact h
 refine r s (Aft.mono (ir.mr L s) λn g q u j v=>?_);by_cases z:i<d.length
 ·simp only[z,cz]at g;have k:=jG (K:=X.K) (o:=HO.lst u) j;exact g al _ _ (.of k) (((s.grow n).grow k).set z (v.mR j<|(s.grow n).fresh q j))
 ·simp only[z,bU]at g;exact g.elim
def uN(x y:D):R (fL D):=match x,y with
 |.lst xs,.lst d=>if xs.length+d.length<=sizeLine then .ok (xs++d)else .bad
 |_,_=>.bad
noncomputable def HD:gk
 |[.int i,.int j]=>.ok (.int<|if j<i then j else i)
 |_=>.bad
end P2
namespace TM
open PySem PySem.NumText PySem.StrLaws Builtin Builtin.Str
def oM(x:fR):fL Nat:=x.cps.toList
def ye(x y):oM (x++y)=oM x++oM y:=by show(x.cps++y.cps).toList=x.cps.toList++y.cps.toList;simp
def vR(x:fR):x.length=(oM x).length:=by simp[Str.length,oM]
def num(m:Nat):fL Nat:=(Nat.toDigits 10 m).map Char.toNat
end TM
namespace P2
open PySem L2
def size_of{n}(h:n<=1000000):n<=sizeLine:=aC h (by decide)
def bits_le{i:Int}{k}(h:i.natAbs<2^k):bits i<=k:=intBits_le_iff.mpr h
section
variable{E β:Type}{a:E}{c:fO}{v:gu}{B:gx}{k:E->RT}{h:E->R β}{l:Ev}{g u:gK}{f A C:gf}{q K:iM}{fs:ip}{i j:Int}{x y:fR}{b Y:f5}{p I:gx}{d:D}{n m:Nat}{N QF:mJ}{P:D->R D}{M:gk}{L:D->gk}
variable{t:String}{O:uq}{S Q:Ev->R (fU Int)}{U:jQ}{F:kP}{lo J:kQ}{T:fR->gf}
def AL:(R.ok a).bind h=h a:=rfl
def KA:(R.ex c v B:R E).bind h=.ex c v B:=rfl
def Kz:(R.bad:R E).bind h=.bad:=rfl
def Ms:toS (R.ok a) k=k a:=rfl
def Mt:toS (R.ex c v B:R E) k=.ex c v B:=rfl
def Mr:toS (R.bad:R E) k=.bad:=rfl
def L8:lz (.nx l) g=g l:=rfl
def L9:lz (.rt d) g=.rt d:=rfl
def Ma:lz (.ex c v B) g=.ex c v B:=rfl
def L7:lz .bad g=.bad:=rfl
def AO:turnT (.nx l) g=g l:=rfl
def Mw:turnT (.ct l) g=g l:=rfl
def Mx:turnT (.bk l) g=.nx l:=rfl
def My:turnT (.rt d) g=.rt d:=rfl
def Mu:turnT .bad g=.bad:=rfl
def Mz:turnT (.ex c v B) g=.ex c v B:=rfl
def K2:gX (.rt d)=.ok d:=rfl
def K1:gX (.nx l)=.ok .non:=rfl
def K3:gX (.ex c v B)=.ex c v B:=rfl
def LQ:HP (R.ok a)=.ok a:=rfl
def LS:nW (R.ok a)=some a:=rfl
def LR:qE (some a)=.ok a:=rfl
def L4:g7 g u l=lz (g l) u:=rfl
def LY:mZ l=.nx l:=rfl
def L3:jz f l=toS (f l) .rt:=rfl
def LV:Nr f l=toS (f l) λ_=>.nx l:=rfl
def L5:iR n f l=toS (f l) λd=>if n<l.length then .nx (l.set n<|.sh d)else .bad:=rfl
def LX:mY q g u l=toS (q l) λk=>if k=true then g l else u l:=rfl
def KI:dC d l=.ok d:=rfl
def KC:d1 P f l=(f l).bind P:=rfl
def KD:d2 N A C l=(A l).bind λx=>(C l).bind λy=>N x y:=rfl
def Ku:b1 P2.tB f l=(f l).bind P2.tB:=rfl
def Kv:b1 tT f l=(f l).bind tT:=rfl
def Kw:mL q K l=(q l).bind λc=>if c=true then K l else .ok false:=rfl
def Ky:lP q K l=(q l).bind λc=>if c=true then .ok true else K l:=rfl
def Kx:me q l=(q l).bind λc=>.ok (!c):=rfl
def KH:uP A C l=((A l).bind P2.tB).bind λc=>if c=true then C l else .ok (.bl false):=rfl
def KS:Dj A C l=((A l).bind P2.tB).bind λc=>if c=true then .ok (.bl true)else C l:=rfl
def KQ:uR A l=((A l).bind P2.tB).bind λc=>.ok (.bl<|!c):=rfl
def KN:Dh q A C l=(q l).bind λk=>if k=true then A l else C l:=rfl
def KG:dA M fs l=(fs l).bind M:=rfl
def Ke:fW l=.ok []:=rfl
def Kd:fM f fs l=(f l).bind λx=>(fs l).bind λe=>.ok (x::e):=rfl
def Ks:gZ fs l=(fs l).bind λp=>.ok (.lst p):=rfl
def KO:Di t L f fs l=(f l).bind λx=>if vA t x=true then(fs l).bind λe=>L x e else .bad:=rfl
def KU:oO O f S Q l=(f l).bind λx=>(S l).bind λi=>(Q l).bind λj=>O x i j:=rfl
def KJ:iZ fs n U F q f l=(fs l).bind λp=>if p.length<=sizeLine then qE (kj F q f (kR n U l) p)else .bad:=rfl
def LW:qK fs F g l=toS (fs l) λp=>jy F g p l:=rfl
def K7:jy F g (d::p) l=toO (F d l) λe=>turnT (g e) (jy F g p):=rfl
def Mq:toO (some a) k=k a:=rfl
def La:gV n d l=if n<l.length then some (l.set n<|.sh d)else none:=rfl
def Mj:P2.tB (.bl b)=.ok b:=rfl
def Ml:tT (.bl b)=.ok b:=rfl
def Mm:tT (.int i)=.ok (i !=0):=rfl
def Mo:tT .non=.ok false:=rfl
def Mn:tT (.lst p)=.ok (!p.isEmpty):=rfl
def Mp:tT (.tup p)=.ok (!p.isEmpty):=rfl
def Kg:gM (.int i) (.int j)=.ok (.int<|i+j):=rfl
def Kj:gM (.str x) (.str y)=if x.length+y.length<=sizeLine then .ok (.str<|x++y)else .bad:=rfl
def Kh:gM (.lst p) (.lst I)=if p.length+I.length<=sizeLine then .ok (.lst<|p++I)else .bad:=rfl
def Mi:jW (.int i) (.int j)=.ok (.int<|i - j):=rfl
def wK:hJ (.int i) (.int j)=if o9 i j=true then .ok (.int<|i.fdiv j)else .bad:=rfl
def LK:gA (.int i) (.int j)=if decide (j≠0)=true then .ok (.int<|i.fmod j)else .bad:=rfl
def LF:P2.kX (.int i) (.int j)=.ok (.bl<|decide<|i<j):=rfl
def LA:sD (.int i) (.int j)=.ok (.bl<|decide<|i<=j):=rfl
def Lc:lU (.int i) (.int j)=.ok (.bl<|decide<|j<i):=rfl
def Lb:EU (.int i) (.int j)=.ok (.bl<|decide<|j<=i):=rfl
def LP:sO (.int i)=.ok (.int<|-i):=rfl
def AM:iN (.int i) (.int j)=.ok (.bl<|decide<|i=j):=rfl
def KZ:iN (.str x) (.str y)=.ok (.bl<|decide<|x=y):=rfl
def KY:iN (.bl b) (.bl Y)=.ok (.bl<|decide<|b=Y):=rfl
def LN:mS (.int i) (.int j)=.ok (.bl<|!decide (i=j)):=rfl
def LO:mS (.str x) (.str y)=.ok (.bl<|!decide (x=y)):=rfl
def Le:Ge (.str x) (.str y)=.ok (.bl<|Txt.contains y x):=rfl
def Ls:gD (.lst p) (.int i)=match L2.gO p i with|some d=>.ok d|none=>.bad:=rfl
def Lv:gD (.tup p) (.int i)=match L2.gO p i with|some d=>.ok d|none=>.bad:=rfl
def Lu:gD (.str x) (.int i)=if x.length<=sizeLine then(match L2.gO x.cps.toList i with|some c=>.ok (.str ⟨#[c]⟩)|none=>.bad)else .bad:=rfl
def Me:qM (.lst p) lo J=.ok (.lst<|cutD p lo J):=rfl
def Mf:qM (.str x) lo J=if x.length<=sizeLine then .ok (.str<|Txt.slice x lo J)else .bad:=rfl
def LU:pI (.int i)=.ok (some i):=rfl
def LC:jr [.str x]=if x.length<=sizeLine then .ok (.int x.length)else .bad:=rfl
def LB:jr [.lst p]=.ok (.int p.length):=rfl
def LD:jr [.tup p]=.ok (.int p.length):=rfl
def Kf:oB [.int i]=.ok (.int<|if i<0 then -i else i):=rfl
def LG:HC [.int i,.int j]=.ok (.int<|if j>i then j else i):=rfl
def Lf:intD [.str x]=match PySem.intText? x with|some n=>if x.length<=640 then .ok (.int n)else .bad|none=>.bad:=rfl
def Kk:Cy [.lst p]=match qk p with|some bs=>.ok (.bl<|bs.all id)|none=>.bad:=rfl
def Kl:CB [.lst p]=match qk p with|some bs=>.ok (.bl<|bs.any id)|none=>.bad:=rfl
def Mh:NZ (.str x) [.str y]=.ok (.bl<|Txt.startswith x y):=rfl
def MO:Qa (.str x) [.int i]=if PadOk i=true then .ok (.str<|Txt.zfill x i)else .bad:=rfl
def Ld:vA "str" (.str x)=true:=by rfl
def LI:i0 p=if p.length<=sizeLine then .ok (.tup p)else .bad:=rfl
def K4:ie p=if p.length<=sizeLine then .ok p else .bad:=rfl
def Ko:jo (.lst p)=.ok p:=rfl
def Kr:jo (.tup p)=.ok p:=rfl
def Kq:jo (.str x)=.ok (signs x):=rfl
def K6:EC (.str x)=if x.length<=sizeLine then .ok (.str x)else .bad:=rfl
def Lz:GA x l=if x.length<=sizeLine then .ok (.str x)else .bad:=rfl
def Ly:Gz f T x l=(f l).bind λz=>match z with|.str y=>if(x++y).length<=sizeLine then T (x++y) l else .bad|_=>.bad:=rfl
def MA:dV 0 (.sh d::r)=.ok d:=rfl
def MB:dV 1 (s0::.sh d::r)=.ok d:=rfl
def MG:dV 2 (s0::s1::.sh d::r)=.ok d:=rfl
def MH:dV 3 (s0::s1::s2::.sh d::r)=.ok d:=rfl
def MI:dV 4 (s0::s1::s2::s3::.sh d::r)=.ok d:=rfl
def MJ:dV 5 (s0::s1::s2::s3::s4::.sh d::r)=.ok d:=rfl
def MK:dV 6 (s0::s1::s2::s3::s4::s5::.sh d::r)=.ok d:=rfl
def ML:dV 7 (s0::s1::s2::s3::s4::s5::s6::.sh d::r)=.ok d:=rfl
def MM:dV 8 (s0::s1::s2::s3::s4::s5::s6::s7::.sh d::r)=.ok d:=rfl
def MN:dV 9 (s0::s1::s2::s3::s4::s5::s6::s7::s8::.sh d::r)=.ok d:=rfl
def MC:dV 10 (s0::s1::s2::s3::s4::s5::s6::s7::s8::s9::.sh d::r)=.ok d:=rfl
def MD:dV 11 (s0::s1::s2::s3::s4::s5::s6::s7::s8::s9::jt::.sh d::r)=.ok d:=rfl
def ME:dV 12 (s0::s1::s2::s3::s4::s5::s6::s7::s8::s9::jt::i9::.sh d::r)=.ok d:=rfl
def MF:dV 13 (s0::s1::s2::s3::s4::s5::s6::s7::s8::s9::jt::i9::Np::.sh d::r)=.ok d:=rfl
def j8(e:0<j):gA (.int i) (.int j)=.ok (.int<|i%j):=by rw[LK,ae<|by simp;lia,Int.fmod_eq_emod_of_nonneg _<|by walk_at "l"]
def ph(e:0<j)(r:j<18446744073709551616):hJ (.int i) (.int j)=.ok (.int<|i/j):=by have o:bits j<=64:=bits_le (by omega);rw[wK,ae<|by unfold o9;simp only[aK,aY];lia,eh _<|by walk_at "l"]
def qI{x y:fR}(o:x.length<=1000)(e:y.length<=1000):gM (.str x) (.str y)=.ok (.str<|x++y):=by rw[Kj,ae<|aC (Nat.add_le_add o e)<|by decide]
def Ki{x y:gx}(o:x.length<=1000)(e:y.length<=1000):gM (.lst x) (.lst y)=.ok (.lst<|x++y):=by rw[Kh,ae<|aC (Nat.add_le_add o e)<|by decide]
def K5{x:gx}(e:x.length<=1000):ie x=.ok x:=by rw[K4,ae<|aC e<|by decide]
def LJ{x:gx}(e:x.length<=1000):i0 x=.ok (.tup x):=by rw[LI,ae<|aC e<|by decide]
end
open PySem.Spec
open PyProof.Rows hiding St
section
variable{X:Cx}{E:XK}
def mT(i j:Int):f5:=wg i j||sR i j
noncomputable def hK:D->D->R D
 |.int i,.int j=>if mT i j=true then .ok (.int<|i*j)else .bad
 |.str x,.int n=>if wh x n=true then .ok (.str<|Txt.mul x n)else .bad
 |_,_=>.bad
def IE:i7 X E (binaryOp .Mult) hK:=by
 refine⟨_,sV (sV IC ID) IF,λ{_ H _ _ _ _ _} fr b a h=>?_⟩;unfold hK at h;split at h
 ·cases b;cases a;split at h
  ·rename_i z;unfold mT at z;rw[bN]at z;rcases z with z|z
   ·unfold wg at z;simp only[aK,aY]at z;exact .inl (.inr ⟨_,_,rfl,rfl,z,h H (.refl H) _<|.int _⟩)
   ·refine .inl (.inl ⟨_,_,rfl,rfl,?_,h H (.refl H) _<|.int _⟩);unfold sR at z;simp only[bN,aK,aY]at z;exact z
  ·exact h.elim
 ·cases b;cases a;split at h;·rename_i z;exact .inr ⟨_,_,rfl,rfl,mulOk_of z,h H (.refl H) _<|.str _⟩
  ·exact h.elim
 ·exact h.elim
def I9:(10:Nat)^400<2^1500:=by decide+kernel
def uB{i:Int}(h:i.natAbs<10^400):bits i<=1500:=bits_le (fK h I9)
def LL{i j:Int}(b:i.natAbs<10^400)(a:j.natAbs<10^400):hK (.int i) (.int j)=.ok (.int<|i*j):=by have d:=uB b;have c:=uB a;show(if mT i j=true then R.ok (D.int<|i*j)else .bad)=_;rw[ae<|by unfold mT wg;simp only[bN,aK,aY];left;lia]
def wL{i j:Int}(b: -18446744073709551616<j)(a:j<18446744073709551616):hK (.int i) (.int j)=.ok (.int<|i*j):=by show(if mT i j=true then R.ok (D.int<|i*j)else .bad)=_;rw[ae<|by unfold mT sR;simp only[bN,aK,aY];right;right;exact⟨b,a⟩]
def LM{i j:Int}(b: -18446744073709551616<i)(a:i<18446744073709551616):hK (.int i) (.int j)=.ok (.int<|i*j):=by show(if mT i j=true then R.ok (D.int<|i*j)else .bad)=_;rw[ae<|by unfold mT sR;simp only[bN,aK,aY];right;left;exact⟨b,a⟩]
def tj{i j:Int}(b:j≠0)(a:j.natAbs<10^400):hJ (.int i) (.int j)=.ok (.int<|i.fdiv j):=by have c:=uB a;rw[wK,ae<|by unfold o9;simp only[aK,aY];lia]
def Lh{i:Int}:km q [.int i,.ty "int"]=.ok (.bl true):=rfl
def Lg{i:Int}:km q [.int i,.ty "bool"]=.ok (.bl false):=rfl
def Lj:km q [.str x,.ty "str"]=.ok (.bl true):=rfl
def Lk:km q [.tup ds,.ty "tuple"]=.ok (.bl true):=rfl
def Li:km q [.lst ds,.ty "list"]=.ok (.bl true):=rfl
def Mb{lo}:nc (.lst ds) lo hi=.ok (.lst<|cutD ds lo hi):=rfl
def Mc{lo}:nc (.str x) lo hi=if x.length<=sizeLine then .ok (.str<|Txt.slice x lo hi)else .bad:=rfl
def Ll:vG (.bl a) (.bl b)=.ok (.bl<|a==b):=rfl
def Lp:vI (.bl a) (.bl b)=.ok (.bl<|!(a==b)):=rfl
def Lm:vG .non .non=.ok (.bl true):=rfl
def Lq:vI .non .non=.ok (.bl false):=rfl
def Ln:vG (.tup ds) .non=.ok (.bl false):=rfl
def Lr:vI (.tup ds) .non=.ok (.bl true):=rfl
def tq{n}:jX c b (n+1) ρ=toS (c ρ) λk=>if k=true then turnT (b ρ) (jX c b n)else .nx ρ:=rfl
variable{a b:f6}{rest:iL}{m:Pos}{t p:TE}{l f:gf}
def Dl(a b:gf):gf:=λd=>(a d).bind λx=>(tT x).bind λc=>if c=true then .ok x else b d
def KR:Dl l f ρ=(l ρ).bind λx=>(tT x).bind λc=>if c=true then .ok x else f ρ:=rfl
end
open PySem.Calls
def BM(b:g5)(h:gc):Prop:=∃a ob,b "__builtins__"=some (.ref a)/\a≠builtinsNs/\h.get? a=some ob/\ob.cls=.type "module"/\ob.dict=some builtinsNs/\ob.data=.plain
def nS(K:fZ)(x:fR)(c P:fO):f5:=(ja K).any (λt=>t.1==x&&(t.2.1==c&&t.2.2==P))&&W.codeHdIn K c P&&(ja K).all λt=>t.2.2 !=P||t.1==x
def GU{K:fZ}{x:fR}{c P:fO}(h:nS K x c P=true):(x,c,P)∈ja K/\W.codeHdIn K c P=true/\∀t∈ja K,t.2.2=P->t.1=x:=by
 unfold nS at h;simp only[aK]at h;obtain⟨⟨f,d⟩,b⟩:=h;refine⟨?_,d,λt a e=>?_⟩
 ·obtain⟨t,a,e⟩:=List.any_eq_true.mp f;simp only[aK,eY]at e;obtain⟨j,i,g⟩:=t;obtain⟨rfl,rfl,rfl⟩:=e;exact a
 ·have:=cD.mp b t a;simp only[bN,bne_iff_ne,eY]at this;rcases this with z|z;·exact absurd e z
  ·exact z
def ON{e q:Pos}{c g:fN}:∀(l:gq),TriplesOk l->codeAmong q (l++[rawInt e.line,rawInt e.col,c])=some g->codeAmong q l=some g\/g=c:=by
 intro l h d
 fun_induction TriplesOk l with
 |case1=>
  simp only[cQ,codeAmong,rawInt]at d;split at d;·cases d;exact .inr rfl
  ·cases d
 |case2 a t b u x rest i=>
  simp only[dH,codeAmong]at d⊢;split at d;·rename_i f;rw[ae f];exact .inl d
  ·rename_i f;rw[ah f];exact i h d
 |case3 l k j=>exact h.elim
def nD(f:fO)(o:iC):HO:=.ext λh=>h.get? f=some o
def mC(H:Hp)(f:fO)(b:fR)(a:Arguments)(d:f6)(c:Scope)(h:fN):Prop:=
 ∃g e,H f=some (nD f<|W.kla_obj "<lambda>" b a d c [] h g e)/\H g=some (iX g b)
def mC.up{K:fZ}{H i:Hp}{f:fO}{c:fR}{a:Arguments}{d:f6}{b:Scope}{g:fN}(h:mC H f c a d b g)(s:gF K H i):mC i f c a d b g:=by obtain⟨l,e,k,j⟩:=h;exact⟨l,e,s.at' _ _ o8 k,s.at' _ _ o8 j⟩
def De{P:gy}{w:gs}{H:Hp}{h:gc}{c:fO}{q:fR}(x:h.CodeRec (.ref c) q):iy P w H h c (iX c q):=by
 refine⟨x,?_,λf d y k=>?_⟩
 ·obtain⟨b,o,a,t,e,g,r⟩:=x;cases e;exact⟨o,g⟩
 ·obtain⟨b,o,a,t,e,g,r⟩:=y;cases e;exact⟨c,o,a,t,rfl,k o g,r⟩
def zN{P:gy}{w:gs}{H:Hp}{h:gc}{f:fO}{o:iC}(x:h.get? f=some o):iy P w H h f (nD f o):=⟨x,⟨o,x⟩,λb a y k=>k o y⟩
variable{X:Cx}{pins:gp}{σ:fL<|fU V}{H:Hp}{s:fS}
def GY{t:gc}{tk:Nat}{P g f:fO}{i a:lL}{oc:HO}{o:iC}(I:Inv X pins σ H s)(r:H P=some (.iu i))(l:Heap.ExtBut P s.heap t)(k:s.heap.objs.size<=g)(x:g<f)(hf:t.get? f=some o)(p:t.get? P=some (W.tabObj<|i++a))
    (A:∀O,iy X.prog X.w O t g oc):Inv X pins σ (upd (upd (upd H P<|.iu<|i++a) g oc) f<|nD f o) {s with heap:=t,toks:=tk}:=by
 have M:s.heap.get? P=some (W.tabObj i):=I.hok P _ r;have D:=Heap.lt_size M;have J:H g=none:=I.hok.fresh k;have G:H f=none:=I.hok.fresh (aC k<|bI x);have N:g≠P:=λz=>absurd (ao D k) (by rw[z];exact bA _);have L:f≠P:=λz=>absurd (ao D<|aC k<|bI x) (by rw[z];exact bA _);have Q:f≠g:=dq x;have w:∀b,H b=none->b≠P:=λb n z=>by rw[z,r]at n;cases n
 have d:∀b u,b≠P->H b=some u->(upd (upd (upd H P<|.iu<|i++a) g oc) f<|nD f o) b=some u:=λb u z e=>by rw[gj<|iW e G,gj<|iW e J,gj z];exact e
 have B:(upd (upd (upd H P<|.iu<|i++a) g oc) f<|nD f o) P=some (.iu<|i++a):=by rw[gj L.symm,gj N.symm,hD]
 have h:∀b u,H b=some u->(∀q,u≠.iu q)->b≠P:=λb u e n z=>by rw[z,r]at e;cases e;exact n i rfl
 refine I.step (g':=s.gens) (d':=s.drawn) (ch:=[]) (λ_ z=>nomatch z) (λb o _ _ _ e n=>l b o (w b n) e) (λb o _ _ _ e n=>⟨o.slots,l b o (w b n) e⟩) (λb o _ e n=>?_) (λb o _ e=>?_)
  (λb F e=>d b _ (h b _ e λ_ z=>nomatch z) e) (λb o u e=>d b _ (h b _ e λ_ z=>nomatch z) e) (λb q e=>?_) (λm K=>K.extBut l<|w _ I.free) (λb u e=>?_) I.bare
 ·have C:=Heap.lt_size e;rw[gj λz=>?_,gj λz=>?_,gj<|w b n];·exact n
  ·exact absurd (ao C k) (by rw[z];exact bA _)
  ·exact absurd (ao C<|aC k<|bI x) (by rw[z];exact bA _)
 ·by_cases z:b=P;·exact⟨_,by rw[z];exact p⟩
  ·exact⟨o,l b o z e⟩
 ·by_cases z:b=P
  ·subst z;rw[r]at e;cases e;exact⟨a,B⟩
  ·exact⟨#[],by rw[d b _ z e,Array.append_empty]⟩
 ·by_cases z1:b=f
  ·subst z1;rw[hD]at e;cases e;exact zN hf
  ·rw[gj z1]at e;by_cases z2:b=g
   ·subst z2;rw[hD]at e;cases e;exact A _
   ·rw[gj z2]at e;by_cases y:b=P
    ·subst y;rw[hD]at e;cases e;exact p
    ·rw[gj y]at e;refine(I.hok b u e).ng (λc v j q=>l c v (λz=>?_) q) (λc q=>d c _ (h c _ q λ_ z=>nomatch z) q) λc F q=>d c _ (h c _ q λ_ z=>nomatch z) q;rcases j with j|j;·rw[j]at z;exact y z
     ·rw[z,r]at j;cases j
def GV{x g:fR}{c P:fO}{a:Arguments}{i:f6}{d:Scope}{l:Pos}{Q E:gE}(I:Inv X pins σ H s)(tt:iG X.K H)(bm:BM X.mg X.base)(hi:nS X.K x c P=true)(p:X.env.code=.ref c)
    (hq:X.env.qual++"<lambda>"=g)(hx:x++".<locals>.<lambda>"=g)(N:defaultsOf a X.env=([],[]))(R:closureFor d X.env=pure [])
    (h:∀f H2 s2,gF X.K H H2->Inv X pins σ H2 s2->mC H2 f g a i d ((X.mg "__name__").getD .none)->Q (.ref f) s2):
    wpAny (model X.prog X.w) X.A (eval (.Lambda a i d l) X.env) Q E s:=by
 obtain⟨mem,O,D⟩:=GU hi;obtain⟨G,w,t2,t3⟩:=tt _ mem;dsimp only at w;have eP:s.heap.get? P=some (W.tabObj G):=I.hok P _ w;have Z:∀b,H b=none->b≠P:=λb n z=>by rw[z,w]at n;cases n
 have hg:s.heap.Ns mainGlobals X.mg:=I.ok.mod.glob.keeps I.bk;have C:W.CodeHd s.heap c P:=W.codeHd_of_K I.jR O;obtain⟨b,ob,b1,b2,U,b4,b5,b6⟩:=bm;have FA:mainGlobals≠P:=λq=>by obtain⟨o,es,ep,e,O,_⟩:=hg;rw[q,eP]at e;cases e;cases O
 have Fj:b≠mainGlobals:=λq=>by obtain⟨o,es,ep,e,O,_⟩:=I.ok.mod.glob;rw[q,e]at U;cases U;rw[O]at b6;cases b6
 have B:s.heap.BuiltinsAt X.mg P:=⟨b,ob,b1,b2,Fj,Z b (I.bs b ob U).2,I.bk b ob U,b4,b5,b6⟩;refine W.kla_eval N ?_;rw[hq];cases hm:codeAmong l G.toList with
 |none=>
  refine W.kla_makeFunction (mg:=X.mg) R I.ok.glob hg p C eP t2 hm FA B λk j m tk hxb A y M F4=>?_;have hf:(m.push<|W.kla_obj "<lambda>" g a i d [] ((X.mg "__name__").getD .none) k j).get? m.objs.size=some (W.kla_obj "<lambda>" g a i d [] ((X.mg "__name__").getD .none) k j):=aQ _ rfl;have J:=GY (tk:=tk) (oc:=iX k g) I w (λb o hb e=>ag _<|hxb b o hb e) A y hf (ag _ F4) λH'=>De (M.push _);have K:H k=none:=I.hok.fresh A;have u:H m.objs.size=none:=I.hok.fresh (aC A<|bI y);have fc:m.objs.size≠k:=dq y;have fP:m.objs.size≠P:=Z _ u;have cP:k≠P:=Z _ K;refine h _ _ _ ⟨λb o n e=>?_,λb e=>?_,λ_=>?_⟩ J ⟨k,j,hD,by rw[gj fc.symm,hD]⟩
  ·rw[gj<|iW e u,gj<|iW e K,gj λz=>?_];·exact e
   ·rw[z,w]at e;cases e;exact n G rfl
  ·by_cases z1:b=m.objs.size;·rw[z1];exact u
   ·rw[gj z1]at e;by_cases z2:b=k;·rw[z2];exact K
    ·rw[gj z2]at e;by_cases z3:b=P;·rw[z3,hD]at e;cases e
     ·rw[gj z3]at e;exact e
  ·intro t ht;obtain⟨T,F,Y,u3⟩:=tt t ht;have up:∀q v,codeAmong q T.toList=some v->∃S,v=.ref S/\(upd (upd (upd H P<|.iu<|G++#[rawInt l.line,rawInt l.col,.ref k]) k<|iX k g) m.objs.size<|nD m.objs.size<|W.kla_obj "<lambda>" g a i d [] ((X.mg "__name__").getD .none) k j) S=some (iX S<|t.1++".<locals>.<lambda>"):=λq v e=>by
    obtain⟨S,e1,r⟩:=u3 q v e;refine⟨S,e1,?_⟩;rw[gj<|iW r u,gj<|iW r K,gj λz=>?_];·exact r
    ·rw[z,w]at r;unfold iX at r;cases r
   by_cases z:t.2.2=P
   ·have ex:=D t ht z;have eqs:T=G:=by rw[z,w]at F;cases F;rfl
    subst eqs;refine⟨T++#[rawInt l.line,rawInt l.col,.ref k],by rw[z,gj fP.symm,gj cP.symm,hD],?_,λq v e=>?_⟩
    ·rw[ba];exact TriplesOk_snoc _ _ _ _ Y
    ·rw[ba]at e;rcases ON _ Y e with e|e;·exact up q v e
     ·refine⟨k,e,?_⟩;rw[gj fc.symm,hD,ex,hx]
   ·exact⟨T,by rw[gj<|iW F u,gj<|iW F K,gj z];exact F,Y,up⟩
 |some v=>
  obtain⟨k,rfl,r⟩:=t3 l v hm;dsimp only at r;rw[hx]at r;refine W.kla_makeFunctionHit (mg:=X.mg) R I.ok.glob hg p C eP t2 hm B λj m tk hk L=>?_;have u:H m.objs.size=none:=I.hok.fresh L;have hf:(m.push<|W.kla_obj "<lambda>" g a i d [] ((X.mg "__name__").getD .none) k j).get? m.objs.size=some (W.kla_obj "<lambda>" g a i d [] ((X.mg "__name__").getD .none) k j):=aQ _ rfl
  have J:Inv X pins σ (upd H m.objs.size<|nD m.objs.size<|W.kla_obj "<lambda>" g a i d [] ((X.mg "__name__").getD .none) k j) {s with heap:=m.push<|W.kla_obj "<lambda>" g a i d [] ((X.mg "__name__").getD .none) k j,toks:=tk}:=
   I.laid (λb o e=>ag _<|hk b o e) L (zN hf)
  exact h _ _ _ (jG u) J ⟨k,j,hD,by rw[gj<|iW r u];exact r⟩
def GX{P:gy}{w:gs}{K:fZ}{R:g5}{j:gc}{k:Nat}{f:fO}{d:fR}{i:Arguments}{l:f6}{a:Scope}{pm:fN}{N F:gu}{g:gf}{A:gz}{c:iK}{s:fS}{H:Hp}{m:gq}{O:fL V}{Q:VK}{E:XK}
    (S:lF N F a)(L:mC H f d i l a pm)
    (C:∀(z:fN) (A:gz) (c:iK) (s:fS) (H:Hp) (E:XK),g8 k (gW (gJ P w) P w K R j N d a f z A c s H E).A->DE (gW (gJ P w) P w K R j N d a f z A c s H E) E l g)
    (D:∀(z M:fN) (m:gq),m.length=F.length->bindArgs (W.kla_fn "<lambda>" d i l a [] pm z M) ⟨m,[]⟩=pure (F.zip m))
    (hr:g8 (k+1) A)(G:mz P w K R j A c s H)(r:Vals O m)(Z:jj F.length K (λds=>g<|gY N.length ds) O H Q E):
    codeAny (model P w) A (.call (.ref f) ⟨m,[]⟩) (CR (gJ P w) c P w H s Q E) s:=by
 obtain⟨c',M,e1,e2⟩:=L;obtain⟨hl,tt,al,ds,fr,T,h⟩:=Z;have ho:=(G.hok f _ e1).1;have hcd:=(G.hok c' _ e2).1;have U:s.heap.NoLimit:=G.mod.nolimit.keeps λb o e=>(G.bs b o e).1;have Y:m.length=F.length:=by rw[<-hl];exact r.length.symm
 have B:∀y∈F.zip m,a.names.lookup y.1=some .local\/(a.names.lookup y.1=some .cell/\((cellsFrom (s.heap.objs.size+1) a.names []).lookup y.1).isSome=true):=λ⟨n,v⟩ hy=>by
  rcases S.par n (dW hy).1 with q|q;·exact .inl q
  ·exact .inr ⟨q,eR _ _ _<|.inl q⟩
 refine W.kla_callFunE hr.depth ho rfl S.co S.gen rfl hcd ?_;rw[D _ _ m Y];refine aG (eg S.kind B λenv he s1 x=>?_);subst he;refine⟨U.keeps x.toInCall.keep,W.kla_codeExpr ?_⟩;obtain⟨t,p,q⟩:=C (.ref c') A c s H E (hr.deeper _);have I:Inv (gW (gJ P w) P w K R j N d a f (.ref c') A c s H E) [] (L2.start N O) H s1:=zC S hr.hd G hl r x;refine aU (p [] s1 (L2.start N O) H _ I<|q (A4 tt fr T) h) (λu s' hs=>?_) λe s' hs=>hs;obtain⟨v,H',J,T,q⟩:=hs;exact⟨v,H',J.os,J.bare,J.base,J.hok,T,q⟩
def qz(K:fZ)(x:fR):f5:=match W.tabIn K x with
 |some (c,P)=>nS K x c P
 |none=>false
def GW{K:fZ}{x:fR}{f:fO}{i:fN}{g:iV}{d:jm}{b:nE}(a:W.nsIn K mainGlobals x=some (some<|.ref f))(l:K.lookup f=some ⟨i,g,.func d,b⟩)(h:qz K x=true):∃c P,nS K x c P=true/\d.code=.ref c:=by
 unfold qz at h;split at h
 ·rename_i c P e;refine⟨c,P,h,?_⟩;unfold W.tabIn at e;rw[a]at e;dsimp only at e;rw[l]at e;dsimp only at e;split at e
  ·rename_i k j;split at e
   ·split at e;·cases e;exact j
    ·cases e
   ·cases e
  ·cases e
 ·cases h
def G1{w}{K:fZ}{k}{c:fS}{C:gq}
 (KX:K.In c.heap)(Q:c.heap.Ns mainGlobals mg)(hb:c.heap.Ns builtinsNs mb)(hbb:∀x:fR,x≠"__name__"->mb x=bootBuiltins x)(R:c.heap.NoLimit)(hg:c.gens=#[])
 (G:c.heap.get? a=some {cls:=.type "list",data:=.seq C.toArray})(hi:IntsAre C ns)(hl:ns.length<=sizeLine)(hr:g8 k callerA)(hT:∀t∈ja K,W.CodeHd c.heap t.2.1 t.2.2/\c.heap.get? t.2.2=some (W.tabObj #[]))(hN:W.noTabs K=true)
 (hB:BM mg c.heap)
 (F:∀l:gc,K.In l->l.Ns mainGlobals mg->BM mg l->jv P w K mg l CX k fa fd [x] sp)(D:∀s u,BindsTo s fd ⟨[u],[]⟩ [(x,u)])
 (hsp:∀H:Hp,iG K H->iF K H a (ns.map V.int)->sp [.ref a] H (λv _=>v=.bl true) λ_ _ _=>False)
 (E1:∀H e j,CX [] H c (λ_ _ _=>False) e j->False):
   codeAny (model P w) callerA (.call (.ref fa) ⟨[.ref a],[]⟩) (λr j=>r=.ok (.ret<|.bool true)/\OldK c.heap j.heap/\j.os=c.os/\AllBare j.gens) c:=by
  have rv:=Bz hi;have N:=hi.length;have na:∀t∈ja K,t.2.2≠a:=λt f e=>by have:=(hT t f).2;rw[e,G]at this;cases this
  have nK:∀t∈ja K,K.lookup t.2.2=none:=λt f=>by
   cases q:K.lookup t.2.2 with
   |none=>rfl
   |some o=>have U:=KX _ _ q;rw[(hT t f).2]at U;cases U;have h2:=cD.mp hN (t.2.2,W.tabObj #[]) (W.mem_of_lookupK q);exact absurd (show false=true from h2) aN
  have B:∀H:Hp,(∀b,H b=none\/(∃o M,H b=some (.j4 o<|.lst M)/\b=a/\K.lookup a=none)\/∃t∈ja K,b=t.2.2/\H b=some (.iu #[]))->(∀t∈ja K,H t.2.2=some (.iu #[]))->iF K H a (ns.map V.int)->hX P w H c.heap->
   codeAny (model P w) callerA (.call (.ref fa) ⟨[.ref a],[]⟩) (λr j=>r=.ok (.ret<|.bool true)/\OldK c.heap j.heap/\j.os=c.os/\AllBare j.gens) c:=by
   intro H hO E4 hS O;have i:∀{b:fO} {o:iC},c.heap.get? b=some o->H b=none->(lV c.heap H).get? b=some o:=λe n=>FF e n;have HN:∀{b:fO} {o:iC} {I:fY DictEntry} {J:Nat},c.heap.get? b=some o->o.data=.dict I J->H b=none:=λ{b o I J} e d=>by
    rcases hO b with z|⟨ob,M,z,g,_⟩|⟨t,f,g,z⟩;·exact z
    ·subst g;rw[G]at e;cases e;have d':Data.seq C.toArray _=Data.dict I J:=d;cases d'
    ·subst g;rw[(hT t f).2]at e;cases e;have d':Data.fields #[]=Data.dict I J:=d;cases d'
   have p:∀{b:fO} {m:g5},c.heap.Ns b m->(lV c.heap H).Ns b m:=λ{b m} ⟨o,I,J,e,d,r⟩=>⟨o,I,J,i e (HN e d),d,r⟩;have T:K.In (lV c.heap H):=λb o e=>i (KX b o e) (by
    rcases hO b with z|⟨ob,M,z,g,S⟩|⟨t,f,g,z⟩;· exact z
    · subst g;rw[S]at e;cases e
    · subst g;rw[nK t f]at e;cases e)
   have EY:BM mg (lV c.heap H):=by
    obtain⟨bm,ob,b1,b2,Z,b4,b5,b6⟩:=hB;refine⟨bm,ob,b1,b2,i Z ?_,b4,b5,b6⟩;rcases hO bm with z|⟨o2,M,z,g,_⟩|⟨t,f,g,z⟩;·exact z
    ·subst g;rw[G]at Z;cases Z;cases b6
    ·subst g;rw[(hT t f).2]at Z;cases Z;cases b6
   have hM:Mod K mg (lV c.heap H):=⟨T,p Q,⟨mb,p hb,hbb⟩,let⟨mc,h1,h2⟩:=R;⟨mc,p h1,h2⟩⟩;have e0:mz P w K mg (lV c.heap H) callerA [] c H:=⟨rfl,hM,λb o e=>H7 e,fg<|FG _ _,trivial,λb hb=>absurd (show b∈([]:fL fO)from hb)<|by simp,O,.of_eq hg⟩;have tb:iG K H:=λt f=>⟨#[],E4 t f,trivial,λpos cv e=>by cases e⟩;refine eX ((F _ T (p Q) EY).run callerA [] c H ⟨[.ref a],[]⟩ [.ref a] [.ref a] _ _ hr e0 (D c<|.ref a) (.cons rfl .nil) (hsp H tb hS)) λr j h=>?_;cases r with
   |error e=>exact(E1 H e j h).elim
   |ok fl=>
    cases fl with
    |ret u=>
     obtain⟨v,H',os,Y,un,A,r',q⟩:=h;have q':v=.bl true:=q;subst q';obtain rfl:u=Value.bool true:=r';have kept:∀b o,c.heap.get? b=some o->j.heap.get? b=some o\/∃t∈ja K,b=t.2.2/\∃ps,j.heap.get? b=some (W.tabObj ps):=λb o e=>by
      rcases hO b with z|⟨ob,M,z,_⟩|⟨t,f,g,z⟩;·exact .inl (un.keep b o e z (by intro y;exact absurd (show b∈([]:fL fO)from y) (by simp)) (by simp))
      ·have z2:=un.mj b ob _ z;obtain⟨U,_⟩:=O b _ z;obtain⟨L,_⟩:=A b _ z2;rw[e]at U;cases U;exact .inl L
      ·obtain⟨more,z2⟩:=un.nh b #[] z;have L:j.heap.get? b=some {cls:=.none,data:=.fields<|#[]++more}:=A b _ z2;exact .inr ⟨t,f,g,_,L⟩
     refine⟨rfl,⟨λb o e=>?_,λb o e=>?_⟩,os,Y⟩
     ·rcases kept b o e with z|⟨t,f,g,ps,z⟩;·exact .inl z
      ·subst g;have L:=(hT t f).2;rw[e]at L;cases L;exact .inr (.inl ⟨((hT t f).1.tab (hT t f).2).isCodeTable,rfl,#[],ps,rfl,by rw[Array.empty_append];exact z⟩)
     ·rcases kept b o e with z|⟨_,_,_,ps,z⟩;·exact⟨o,z⟩
      ·exact⟨_,z⟩
    |_=>exact False.elim h
  have nz:¬∃t∈ja K,a=t.2.2:=λ⟨t,f,e⟩=>na t f e.symm;have iu:∀(H:Hp) (b:fO),(∃t∈ja K,b=t.2.2)->iy P w H c.heap b (.iu #[]):=λH b ⟨t,f,e⟩=>by subst e;exact(hT t f).2
  cases S:K.lookup a with
  |some o=>
   have e:=KX a o S;rw[G]at e;cases e;refine B (λb=>if(∃t∈ja K,b=t.2.2)then some (.iu #[])else none) (λb=>?_) (λt f=>ae ⟨t,f,rfl⟩) (.inr ⟨_,C.toArray,_,S,rfl,rfl,rfl,by rw[az,N];exact hl,by simpa using rv⟩) (λb u e=>?_)
   ·by_cases z:∃t∈ja K,b=t.2.2
    ·obtain⟨t,f,e⟩:=z;exact .inr (.inr ⟨t,f,e,ae ⟨t,f,e⟩⟩)
    ·exact .inl (ah z)
   ·by_cases z:∃t∈ja K,b=t.2.2
    ·have g:=(ae z).symm.trans e;cases g;exact iu _ b z
    ·have g:=(ah z).symm.trans e;cases g
  |none=>
   refine B (λb=>if(∃t∈ja K,b=t.2.2)then some (.iu #[])else if b=a then some (.j4 {cls:=.type "list",data:=.seq C.toArray}<|.lst<|ns.map V.int)else none) (λb=>?_) (λt f=>ae ⟨t,f,rfl⟩) (.inl<|.inr ⟨{cls:=.type "list",data:=.seq C.toArray},(ah nz).trans (ae rfl)⟩) (λb u e=>?_)
   ·by_cases z:∃t∈ja K,b=t.2.2
    ·obtain⟨t,f,e⟩:=z;exact .inr (.inr ⟨t,f,e,ae ⟨t,f,e⟩⟩)
    ·by_cases y:b=a;·exact .inr (.inl ⟨_,_,(ah z).trans (ae y),y,S⟩)
     ·exact .inl ((ah z).trans (ah y))
   ·by_cases z:∃t∈ja K,b=t.2.2
    ·have g:=(ae z).symm.trans e;cases g;exact iu _ b z
    ·by_cases y:b=a
     ·have g:=((ah z).trans (ae y)).symm.trans e;cases g;subst y;exact⟨G,by rw[ar];exact hl,C,_,rv,G⟩
     ·have g:=((ah z).trans (ah y)).symm.trans e;cases g
def OF{K:fZ}(T:Top p loose QV mg mb h)(X:K.In h)(b:(ja K).all (λt=>((recsOf p).find? λe=>e.name==t.1).isSome)=true):
    ∀t∈ja K,W.CodeHd h t.2.1 t.2.2/\h.get? t.2.2=some (W.tabObj #[]):=λt a=>by
 have f:=cD.mp b t a;obtain⟨d,c⟩:=dc.mp f;unfold ja at a;obtain⟨x,_,e⟩:=dh.mp a;split at e
 ·obtain⟨q,i,g⟩:=aA.mp e;subst g;exact W.tab_of T X c i
 ·cases e
end P2
namespace WP
open PySem L2 P2
structure Ad where
 WeatherError:fO:=0
 NoFraction:fO:=0
 NoText:fO:=0
 Qz:fO:=0
 Qy:fO:=0
 Qt:fO:=0
 Tokens:fO:=0
 Book:fO:=0
 Sight:fO:=0
 Qs:fO:=0
 QE:fO:=0
 QC:fO:=0
 QD:fO:=0
 lp:fO->fN->fU f5:=λ_ _=>none
def uy(a:Ad):gK:=(g7 (iR 2 (d2 gA (dV 0) (dV 1)))
    (g7 (iR 0 (dV 1))
    (iR 1 (dV 2))))
def vh(a:Ad):gK:=(g7 (jX (b1 tB (d2 mS (dV 1) (fQ 0))) (uy a) oJ)
    (jz (dV 0)))
def y9(a:Ad):gK:=(jz<|uP (dA (km a.lp)<|fM (dV 0)<|fM (dC<|.ty "int") fW)<|uR<|dA (km a.lp)<|fM (dV 0)<|fM (dC<|.ty "bool") fW)
def vi(a:Ad)(c b:gk):gK:=(g7 (mY (lP (me (b1 tT (dA c (fM (dV 0) fW)))) (lP (me (b1 tT (dA c (fM (dV 1) fW)))) (b1 tB (d2 iN (dV 1) (fQ 0))))) (λ_=>.ex a.NoFraction [] []) mZ)
    (g7 (iR 2 (dA b (fM (dA oB (fM (dV 0) fW)) (fM (dA oB (fM (dV 1) fW)) fW))))
    (g7 (mY (b1 tB (d2 kX (dV 1) (fQ 0))) (iR 2 (d1 sO (dV 2))) mZ)
    (jz (dA i0 (fM (d2 hJ (dV 0) (dV 2)) (fM (d2 hJ (dV 1) (dV 2)) fW)))))))
def vl(a:Ad)(b:gk):gK:=(jz<|dA b<|fM (d2 gM (d2 hK (gP 0 0)<|gP 1 1)<|d2 hK (gP 1 0)<|gP 0 1)<|fM (d2 hK (gP 0 1)<|gP 1 1) fW)
def vk(a:Ad)(b:gk):gK:=(jz<|dA b<|fM (d2 jW (d2 hK (gP 0 0)<|gP 1 1)<|d2 hK (gP 1 0)<|gP 0 1)<|fM (d2 hK (gP 0 1)<|gP 1 1) fW)
def vn(a:Ad)(b:gk):gK:=(jz<|dA b<|fM (d2 hK (gP 0 0)<|gP 1 0)<|fM (d2 hK (gP 0 1)<|gP 1 1) fW)
def vm(a:Ad)(b:gk):gK:=(g7 (mY (b1 tB (d2 iN (dV 1) (dV 2))) (jz (dA b (fM (fQ 0) (fM (fQ 1) fW)))) mZ)
    (jz (dA b (fM (d2 jW (dV 0) (dV 1)) (fM (d2 jW (dV 2) (dV 1)) fW)))))
def vo(a:Ad)(b d c e:gk):gK:=(g7 (iR 3 (dA b (fM (dV 0) (fM (gP 1 1) (fM (gP 2 1) fW)))))
    (jz (dA e (fM (gP 1 2) (fM (dA c (fM (dV 3) (fM (dA d (fM (gP 2 2) (fM (gP 1 2) fW))) fW))) fW)))))
def vp(a:Ad):gK:=(g7 (mY (b1 tB (d2 kX (dV 1) (dA jr (fM (dV 0) fW)))) (jz (d2 gD (dV 0) (dV 1))) mZ)
    (jz (fQ 0)))
def uz(a:Ad):gK:=(pA 2 3<|fM (dV 3)<|fM (d2 gA (dV 2)<|dV 3) fW)
def vt(a:Ad):gK:=(g7 (pA 2 3 (fM (dA oB (fM (dV 0) fW)) (fM (dV 1) fW)))
    (g7 (jX (b1 tB (d2 lU (dV 3) (fQ 0))) (uz a) oJ)
    (jz (dA i0 (fM (d2 hJ (dV 0) (dV 2)) (fM (d2 hJ (dV 1) (dV 2)) fW))))))
def qh(a:Ad):gK:=(iR 5<|d2 gM (dV 5)<|d2 gD (qo "qxz")<|d2 gA (d2 hJ (dV 0)<|d2 gM (fQ 3)<|dV 6)<|fQ 3)
def sd(a:Ad):gK:=(g7 (iR 2 (qo "abcdefghijklmnopqrstuvwxyz"))
    (g7 (iR 3 (d2 gD (gZ (λb=>((fM (fQ 1) (fM (fQ 3) (fM (fQ 5) (fM (fQ 7) (fM (fQ 9) (fM (fQ 11) (fM (fQ 15) (fM (fQ 17) (fM (fQ 19) (fM (fQ 21) (fM (fQ 23) (fM (fQ 25) fW)))))))))))) b).bind ie)) (d2 gA (d2 hJ (dV 0) (fQ 26)) (fQ 12))))
    (g7 (iR 4 (d2 gM (d2 gD (dV 2) (d2 gA (d2 gM (dV 0) (d2 hK (dV 1) (dV 3))) (fQ 26))) (d2 gD (qo "qxz") (d2 gA (d2 hJ (dV 1) (fQ 26)) (fQ 3)))))
    (g7 (iR 5 (qo ""))
    (g7 (qK (λb=>((fM (d2 gA (d2 hJ (dV 0) (fQ 312)) (fQ 7)) fW) b).bind mx) (gV 6) (qh a))
    (g7 (mY (b1 tB (d2 iN (d2 gA (d2 hJ (dV 0) (fQ 2184)) (fQ 2)) (fQ 1))) (jz (d2 gM (dV 5) (dV 4))) mZ)
    (jz (d2 gM (dV 4) (dV 5)))))))))
end WP
namespace P2
open PySem PySem.W PyProof.Rows
def iO{b:Type}(n:Nat)(c:Nat->Nat->f5):KasT b->(b->Prop)->Prop
 |.ret a,Q=>Q a
 |.ask i j k,Q=>i<n/\j<n/\iO n c (k<|c i j) Q
theorem iO.bind{n}{c}{f:α->KasT β}{Q:β->Prop}:∀{t:KasT α},iO n c t (λa=>iO n c (f a) Q)->iO n c (t.bind f) Q
 |.ret _,h=>h
 |.ask i j k,h=>⟨h.1,h.2.1,iO.bind (t:=k<|c i j) h.2.2⟩
theorem iO.wp{n}{c}{Q:α->Prop}{G}{s}
 (b:∀i j,i<n->j<n->∀C:f5->fS->Prop,C (c i j) s->cmp i j C s)(d:∀a,Q a->G a s):∀{t},iO n c t Q->t.kasWp cmp G s
  |.ret a,h=>d a h
  |.ask i j k,h=>b i j h.1 h.2.1 _ (iO.wp b d (t:=k<|c i j) h.2.2)
section
variable{n:Nat}{c:Nat->Nat->f5}{rk:Nat->Int}
abbrev _root_.ke:=fY Nat
def KK(rk:Nat->Int)(p:ke)(i:Nat):Int:=rk ((p[i]?).getD 0)
def ic(n:Nat)(p:ke):Prop:=p.Perm (List.toArray<|List.range n)
def ic.size(h:ic n p):p.size=n:=by rw[h.size_eq];simp
def ic.lt(h:ic n p)(b:0<n)(k):p.getD k 0<n:=by
 rw[d5];cases e:p[k]? with
 |none=>simpa using b
 |some x=>
  have a:x∈p.toList:=by grind
  have:=(bz.mp h).mem_iff.mp a;simpa using this
def r4(rk)(p)(i):rk (p.getD i 0)=KK rk p i:=by unfold KK;rw[d5]
def KK_congr(h:p[i]?=q[j]?):KK rk p i=KK rk q j:=by unfold KK;rw[h]
def rf(a:j<=p.size)(k):KK rk (kas_rev p i j) k=if i<=k/\k<j then KK rk p (i+j - 1 - k)else KK rk p k:=by
 have:=d0 (i:=i) a k;unfold kas_rev;split;·rename_i h;rw[ae h]at this;exact KK_congr this
 ·rename_i h;rw[ah h]at this;exact KK_congr this
def ic.rev(h:ic n p)(i j):ic n (kas_rev p i j):=(mirror_perm ..).trans h
def ic.CM(h:ic n p)(i j):ic n (bubble p i j):=(bubble_perm ..).trans h
variable(s:∀i j,i<n->j<n->c i j=decide (rk i<rk j))
include s
theorem qg{p:ke}(h:ic n p)(a:0<n)(i j){k}{Q:α->Prop}(q:iO n c (k<|decide<|KK rk p i<KK rk p j) Q):iO n c (.ask (p.getD i 0) (p.getD j 0) k) Q:=by refine⟨h.lt a i,h.lt a j,?_⟩;rw[s _ _ (h.lt a i)<|h.lt a j,r4 rk p i,r4 rk p j];exact q
def kx(rk:Nat->Int)(p:ke)(m:Nat):Prop:=∀i j,i<=j->j<m->KK rk p i<=KK rk p j
def kB(rk:Nat->Int)(p:ke)(m:Nat):Prop:=∀i j,i<=j->j<m->KK rk p j<=KK rk p i
omit s in
theorem kx.snoc(h:kx rk p m)(d:1<=m)(e:KK rk p (m - 1)<=KK rk p m):kx rk p (m+1):=λi j a b=>by
 by_cases z:j=m
 ·subst z;by_cases y:i=j;·subst y;simp
  ·have:=h i (j - 1) (by lia) (by walk_at "l");walk_at "l"
 ·exact h i j a (by lia)
omit s in
theorem kB.snoc(h:kB rk p m)(d:1<=m)(e:KK rk p m<=KK rk p (m - 1)):kB rk p (m+1):=λi j a b=>by
 by_cases z:j=m
 ·subst z;by_cases y:i=j;·subst y;simp
  ·have:=h i (j - 1) (by lia) (by walk_at "l");walk_at "l"
 ·exact h i j a (by lia)
theorem wj{p:ke}(h:ic n p)(d:0<n):∀(f m:Nat),1<=m->kx rk p m->(∀b,m<=b->b<=m+f->kx rk p b->(b<m+f->KK rk p b<KK rk p (b - 1))->Q b)->iO n c (kas_asc p f m) Q
 |0,m,_,a,q=>q m (af _) (af _) a λw=>absurd w (by simp)
 |f+1,m,e,a,q=>by
  refine qg s h d m (m - 1) ?_;by_cases z:KK rk p m<KK rk p (m - 1)
  ·rw[aE z,ae rfl];exact q m (af _) (by simp) a λ_=>z
  ·rw[ax z,ah<|by decide];exact wj h d f (m+1) (by simp) (a.snoc e<|by simp_all) λb o l k g=>q b (by walk_at "l") (by lia) k λw=>g (by lia)
omit s in
theorem kB.rev(h:kB rk p m)(d:b<=p.size)(f:b<=m)(e:∀k,a<=k->k<b->KK rk p k=KK rk p (b - 1))(k):KK rk (kas_rev p a b) k=KK rk p k:=by
 rw[rf d]
 grind
theorem sT(t:0<n):∀(f:Nat) (p:ke) (m q:Nat),ic n p->1<=m->m+f<=n->q<m->kB rk p m->(∀k,m - (q+1)<=k->k<m->KK rk p k=KK rk p (m - 1))->
 (∀g d l,ic n g->m<=d->d<=m+f->l<d->kB rk g d->(∀k,d - (l+1)<=k->k<d->KK rk g k=KK rk g (d - 1))->Q (g,d,l))->iO n c (kas_desc f p m q) Q
 |0,p,m,q,h,_,_,C,a,e,r=>r p m q h (af _) (af _) C a e
 |f+1,p,m,q,h,F,H,C,a,e,r=>by
  have K:=h.size;refine qg s h t m (m - 1) ?_;by_cases z:KK rk p m<KK rk p (m - 1)
  ·rw[aE z,ae rfl];by_cases y:q>0
   ·rw[ae y];have B:=kB.rev (a:=m - (q+1)) (b:=m) a (by lia) (af _) e;have J:kB rk (kas_rev p (m - (q+1)) m) (m+1):=kB.snoc (λi j D I=>by rw[B,B];exact a i j D I) F (by rw[B,B];walk_at "l");exact sT t f _ (m+1) 0 (h.rev _ _) (by simp) (by lia) (by simp) J (λk o A=>by rw[show k=m+1 - 1 by lia]) λg d l o A G x v u=>r g d l o (by walk_at "l") (by lia) x v u
   ·rw[ah y];exact sT t f p (m+1) 0 h (by simp) (by lia) (by simp) (a.snoc F<|by walk_at "l") (λk o A=>by rw[show k=m+1 - 1 by lia]) λg d l o A G x v u=>r g d l o (by walk_at "l") (by lia) x v u
  ·rw[ax z,ah<|by decide];refine qg s h t (m - 1) m ?_;by_cases y:KK rk p (m - 1)<KK rk p m
   ·rw[aE y,ae rfl];exact r p m q h (af _) (by simp) C a e
   ·rw[ax y,ah<|by decide];have eq:KK rk p m=KK rk p (m - 1):=by lia
    refine sT t f p (m+1) (q+1) h (by simp) (by lia) (by walk_at "l") (a.snoc F<|by walk_at "l") (λk o A=>?_) λg d l o A G x v u=>r g d l o (by walk_at "l") (by lia) x v u;rw[Nat.add_sub_cancel];by_cases w:k=m;·rw[w]
    ·rw[e k (by simp_all)<|by lia,eq]
theorem An{p:ke}(h:ic n p)(g:0<n){m:Nat}(f:1<=m)(o:m<=n)(a:kB rk p m)(q:∀b d,ic n d->1<=b->b<=n->kx rk d b->Q (b,d)):iO n c (kas_tail3 m n p) Q:=by have l:=h.size;refine iO.bind (wj s (h.rev 0 m) g _ _ f (λi j e r=>?_) λb v u k t=>q b _ (h.rev 0 m) (by walk_at "l") (by simp_all) k);rw[rf<|by simp_all,rf<|by simp_all,ae<|by lia,ae<|by simp_all];exact a _ _ (by grind) (by omega)
theorem Ak{p:ke}(h:ic n p)(o:0<n){m:Nat}(w:1<=m)(A:m<n)(a:kB rk p m)(e:KK rk p m<KK rk p (m - 1))(q:∀d f,ic n f->1<=d->d<=n->kx rk f d->Q (d,f)):iO n c (kas_descPart m n p) Q:=by
 refine iO.bind (sT s o _ _ _ _ h (by simp) (by omega) (by simp) (a.snoc w<|by walk_at "l") (λk g y=>by rw[show k=m+1 - 1 by lia]) λf d u g y C B r x=>?_);dsimp only;have z:=g.size;split
 ·have t:=kB.rev (a:=d - (u+1)) (b:=d) r (by lia) (af _) x;exact An s (g.rev _ _) o (by lia) (by lia) (λi j l v=>by rw[t,t];exact r i j l v) q
 ·exact An s g o (by lia) (by lia) r q
theorem Ib{p:ke}(h:ic n p)(f:1<=n)(q:∀b o,ic n o->1<=b->b<=n->kx rk o b->Q (b,o)):iO n c (kas_count n p) Q:=by
 have w:=h.size;refine iO.bind (wj s h f _ _ (af 1) (λi j a r=>by rw[show i=j by simp_all];simp) λm l x g v=>?_);by_cases z:m=n
 ·subst z;simp only[beq_self_eq_true,cz];exact q m p h l (af _) g
 ·have t:¬(m==n)=true:=by simpa using z
  rw[ah t];have e:=v (by lia);split
  ·refine qg s h f 0 (m - 1) ?_;by_cases y:KK rk p 0<KK rk p (m - 1)
   ·rw[aE y,ae rfl];exact q m p h l (by simp_all) g
   ·rw[ax y,ah<|by decide];have al:∀k,k<m->KK rk p k=KK rk p (m - 1):=λk u=>by
     have:=g 0 k (by simp) u;have:=g k (m - 1) (by lia) (by walk_at "l")
     lia
    have d:∀k,KK rk (kas_rev p 0 m) k=KK rk p k:=λk=>by
     rw[rf<|by simp_all]
     grind
    exact Ak s (h.rev 0 m) f l (by lia) (λi j a r=>by rw[d,d,al i<|by walk_at "l",al j r];simp) (by rw[d,d];exact e) q
  ·exact Ak s h f l (by lia) (λi j a r=>by rw[show i=j by lia];simp) e q
theorem wo{p:ke}(h:ic n p)(g:0<n){k:Nat}(a:kx rk p k)(q:∀l,l<=k->(∀i,i<l->KK rk p i<=KK rk p k)->(∀i,l<=i->i<k->KK rk p k<KK rk p i)->Q l):
 ∀(f l r:Nat),l<=r->r<=k->r - l<=f->(∀i,i<l->KK rk p i<=KK rk p k)->(∀i,r<=i->i<k->KK rk p k<KK rk p i)->iO n c (kas_place p k f l r) Q
 |0,l,r,u,t,o,e,d=>q l (by walk_at "l") e λi m b=>d i (by lia) b
 |f+1,l,r,u,t,o,e,d=>by
  show iO n c (if l≥r then .ret l else _) Q;split;·exact q l (by walk_at "l") e λi m b=>d i (by walk_at "l") b
  ·refine qg s h g k ((l+r)/2) ?_;by_cases z:KK rk p k<KK rk p ((l+r)/2)
   ·rw[aE z,ae rfl];exact wo h g a q f l ((l+r)/2) (by lia) (by lia) (by grind) e λi m b=>by have:=a ((l+r)/2) i (by omega) b;walk_at "l"
   ·rw[ax z,ah<|by decide];exact wo h g a q f ((l+r)/2+1) r (by lia) (by omega) (by grind) (λi w=>by have:=a i ((l+r)/2) (by walk_at "l") (by lia);lia) d
theorem Aj(t:0<n)(q:∀p,ic n p->kx rk p n->Q p):∀(f:Nat) (p:ke) (k:Nat),ic n p->k+f=n->kx rk p k->iO n c (kas_bin f p k) Q
 |0,p,k,h,e,a=>q p h (by rw[<-e];exact a)
 |f+1,p,k,h,e,a=>by
  have A:=h.size;refine iO.bind (wo s h t a (λl C z y=>?_) k 0 k (by simp) (af _) (by simp) (λi w=>absurd w<|by simp) λi v d=>absurd v<|by grind);refine Aj t q f _ (k+1) (h.CM _ _) (by lia) λi j g B=>?_;have u:∀x,KK rk (bubble p k<|k - l) x=if x=l then KK rk p k else if l<x/\x<=k then KK rk p (x - 1)else KK rk p x:=λx=>by
   have:=getElem?_bubble (xs:=p) (src:=k) (by lia) (k - l) (by simp) x;rw[show k - (k - l)=l by lia]at this;split;·rename_i w;rw[ae w]at this;exact KK_congr this
   ·rename_i w;rw[ah w]at this;split;·rename_i d;rw[ae d]at this;exact KK_congr this
    ·rename_i d;rw[ah d]at this;exact KK_congr this
  rw[u,u];by_cases r:i=l
  ·rw[ae r];by_cases b:j=l;·rw[ae b];simp
   ·rw[ah b,ae<|by lia];have:=y (j - 1) (by lia) (by grind);walk_at "l"
  ·rw[ah r];by_cases o:l<i/\i<=k
   ·rw[ae o,ah<|by lia,ae<|by grind];exact a _ _ (by lia) (by lia)
   ·rw[ah o];by_cases b:j=l;·rw[ae b];exact z i (by lia)
    ·rw[ah b];by_cases m:l<j/\j<=k;·rw[ae m];exact a _ _ (by grind) (by grind)
     ·rw[ah m];exact a _ _ g (by lia)
theorem Ig(b:1<=n)(q:∀p,ic n p->kx rk p n->Q p):iO n c (kas_sort n) Q:=by
 refine iO.bind (Ib s (Array.Perm.refl _) b λa f e h g d=>?_);split
 ·rename_i z;rw[show max a 1=a by simp_all];exact Aj s b q _ _ _ e (by simp_all) d
 ·exact q f e (by rw[show n=a by lia];exact d)
end
def rankOf(n:Nat)(c:Nat->Nat->f5)(i:Nat):Int:=(((List.range n).filter λj=>c j i).length:Nat)
def vd{l:fL α}(h:∀x∈l,p x=true->q x=true):(l.filter p).length<=(l.filter q).length:=by
 induction l with
 |nil=>simp
 |cons a l b=>grind
def yS{l:fL α}(h:∀x∈l,p x=true->q x=true)(b:y∈l)(f:p y=false)(e:q y=true):(l.filter p).length<(l.filter q).length:=by
 induction l with
 |nil=>simp at b
 |cons a l d=>
  have le:=vd λx c=>h x (.tail _ c)
  grind
def M6{n:Nat}{c:Nat->Nat->f5}(b:∀i,i<n->c i i=false)(g:∀i j k,i<n->j<n->k<n->c i j=true->c j k=true->c i k=true)
 (m:∀i j k,i<n->j<n->k<n->c i j=true->c k j=true\/c i k=true)(i j)(a:i<n)(f:j<n):c i j=decide (rankOf n c i<rankOf n c j):=by
  cases h:c i j with
  |true=>
   symm
   rw[aY];have:=yS (l:=List.range n) (p:=λk=>c k i) (q:=λk=>c k j) (λk d e=>g k i j (by simpa using d) a f e h) (y:=i) (by simpa using a) (b i a) h;unfold rankOf;simp_all
  |false=>
   symm
   rw[dj];have:=vd (l:=List.range n) (p:=λk=>c k j) (q:=λk=>c k i) (λk d e=>by
    rcases m k j i (by simpa using d) f a e with h2|h2;· lia
    · exact h2)
   unfold rankOf;simp_all
end P2
namespace P2
open PySem L2 PySem.Spec PySem.Calls
open PyProof.Rows hiding St
def uI:bootBuiltins "sorted"=some (.builtin "sorted"):=by decide+kernel
end P2
namespace P2
open PySem L2 PySem.Spec PySem.Calls PySem.W
open PyProof.Rows hiding St K
variable{prog:gy}{w:gs}{A:gz}{E:gE}{s:fS}
abbrev Nj(κ:SortKind)(us:gq):SortSt:=SortSt.mk' κ (us.toArray.zip us.toArray) #[] 7 none
def uk(prog:gy)(w:gs)(G:fY fN->Prop)(a:gq)(t:fS):Prop:=
 ∀B:gz,wpAny (model prog w) B (keyKind' a.toArray) (λc d=>d=t/\wpAny (model prog w) B ((sortRuns').run (Nj c a)) (λr b=>b=t/\failedOf r.2=none/\((arrOf r.2).map (·.2)).size=a.length/\G ((arrOf r.2).map (·.2))) (λ_ _=>False) t) (λ_ _=>False) t
def NX{d}{a:gq}{G:fY fN->Prop}{Q:PySem.Fin->fS->Prop}(n:s.heap.get? d=some (seqObj "list" a.toArray e))(C:a.length<=sizeLine)(D:a.length<2->G a.toArray)
 (K:2<=a.length->∀t:fS,(∀b o,b≠d->s.heap.get? b=some o->t.heap.get? b=some o)->uk prog w G a t)
 (k:∀out:fY fN,out.size=a.length->G out->Q (.done<|.ret .none) {s with heap:=sortedHeap s.heap d a out}):wpAny (model prog w) A (Builtin.«list.sort» ⟨[.ref d],[]⟩) Q E s:=by
  have i:d<s.heap.objs.size:=Heap.lt_size n;rw[list_sort_plain];apply aa;apply d6 n rfl;apply aa;apply cR n rfl (hsz:=by simpa using C) (hsz2:=bo _);have f:=dY n (λ_=>(#[]:fY fN));apply aa;apply eA f rfl;apply aa;refine wpAny_newTuple ?_ (by simpa using C);apply aa;refine eI ?_ (bo _);refine cb ?_;generalize B:((s.heap.update d<|Obj.mapSeq λ_=>(#[]:fY fN)).push (seqObj "tuple" a.toArray 0)).push (seqObj "list" #[] 0)=h6;have L:∀out:fY fN,h6.update d (Obj.mapSeq λ_=>out)=sortedHeap s.heap d a out:=λout=>by rw[<-B];rfl
  have v:d≠(s.heap.update d<|Obj.mapSeq λ_=>(#[]:fY fN)).objs.size:=by rw[c6];exact aZ i
  have u:∀o:iC,d≠((s.heap.update d<|Obj.mapSeq λ_=>(#[]:fY fN)).push o).objs.size:=λo=>by rw[size_push',c6];exact aZ (cX i)
  have c:∃l,h6.get? d=some (seqObj "list" #[] l)/\((s.heap.update d<|Obj.mapSeq λ_=>(#[]:fY fN)).get? d=some (seqObj "list" #[] l)):=by refine⟨_,?_,f⟩;rw[<-B,du _ _ _<|u _,du _ _ _ v];exact f
  obtain⟨l,c,j⟩:=c;have F:=f.symm.trans j;have p:∀b o,b≠d->s.heap.get? b=some o->h6.get? b=some o:=λb o J q=>by rw[<-B];refine ag _ (ag _ ?_);rw[d4 _ _ _ _ J];exact q
  show wpAny (model prog w) A _ Q E {s with heap:=h6};dsimp only;have g:∀out:fY fN,out.size=a.length->G out->wpAny (model prog w) A (Builtin.List.listUpdate (.ref d) λ_=>out) (λ_ t=>t={s with heap:=sortedHeap s.heap d a out}) E {s with heap:=h6}:=λout I m=>by refine cR (s:={s with heap:=h6}) c rfl ?_ (hsz:=bo _) (hsz2:=by rw[I];walk_at "l");show({s with heap:=h6.update d<|Obj.mapSeq λ_=>out}:fS)=_;rw[L out]
  by_cases h:a.toArray.size<2
  ·rw[ae h,ae h];apply aa;apply aG;rw[StateT.run_pure];apply aa;apply aG;dsimp only;apply aa;apply eA (s:={s with heap:=h6}) c rfl;have M:(arrOf<|SortSt.mk' general' (a.toArray.zip a.toArray) #[] 7 none).map (·.2)=a.toArray:=by
    show(a.toArray.zip a.toArray).map (·.2)=_;apply cf.mp;rw[dI];simp only[eU];rw[<-List.unzip_snd,List.unzip_zip rfl]
   rw[M];refine aa (aU (g a.toArray (by simp)<|D<|by simpa using h) (λ_ t y=>?_) λ_ _ x=>x);subst y;have:l=(if(#[]:fY fN).size==a.toArray.size then e else e+1):=by injection F with w1;injection w1 with _ _ w2;injection w2 with _ w3;exact w3.symm
   rw[<-this];simp only[eC,bR,bU];exact aG (k _ (by simp)<|D<|by simpa using h)
  ·rw[ah h,ah h];refine aa (aU (K (by simpa using h) {s with heap:=h6} p A) (λN t z=>?_) λ_ _ x=>x.elim);obtain⟨rfl,z⟩:=z;refine aa (aU z (λr t H=>?_) λ_ _ x=>x.elim);obtain⟨rfl,hf,hsz,m⟩:=H;obtain⟨⟨⟩,O⟩:=r;dsimp only at hf hsz m⊢;apply aa;apply eA (s:={s with heap:=h6}) c rfl;refine aa (aU (g _ hsz m) (λ_ t y=>?_) λ_ _ x=>x);subst y;rw[hf];have:l=(if(#[]:fY fN).size==a.toArray.size then e else e+1):=by injection F with w1;injection w1 with _ _ w2;injection w2 with _ w3;exact w3.symm
   rw[<-this];simp only[eC,bR,bU];exact aG (k _ hsz m)
def Ba{a:gq}{G:fY fN->Prop}{Q:gE}(j:s.heap.IsList l a.toArray)(d:a.length<=sizeLine)(r:a.length<2->G a.toArray)
 (p:2<=a.length->∀t:fS,(∀b o,s.heap.get? b=some o->t.heap.get? b=some o)->uk prog w G a t)
 (k:∀out:fY fN,out.size=a.length->G out->Q (.ref<|s.heap.objs.size+1) {s with heap:=sortedAll s.heap a out}):wpAny (model prog w) A (call (.builtin "sorted") [.ref l]) Q E s:=by
  refine call_function_entry kind_sorted plain_sorted entry_sorted (args_sorted1 _) ?_;unfold Builtin.«sorted»;refine aa (m:=checkCount "sorted" 1 1 _) (aG ?_);apply aa;refine collect_list j ?_ d;apply aa;refine eI ?_ d;have c:((s.heap.push<|seqObj "list" #[] 0).update s.heap.objs.size (Obj.mapSeq (· ++a.toArray))).objs.size=s.heap.objs.size+1:=by rw[c6,size_push']
  generalize h:(s.heap.push<|seqObj "list" #[] 0).update s.heap.objs.size (Obj.mapSeq (· ++a.toArray))=g at c;have here:(g.push<|seqObj "list" a.toArray 0).get? (s.heap.objs.size+1)=some (seqObj "list" a.toArray 0):=by rw[<-c];exact aQ _ rfl
  have f:∀b o,s.heap.get? b=some o->b≠s.heap.objs.size+1/\(g.push<|seqObj "list" a.toArray 0).get? b=some o:=λb o q=>by have lt:=Heap.lt_size q;refine⟨aZ<|cX lt,ag _ ?_⟩;rw[<-h,d4 _ _ _ _<|aZ lt];exact ag _ q
  show wpAny _ _ _ _ _ {s with heap:=g.push<|seqObj "list" a.toArray 0};rw[c];refine aa (cb<|eS slot_list_sort ⟨_,here,rfl⟩ entry_list_sort (NX (s:={s with heap:=g.push<|seqObj "list" a.toArray 0}) here d r (λn t i=>p n t λb o q=>i b o (f b o q).1 (f b o q).2) λout u v=>⟨_,rfl,?_⟩)<|args_list_sort _);refine aG ⟨_,rfl,?_⟩;have e:sortedHeap (g.push<|seqObj "list" a.toArray 0) (s.heap.objs.size+1) a out=sortedAll s.heap a out:=by rw[<-h];rfl
  simp_all
noncomputable def j6:fL D->fL D->f5
 |.int i::xs,.int j::a=>if i=j then j6 xs a else decide (i<j)
 |.str i::xs,.str j::a=>if i=j then j6 xs a else decide (i.cps.toList<j.cps.toList)
 |[],_::_=>true
 |_,_=>false
noncomputable def ltQ:D->D->f5
 |.int i,.int j=>decide (i<j)
 |.str i,.str j=>decide (i.cps.toList<j.cps.toList)
 |.tup a,.tup b=>j6 a b
 |_,_=>false
noncomputable def kK:fL D->fU (fL Nat)
 |[]=>some []
 |.int _::r=>(kK r).map (0:: ·)
 |.str _::r=>(kK r).map (1:: ·)
 |_=>none
noncomputable def ik:D->fU (fL Nat)
 |.int _=>some [0]
 |.str _=>some [1]
 |.tup (a::r)=>(kK<|a::r).map (2:: ·)
 |_=>none
def ml:fL D->f5
 |[]=>true
 |d::r=>(ik d).isSome&&r.all λe=>ik e==ik d
def zq(h:ml ds=true):∃s,∀d∈ds,ik d=some s:=by
 cases ds with
 |nil=>exact⟨[],λd a=>by simp at a⟩
 |cons d r=>unfold ml at h;simp only[aK,cD,eY]at h;obtain⟨s,b⟩:=dc.mp h.1;simp_all
def N1{x y:fR}(h:x.cps.toList=y.cps.toList):x=y:=by cases x;cases y;simp_all
def tw{x y:fR}(b:¬x.cps.toList<y.cps.toList)(a:¬y.cps.toList<x.cps.toList):x=y:=
 N1 (List.le_antisymm (List.not_lt.mp a)<|List.not_lt.mp b)
def n3{i:Int}{s}(h:kK (.int i::r)=some s):∃t,s=0::t/\kK r=some t:=by obtain⟨t,b,a⟩:=aA.mp (show(kK r).map (0:: ·)=some s from h);simp_all
def n6{s}(h:kK (.str i::r)=some s):∃t,s=1::t/\kK r=some t:=by obtain⟨t,b,a⟩:=aA.mp (show(kK r).map (1:: ·)=some s from h);simp_all
inductive kD:List D->List D->Prop
 |nil:kD [] []
 |int (i j:Int) {xs ys:List D}:kD xs ys->kD (.int i::xs) (.int j::ys)
 |str (i j:Str) {xs ys:List D}:kD xs ys->kD (.str i::xs) (.str j::ys)
theorem xj:∀{a b} {s},kK a=some s->kK b=some s->kD a b
 |[],b,s,c,f=>by
  cases c;cases b with
  |nil=>exact .nil
  |cons d r=>
   cases d with
   |int i=>obtain⟨t,e,_⟩:=n3 f;cases e
   |str i=>obtain⟨t,e,_⟩:=n6 f;cases e
   |_=>cases f
 |.int i::xs,b,s,c,f=>by
  obtain⟨t,rfl,k⟩:=n3 c;cases b with
  |nil=>cases f
  |cons d r=>
   cases d with
   |int j=>obtain⟨g,e,h⟩:=n3 f;cases e;exact .int i j (xj k h)
   |str j=>obtain⟨g,e,_⟩:=n6 f;cases e
   |_=>cases f
 |.str i::xs,b,s,c,f=>by
  obtain⟨t,rfl,k⟩:=n6 c;cases b with
  |nil=>cases f
  |cons d r=>
   cases d with
   |str j=>obtain⟨g,e,h⟩:=n6 f;cases e;exact .str i j (xj k h)
   |int j=>obtain⟨g,e,_⟩:=n3 f;cases e
   |_=>cases f
 |.non::_,_,_,c,_=>by cases c
 |.bl _::_,_,_,c,_=>by cases c
 |.ty _::_,_,_,c,_=>by cases c
 |.ref _::_,_,_,c,_=>by cases c
 |.tup _::_,_,_,c,_=>by cases c
 |.lst _::_,_,_,c,_=>by cases c
 |.exc _ _ _::_,_,_,c,_=>by cases c
def qA(i j:Int)(xs ys):j6 (.int i::xs) (.int j::ys)=if i=j then j6 xs ys else decide (i<j):=rfl
def qB(i j xs ys):j6 (.str i::xs) (.str j::ys)=if i=j then j6 xs ys else decide (i.cps.toList<j.cps.toList):=rfl
def zS(h:kD a b):j6 a a=false:=by
 induction h with
 |nil=>rfl
 |int i j h c=>rw[qA,ae rfl];exact c
 |str i j h c=>rw[qB,ae rfl];exact c
def G6(h:kD a b)(d:j6 a b=false)(c:j6 b a=false):a=b:=by
 induction h with
 |nil=>rfl
 |int i j h f=>
  rw[qA]at d c
  lia
 |str i j h f=>
  rw[qB]at d c;by_cases e:i=j;·lia
  ·rw[ah e]at d;rw[ah<|b7 e]at c;simp only[dj]at d c;exact absurd (tw d c) e
def G5(p:kD a b)(q:kD b c)(e:j6 a b=true)(f:j6 b c=true):j6 a c=true:=by
 have l:∀{α d:Type} [DecidableEq α] [LT d] [DecidableRel (α:=d) (· < ·)] (g:α->d),(∀{i j k:d},i<j->j<k->i<k)->(∀i:d,¬i<i)->∀{i j k:α} {P Q R:f5},(P=true->Q=true->R=true)->(if i=j then P else decide (g i<g j))=true->(if j=k then Q else decide (g j<g k))=true->(if i=k then R else decide (g i<g k))=true:=by grind
 induction p generalizing c with
 |nil=>cases e
 |int i j p h=>
  cases q with
  |int _ k q=>
   rw[qA]at e f⊢
   grind
 |str i j p h=>
  cases q with
  |str _ k q=>
   rw[qB]at e f⊢
   grind
inductive rp:D->D->Prop
 |int (i j:Int):rp (.int i) (.int j)
 |str (i j:Str):rp (.str i) (.str j)
 |tup {a b:List D} {d e:D}:kD (d::a) (e::b)->rp (.tup<|d::a) (.tup<|e::b)
def lA{s}(h:ik x=some s):(∃i,x=.int i/\s=[0])\/(∃i,x=.str i/\s=[1])\/∃d r t,x=.tup (d::r)/\s=2::t/\kK (d::r)=some t:=by
 unfold ik at h;split at h;·simp_all
 ·simp_all
 ·rename_i a r;obtain⟨t,c,b⟩:=aA.mp h
  grind
 ·cases h
def my{s}(h:ik x=some s)(a:ik y=some s):rp x y:=by
 rcases lA h with⟨i,rfl,rfl⟩|⟨i,rfl,rfl⟩|⟨d,r,t,rfl,rfl,k⟩
 ·rcases lA a with⟨j,rfl,_⟩|⟨j,rfl,e⟩|⟨g,f,c,rfl,e,b⟩;·exact .int i j
  ·cases e
  ·cases e
 ·rcases lA a with⟨j,rfl,e⟩|⟨j,rfl,e⟩|⟨g,f,c,rfl,e,b⟩;·cases e
  ·exact .str i j
  ·cases e
 ·rcases lA a with⟨j,rfl,e⟩|⟨j,rfl,e⟩|⟨g,f,c,rfl,e,b⟩;·cases e
  ·cases e
  ·cases e;exact .tup (xj k b)
def z0{s}(h:ik x=some s):ltQ x x=false:=by
 cases my h h with
 |int i j=>exact ax (by simp)
 |str i j=>exact ax (dw _)
 |tup q=>exact zS q
def v7{s}(f:ik x=some s)(e:ik y=some s)(d:ltQ x y=false)(c:ltQ y x=false):x=y:=by
 cases my f e with
 |int i j=>
  have a:=aW d;have b:=aW c
  grind
 |str i j=>rw[tw (aW d)<|aW c]
 |tup q=>rw[G6 q d c]
def sM{s}(h:ik x=some s)(c:ik y=some s)(d:ik z=some s)(f:ltQ x y=true)(e:ltQ y z=true):ltQ x z=true:=by
 cases my h c with
 |int i j=>
  cases my c d with
  |int _ k=>have a:=aX f;have b:=aX e;exact aE (by lia)
 |str i j=>
  cases my c d with
  |str _ k=>exact aE (List.lt_trans (aX f)<|aX e)
 |tup q=>
  cases my c d with
  |tup g=>exact G5 q g f e
def oZ(x:D):fL D->fL D
 |[]=>[x]
 |y::r=>if ltQ y x=true then y::oZ x r else x::y::r
def jU(a:gx):fL D:=a.foldr oZ []
def ox(c:gx):Prop:=c.Pairwise λa b=>ltQ b a=false
theorem vF(x):∀r:fL D,(oZ x r).Perm (x::r)
 |[]=>.refl _
 |y::r=>by
  unfold oZ;split;·exact((vF x r).cons y).trans (.swap x y r)
  ·exact .refl _
theorem n9:∀a:fL D,(jU a).Perm a
 |[]=>.refl _
 |d::r=>(vF d<|jU r).trans ((n9 r).cons d)
theorem zz{s}(e:ik x=some s):∀{r},(∀d∈r,ik d=some s)->ox r->ox (oZ x r)
 |[],_,_=>cE ..
 |y::r,g,h=>by
  have c:=g y (.head _);obtain⟨i,l⟩:=aV.mp h;unfold oZ;split
  ·rename_i lt;refine aV.mpr ⟨λz a=>?_,zz e (λd k=>g d<|.tail _ k) l⟩;rcases aH.mp ((vF x r).mem_iff.mp a)with rfl|a
   ·cases q:ltQ z y with
    |false=>rfl
    |true=>have:=sM c e c lt q;rw[z0 c]at this;cases this
   ·exact i z a
  ·rename_i lt;have b:ltQ y x=false:=by simpa using lt
   refine aV.mpr ⟨λz a=>?_,h⟩;rcases aH.mp a with rfl|a;·exact b
   ·cases q:ltQ z x with
    |false=>rfl
    |true=>
     have f:=g z (.tail _ a);cases j:ltQ x y with
     |true=>have:=sM f e c q j;rw[i z a]at this;cases this
     |false=>rw[v7 e c j b]at q;rw[i z a]at q;cases q
theorem wY{s}:∀{ds},(∀d∈ds,ik d=some s)->ox (jU ds)
 |[],_=>.nil
 |d::r,h=>zz (h d<|.head _) (λe a=>h e<|.tail _<|(n9 r).mem_iff.mp a) (wY λe a=>h e<|.tail _ a)
def Nf{s}{a:gx}(h:a.Perm b)(c:∀d∈a,ik d=some s)(i:ox a)(g:ox b):a=b:=
 df (λx y f e k j=>v7 (c x f) (c y<|h.symm.mem_iff.mp e) j k) i g h
def qN:D->R (fL D)
 |.lst ds=>if ml ds=true/\ds.length<64 then .ok (jU ds)else .bad
 |_=>.bad
def oo:D->fN->Prop
 |.int i,.int j _=>i=j
 |.str x,.str y _=>x=y
 |_,_=>False
inductive mA:List D->List Value->Prop
 |nil:mA [] []
 |cons {d:D} {v:Value} {ds:List D} {vs:List Value}:oo d v->mA ds vs->mA (d::ds) (v::vs)
def TupAt(h:gc)(u:fN)(c:gx):Prop:=∃a o b n,u=.ref a/\h.get? a=some o/\o.cls=.type "tuple"/\o.data=.seq b n/\mA c b.toList
def TupAt.keep{u}(t:TupAt h u ds)(k:∀b o,h.get? b=some o->h'.get? b=some o):TupAt h' u ds:=
 let⟨a,o,c,n,e,d,r⟩:=t;⟨a,o,c,n,e,k a o d,r⟩
def oq(h:gc)(u:fN):D->Prop
 |.int i=>oo (.int i) u
 |.str x=>oo (.str x) u
 |.tup ds=>TupAt h u ds
 |_=>False
def oq.keep{u d}(t:oq h u d)(k:∀b o,h.get? b=some o->h'.get? b=some o):oq h' u d:=by
 cases d with
 |tup a=>exact TupAt.keep t k
 |_=>exact t
def oR(h:oo (.int i) v):∃t,v=.int i t:=by
 cases v with
 |int j t=>cases h;exact⟨t,rfl⟩
 |_=>exact h.elim
def oS(h:oo (.str i) v):∃t,v=.str i t:=by
 cases v with
 |str j t=>cases h;exact⟨t,rfl⟩
 |_=>exact h.elim
def Ao{t u}(h:Q (decide<|i<j) s):wpAny (model prog w) A (oneLt' b (.int i t)<|.int j u) Q E s:=by
 cases b with
 |true=>exact oneLt_int h
 |false=>exact kat_one _ _ (lt_int h)
def Aq{t u}(h:Q (decide<|i.cps.toList<j.cps.toList) s):wpAny (model prog w) A (oneLt' b (.str i t)<|.str j u) Q E s:=by
 cases b with
 |true=>exact oneLt_str h
 |false=>exact kat_one _ _ (PyProof.Rows.lt_str h)
def G4:∀{b a},kD b a->∀{d c} i,mA b d->mA a c->(b=a->Q fin s)->(b≠a->Q (j6 b a) s)->KatLex prog w A fl fin Q (d.zip c) i s:=by
 intro b a q;induction q with
 |nil=>intro d c i f g h _;cases f;cases g;exact h rfl
 |int x y q m=>
  intro d c i f g n j;cases f with
  |cons p l=>
   cases g with
   |cons o k=>
    obtain⟨t,rfl⟩:=oR p;obtain⟨r,rfl⟩:=oR o;rw[bJ];refine kat_cons (eN ?_);by_cases e:x=y
    ·subst e;rw[show(x==x)=true by simp];refine kat_yes (m (i+1) l k (λw=>n<|by rw[w]) λw=>?_);have:=j (λz=>w<|by injection z)
     rwa [qA,ae rfl]at this
    ·rw[show(x==y)=false by simpa using e];refine kat_no (Ao ?_);have:=j (λz=>e<|by injection z with z1;injection z1)
     rwa [qA,ah e]at this
 |str x y q m=>
  intro d c i f g n j;cases f with
  |cons p l=>
   cases g with
   |cons o k=>
    obtain⟨t,rfl⟩:=oS p;obtain⟨r,rfl⟩:=oS o;rw[bJ];refine kat_cons (eO ?_);by_cases e:x=y
    ·subst e;rw[show decide (x=x)=true by simp];refine kat_yes (m (i+1) l k (λw=>n<|by rw[w]) λw=>?_);have:=j (λz=>w<|by injection z)
     rwa [qB,ae rfl]at this
    ·rw[show decide (x=y)=false by simpa using e];refine kat_no (Aq ?_);have:=j (λz=>e<|by injection z with z1;injection z1)
     rwa [qB,ah e]at this
def xV(h:mA xs us):xs.length=us.length:=by
 induction h with
 |nil=>rfl
 |cons _ _ a=>simp_all
def OQ{u}(q:kD xs ys)(f:TupAt s.heap u xs)(hv:TupAt s.heap v ys)(h:Q (j6 xs ys) s):wpAny (model prog w) A (keyLt' (tuples' fl) u v) Q E s:=by obtain⟨a,o,r,n,rfl,i,y,g,c⟩:=f;obtain⟨b,p,l,m,rfl,k,z,j,d⟩:=hv;refine kat_lt i g k j (G4 q 0 c d (λe=>?_) λ_=>h);have x:=xV c;have t:=xV d;subst e;rw[zS q]at h;simp_all
inductive jP(h:Heap):List Value->List D->Prop
 |nil:jP h [] []
 |cons {u:Value} {d:D} {us:List Value} {ds:List D}:oq h u d->jP h us ds->jP h (u::us) (d::ds)
def jP.keep(t:jP h us ds)(k:∀b o,h.get? b=some o->h'.get? b=some o):jP h' us ds:=by
 induction t with
 |nil=>exact .nil
 |cons a _ c=>exact .cons (a.keep k) c
def jP.len(t:jP h us ds):us.length=ds.length:=by
 induction t with
 |nil=>rfl
 |cons a _ b=>simp_all
def jP.get(t:jP h us ds):∀{i},i<ds.length->oq h (us.getD i .none) (ds.getD i .non):=by
 induction t with
 |nil=>simp
 |cons a _ b=>grind
theorem zA:∀{c} {f},jP h c f->(∀d∈f,ik d=some [0])->∃b,IntsAre c b
 |_,_,.nil,_=>⟨[],.nil⟩
 |_,_,.cons (d:=d) a r,hs=>by
  rcases lA (hs d (.head _))with⟨i,rfl,_⟩|⟨i,rfl,e⟩|⟨_,_,_,rfl,e,_⟩
  ·obtain⟨t,rfl⟩:=oR a;obtain⟨b,g⟩:=zA r λd j=>hs d (.tail _ j);exact⟨i::b,.cons i t g⟩
  ·cases e
  ·cases e
theorem Bi:∀{c} {f},jP h c f->(∀d∈f,ik d=some [1])->∃b,StrsAre c b
 |_,_,.nil,_=>⟨[],.nil⟩
 |_,_,.cons (d:=d) a r,hs=>by
  rcases lA (hs d (.head _))with⟨i,rfl,e⟩|⟨i,rfl,_⟩|⟨_,_,_,rfl,e,_⟩;·cases e
  ·obtain⟨t,rfl⟩:=oS a;obtain⟨b,g⟩:=Bi r λd j=>hs d (.tail _ j);exact⟨i::b,.cons i t g⟩
  ·cases e
theorem Bt{k t}:∀{g} {q},jP h g q->(∀d∈q,ik d=some (2::k::t))->∃fs,KatTups h g fs/\fs.length=g.length/\∀v∈fs,(k=0/\∃i u,v=.int i u)\/(k=1/\∃i u,v=.str i u)
 |_,_,.nil,_=>⟨[],.nil,rfl,λv hv=>by simp at hv⟩
 |_,_,.cons (d:=d) a r,hs=>by
  obtain⟨fs,H,G,F⟩:=Bt r λd x=>hs d (.tail _ x);rcases lA (hs d (.head _))with⟨i,rfl,e⟩|⟨i,rfl,e⟩|⟨I,L,K,rfl,e,l⟩;·cases e
  ·cases e
  ·cases e;obtain⟨b,o,p,n,rfl,C,B,y,c⟩:=a;cases j:p.toList with
   |nil=>rw[j]at c;cases c
   |cons f J=>
    rw[j]at c;cases c with
    |cons hf M=>
     have D:p[0]?=some f:=by rw[<-aO,j];rfl
     refine⟨f::fs,.cons C B y D H,by simp[G],λv hv=>?_⟩;rcases aH.mp hv with rfl|hv
     ·cases I with
      |int i=>obtain⟨z,m,_⟩:=n3 l;cases m;obtain⟨u,rfl⟩:=oR hf;exact .inl ⟨rfl,i,u,rfl⟩
      |str i=>obtain⟨z,m,_⟩:=n6 l;cases m;obtain⟨u,rfl⟩:=oS hf;exact .inr ⟨rfl,i,u,rfl⟩
      |_=>cases l
     ·exact F v hv
def GO(t:jP s.heap us ds)(W:2<=us.length)(H:∀d∈ds,ik d=some sg):
    ∃L:SortKind,(∀Q:SortKind->fS->Prop,Q L s->wpAny (model prog w) A (keyKind' us.toArray) Q E s)/\
     ∀i j,i<ds.length->j<ds.length->∀C:f5->fS->Prop,C (ltQ (ds.getD i .non)<|ds.getD j .non) s->wpAny (model prog w) A (keyLt' L (us.getD i .none)<|us.getD j .none) C E s:=by
 have hl:=t.len;have n:∀i,i<ds.length->ik (ds.getD i .non)=some sg:=λi h=>by simp_all
 have Y:=n 0 (by lia);obtain⟨D,B,r,rfl⟩:∃D B r,us=D::B::r:=by
  match us,W with
  |D::B::r,_=>exact⟨D,B,r,rfl⟩
 rcases lA Y with⟨U,N,rfl⟩|⟨U,N,rfl⟩|⟨O,Z,R,N,rfl,o⟩
 ·obtain⟨S,I⟩:=zA t H;refine⟨oneType',λQ q=>by rw[keyKind_ints I];exact aG q,λi j h l C c=>?_⟩;have a:=t.get h;have b:=t.get l;have g:=n i h;have m:=n j l;generalize ds.getD i .non=x at a c g;generalize ds.getD j .non=y at b c m;cases my g m with
  |int x y=>obtain⟨F,p⟩:=oR a;obtain⟨P,o⟩:=oR b;rw[p,o,keyLt'_oneType];exact oneLt_int c
  |str x y=>cases g
  |tup q=>rcases lA g with⟨_,e,_⟩|⟨_,e,_⟩|⟨_,_,_,_,e,_⟩<;>cases e
 ·obtain⟨S,I⟩:=Bi t H;refine⟨oneType',λQ q=>by rw[keyKind_strs I];exact aG q,λi j h l C c=>?_⟩;have a:=t.get h;have b:=t.get l;have g:=n i h;have m:=n j l;generalize ds.getD i .non=x at a c g;generalize ds.getD j .non=y at b c m;cases my g m with
  |int x y=>cases g
  |str x y=>obtain⟨F,p⟩:=oS a;obtain⟨P,o⟩:=oS b;rw[p,o,keyLt'_oneType];exact oneLt_str c
  |tup q=>rcases lA g with⟨_,e,_⟩|⟨_,e,_⟩|⟨_,_,_,_,e,_⟩<;>cases e
 ·obtain⟨k,F,G⟩:∃k F,R=k::F:=by
   cases O with
   |int i=>obtain⟨z,p,_⟩:=n3 o;exact⟨_,_,p⟩
   |str i=>obtain⟨z,p,_⟩:=n6 o;exact⟨_,_,p⟩
   |_=>cases o
  subst G;obtain⟨fs,M,K,J⟩:=Bt t H;refine⟨tuples' true,λQ q=>?_,λi j h l C c=>?_⟩
  ·have V:k=0\/k=1:=by
    cases fs with
    |nil=>simp at K
    |cons f fr=>rcases J f (.head _)with⟨e,_⟩|⟨e,_⟩<;>simp_all
   rcases V with rfl|rfl
   ·refine kat_kind (T:=.type "int") M (by rw[K];simp) (λv hv=>?_) (by rfl) q;rcases J v hv with⟨_,i,u,rfl⟩|⟨e,_⟩;·exact .now
    ·cases e
   ·refine kat_kind (T:=.type "str") M (by rw[K];simp) (λv hv=>?_) (by rfl) q;rcases J v hv with⟨e,_⟩|⟨_,i,u,rfl⟩;·cases e
    ·exact .now
  ·have a:=t.get h;have b:=t.get l;have g:=n i h;have m:=n j l;generalize ds.getD i .non=x at a c g;generalize ds.getD j .non=y at b c m;cases my g m with
   |tup q=>exact OQ q a b c
   |_=>cases g
def outs(a:gq)(p:ke):fL fN:=p.toList.map λi=>a.getD i .none
def outD(a:gx)(p:ke):fL D:=p.toList.map λi=>a.getD i .non
def EV(l:fL α)(x):(List.range l.length).map (λi=>l.getD i x)=l:=by
 apply List.ext_getElem;·simp
 ·simp_all
def IM(h:ic ds.length p):(outD ds p).Perm ds:=by have:=(bz.mp h).map λi=>ds.getD i .non;rw[show(List.range ds.length).toArray.toList=List.range ds.length from rfl,EV]at this;exact this
def IP(n:∀d∈ds,ik d=some sg)(h:ic ds.length p)(e:0<ds.length)
 (a:kx (rankOf ds.length λi j=>ltQ (ds.getD i .non)<|ds.getD j .non) p ds.length)(o:∀i j,i<ds.length->j<ds.length->ltQ (ds.getD i .non) (ds.getD j .non)=decide (rankOf ds.length (λi j=>ltQ (ds.getD i .non)<|ds.getD j .non) i<rankOf ds.length (λi j=>ltQ (ds.getD i .non)<|ds.getD j .non) j)):ox (outD ds p):=by
  have sz:=h.size;refine bQ.mpr λi j c b f=>?_;unfold outD at c b⊢;rw[ar,aJ]at c b;rw[dJ,dJ,fC,fC];have m:p.getD i 0=p[i]:=by simp[Array.getD,c]
  have l:p.getD j 0=p[j]:=by simp[Array.getD,b]
  have k:=h.lt e i;have g:=h.lt e j;have le:=a i j (by walk_at "l") (by simp_all);rw[<-r4,<-r4]at le;simp_all
def NW(t:jP s.heap us ds)(N:ml ds=true)(H:2<=us.length)(u:us.length<64):uk prog w (λout=>∃p,ic ds.length p/\out.toList=P2.outs us p/\outD ds p=jU ds) us s:=by
 intro B;obtain⟨I,m⟩:=zq N;obtain⟨Y,L,K⟩:=GO (prog:=prog) (w:=w) (A:=B) (E:=λ_ _=>False) t H m;have M:=t.len;have f:∀i,i<ds.length->ik (ds.getD i .non)=some I:=λi b=>by simp_all
 have F:=M6 (n:=ds.length) (c:=λi j=>ltQ (ds.getD i .non)<|ds.getD j .non) (λi b=>z0<|f i b) (λi j k b l o=>sM (f i b) (f j l)<|f k o) λi j k b l o h=>by
  cases z:ltQ (ds.getD k .non) (ds.getD j .non)with
  |true=>exact .inl rfl
  |false=>
   cases J:ltQ (ds.getD i .non) (ds.getD k .non)with
   |true=>exact .inr rfl
   |false=>
    cases y:ltQ (ds.getD k .non) (ds.getD i .non)with
    |true=>have:=sM (f k o) (f i b) (f j l) y h;rw[z]at this;cases this
    |false=>have:=v7 (f i b) (f k o) J y;rw[this,z]at h;cases h
 refine L _ ⟨rfl,?_⟩
 refine aU (kat_run (ks:=us) (vs:=us) (Q:=λa g=>g=s/\failedOf a=none/\((arrOf a).map (·.2)).size=us.length/\∃p,ic ds.length p/\((arrOf a).map (·.2)).toList=P2.outs us p/\outD ds p=jU ds)
  (G:=λp g=>g=s/\ic ds.length p/\outD ds p=jU ds) rfl H u (λp a g W V U T=>?_) ?_) (λr g q=>q) λ_ _ x=>x
 ·obtain⟨b1,S,R⟩:=T;have e:=kat_snds rfl V;refine⟨b1,U,?_,p,S,?_,R⟩;·rw[e];simp[W]
  ·rw[e];rfl
 ·rw[M];refine iO.wp (c:=λi j=>ltQ (ds.getD i .non)<|ds.getD j .non) (Q:=λp=>ic ds.length p/\outD ds p=jU ds) (λi j b l C c=>K i j b l C c) (λp q=>⟨rfl,q⟩) ?_;refine Ig F (by lia) λp v P=>⟨v,?_⟩;have D:=IM v;exact Nf (D.trans (n9 ds).symm) (λd O=>m d<|D.mem_iff.mp O) (IP m v (by lia) P F) (wY m)
variable{X:Cx}{E:XK}{e:f6}{J:TE}{f:gf}{L F:Pos}
def rX{d u}(r:Rep K al H v d)(hv:RelV v u)(h:(∃i,d=.int i)\/∃i,d=.str i):oo d u:=by
 rcases h with⟨i,rfl⟩|⟨i,rfl⟩;·cases r;obtain⟨t,rfl⟩:=hv;rfl
 ·cases r;obtain⟨t,rfl⟩:=hv;rfl
def Ez:∀{c} {k} {g} {j},kK c=some k->fX K al H g c->Vals g j->mA c j:=by
 intro c k g j h r v;induction c generalizing k g j with
 |nil=>cases r;cases v;exact .nil
 |cons d _ l=>
  cases r with
  |cons a b=>
   cases v with
   |cons hv m=>
    cases d with
    |int i=>obtain⟨t,_,e⟩:=n3 h;exact .cons (rX a hv<|.inl ⟨i,rfl⟩) (l e b m)
    |str i=>obtain⟨t,_,e⟩:=n6 h;exact .cons (rX a hv<|.inr ⟨i,rfl⟩) (l e b m)
    |_=>cases h
def Gm{s}(I:Inv X pins σ H s){d u}(r:Rep X.K al H v d)(hv:RelV v u)(h:ik d=some sg):oq s.heap u d:=by
 rcases lA h with⟨i,rfl,_⟩|⟨i,rfl,_⟩|⟨x,p,t,rfl,_,e⟩;·exact rX r hv (.inl ⟨i,rfl⟩)
 ·exact rX r hv (.inr ⟨i,rfl⟩)
 ·obtain⟨a,m,rfl,g,c⟩:=r.l5;obtain rfl:u=.ref a:=hv;obtain⟨b,q,⟨o,l,k,n,j⟩,_⟩:=I.tuple g;exact⟨a,o,_,n,rfl,l,k,j,Ez e c q⟩
def Gn{s}(I:Inv X pins σ H s):∀{c} {g} {i},(∀d∈c,ik d=some sg)->fX X.K al H g c->Vals g i->jP s.heap i c:=by
 intro c g i h r v;induction c generalizing g i with
 |nil=>cases r;cases v;exact .nil
 |cons d _ j=>
  cases r with
  |cons a b=>
   cases v with
   |cons hv k=>exact .cons (Gm I a hv<|h d<|.head _) (j (λe l=>h e<|.tail _ l) b k)
theorem BA(h:Vals vs us):∀l:fL Nat,(∀i∈l,i<us.length)->Vals (l.map λi=>vs.getD i .non) (l.map λi=>us.getD i .none)
 |[],_=>.nil
 |i::l,c=>by
  have get:∀{vs:fL V} {us:gq},Vals vs us->∀i,i<us.length->RelV (vs.getD i .non) (us.getD i .none):=λ{vs us} h=>by
   induction h with
   |nil=>intro i b;simp at b
   |cons a _ d=>
    intro i b;cases i with
    |zero=>simpa using a
    |succ i=>simpa using d i (by simpa using b)
  exact .cons (get h i<|c i<|.head _) (BA h l λj g=>c j<|.tail _ g)
theorem AX(h:fX K al H vs ds):∀l:fL Nat,(∀i∈l,i<ds.length)->fX K al H (l.map λi=>vs.getD i .non) (l.map λi=>ds.getD i .non)
 |[],_=>.nil
 |i::l,a=>by have b:=a i (.head _);obtain⟨v,g,d⟩:=h.getD (aL b);refine .cons ?_ (AX h l λj c=>a j<|.tail _ c);show Rep K al H (vs.getD i V.non) (ds.getD i D.non);rw[bM,bM,g,aL b];exact d
def Gg{n}(h:ic n p):∀i∈p.toList,i<n:=λi a=>by have:=(bz.mp h).mem_iff.mp a;simpa using this
def Jv(W:PE X e J)(hg:Gl X "sorted")(hm:X.mg "sorted"=none)
 (Z:X.se e [])(U:X.bk F []):
   PE X (.Call (.Name "sorted" L) [e] [] F) (λy H Q=>J y H λx0 g=>∃x,[x0]=[x]/\∃l m c al,x=.ref l/\iF X.K g l m/\fX X.K al g m c/\ml c=true/\c.length<64/\∀p a,g p=none->fX X.K al g a (jU c)->Q (.ref p) (upd g p<|.lst a)):=by
  intro j s y H Q I h;refine cj (mn I hg hm uI ?_ (by decide) (by decide));have Y:PA X [e] (tH J tI):=mU W mV Z;refine cB (gi (Y F j s y H (λz g=>∃x,z=[x]/\∃(l:fO) (m:fL V) (c:gx) (al:gL),x=.ref l/\iF X.K g l m/\fX X.K al g m c/\ml c=true/\c.length<64/\∀p a,g p=none->fX X.K al g a (jU c)->Q (.ref p) (upd g p<|.lst a)) I h) λus n T=>?_) Z U;obtain⟨z,g,R,r1,q1⟩:=T;obtain⟨x,rfl,l,m,c,al,rfl,hl,O,hh,QG,q⟩:=q1;obtain⟨u,rfl,ru⟩:=vals1 r1;obtain rfl:u=Value.ref l:=ru;obtain⟨k,N,pl,hz⟩:=R.list hl;obtain⟨sg,S⟩:=zq hh;have hle:=N.length;have C:=O.length;have it:=Gn R S O N;have K:∀(out:lL) (a:fL V),out.size=k.length->Vals a out.toList->fX X.K al g a (jU c)->∃v H',Inv X j y H' {n with heap:=sortedAll n.heap k out}/\RelV v (.ref<|n.heap.objs.size+1)/\Q v H':=λout a ho P o=>by
   obtain⟨ep,W⟩:=sortedAll_at n.heap k out;have lw:a.length<=sizeLine:=by have:=P.length;simp only[aJ]at this;simp_all
   have I2:Inv X j y (upd g (n.heap.objs.size+1)<|.lst a) {n with heap:=sortedAll n.heap k out}:=
    R.laid (t':=n.toks) (λb u e=>sortedAll_old e) (cJ _) (show iy X.prog X.w _ _ _ (.lst a)from⟨lw,out.toList,ep,P,by rw[dP];exact W⟩)
   exact⟨.ref _,_,I2,rfl,q _ a (R.hok.fresh<|cJ _) o⟩
  refine Ba (G:=λout=>∃a,Vals a out.toList/\fX X.K al g a (jU c)) pl.isList (by simp_all) (λh2=>⟨m,by simpa using N,?_⟩) (λh2 t kp B=>?_) λout ho hG=>?_
  ·have:jU c=c:=by
    match c,C with
    |[],_=>rfl
    |[d],_=>rfl
    |_::_::r,w=>simp at w;lia
   rw[this];exact O
  ·have:=NW (prog:=X.prog) (w:=X.w) (s:=t) (it.keep kp) hh h2 (by simp_all) B;refine aU this (λκ t' hk=>⟨hk.1,aU hk.2 (λr N7 o=>⟨o.1,o.2.1,o.2.2.1,?_⟩) λ_ _ x=>x⟩) λ_ _ x=>x;obtain⟨p,g1,g2,g3⟩:=o.2.2.2;have M:=Gg g1;refine⟨p.toList.map λi=>m.getD i .non,?_,?_⟩;·rw[g2];exact BA N _ λi hi=>by have:=M i hi;simp_all
   ·rw[<-g3];exact AX O _ M
  ·obtain⟨a,P,o⟩:=hG;exact K out a ho P o
def DR(x:Gl X "sorted")(q:X.mg "sorted"=none)(y:DE X E e f)
 (n:autoParam (X.se e []) aZ0)(c:autoParam (X.bk F []) aZ0):
   DN X E (.Call (.Name "sorted" L) [e] [] F) (λg=>(f g).bind qN):=by
  obtain⟨t,p,r⟩:=y;refine⟨_,Jv p x q n c,λ{_ _ al _ _ _ _} s h=>r s<|Aft.mono (Aft.split h) λ{_ d} C a v k=>⟨v,rfl,?_⟩⟩;unfold qN at a;split at a
  ·rename_i B;split at a
   ·rename_i z;obtain⟨l,j,rfl,u,b⟩:=k.lZ;exact⟨l,j,B,al,rfl,u,b,z.1,z.2,λp i o m=>a d (.refl d) p i o m⟩
   ·exact a.elim
  ·exact a.elim
end P2
namespace P2
open PySem L2
inductive Z where
 |d(x:D)|loc(n:Nat)|tk(ks:List Key)
abbrev fT(x:Int):fU Z:=some (.d<|.int x)
abbrev f9(x:gx):fU Z:=some (.d<|.lst x)
abbrev iE(x:D):fU Z:=some (.d x)
abbrev f3(n:Nat):fU Z:=some (.loc n)
inductive Cell where
 |li(zs:List Z)|ob(C:Addr)(fs:List<|Str×Z)|dk(kvs:List<|Key×Z)|dt(kvs:List<|List Key×Z)|ft(kvs:List<|List Key×Z)|no|mk
abbrev f7:=fL Cell
abbrev Lo:=Nat->fU fO
abbrev gQ:=fL (fU Z)
def iJ(K:fZ)(al:gL)(lo:Lo)(H:Hp)(v:V):Z->Prop
 |.d x=>Rep K al H v x
 |.loc n=>∃a,lo n=some a/\v=.ref a
 |.tk b=>∃a,al a/\H a=some (.tup<|b.map kV)/\v=.ref a
inductive hP(K:W.Frag)(al:Addr->Prop)(lo:Lo)(H:Hp):List V->List Z->Prop
 |nil:hP K al lo H [] []
 |cons {v:V} {z:Z} {vs:List V} {zs:List Z}:iJ K al lo H v z->hP K al lo H vs zs->hP K al lo H (v::vs) (z::zs)
inductive iT{κ:Type}(K:W.Frag)(al:Addr->Prop)(lo:Lo)(H:Hp):List (κ×V)->List (κ×Z)->Prop
 |nil:iT K al lo H [] []
 |cons {k:κ} {v:V} {z:Z} {vs:List<|κ×V} {zs:List<|κ×Z}:iJ K al lo H v z->iT K al lo H vs zs->iT K al lo H ((k,v)::vs) ((k,z)::zs)
def ju(K:fZ)(al:gL)(lo:Lo)(H:Hp)(a:fO):Cell->Prop
 |.li zs=>∃d,H a=some (.lst d)/\hP K al lo H d zs
 |.ob C fs=>∃e b,H a=some (.ins C e b)/\iT K al lo H b fs
 |.dk c=>∃b,H a=some (.dK b)/\iT K al lo H b c
 |.dt c=>∃b,H a=some (.dT b)/\iT K al lo H b c
 |.ft c=>∃b o,H a=some (.j4 o<|.dT b)/\iT K al lo H b c
 |.no=>False
 |.mk=>False
def xN(o:HO):Prop:=(∃a,o=.tup a)\/∃b,o=.iu b
structure mE(K:fZ)(al:gL)(lo:Lo)(H:Hp)(S:f7):Prop where
 at':∀n a,lo n=some a->∃c,S[n]?=some c/\ju K al lo H a c
 has:∀n c,S[n]?=some c->c≠.no->c≠.mk->∃a,lo n=some a
 na:∀n a,lo n=some a->¬al a
 inj:∀m n a,lo m=some a->lo n=some a->m=n
 tl:S[0]?=some .mk->∀b o,H b=some o->xN o->al b
structure Z0 where
 H:Hp
 al:fO->Prop
 lo:Lo
 n:Nat
structure EZ(K:fZ)(B:Z0)(al:gL)(lo:Lo)(H:Hp)(S:f7):Prop where
 fr:∀b o,NT o->B.H b=some o->(∀n,B.lo n≠some b)->H b=some o
 hf:∀b,H b=none->B.H b=none
 tt:iG K H
 fresh:∀a,H a=none->al a
 st:mE K al lo H S
 lx:∀n a,B.lo n=some a->lo n=some a
 nw:∀n a,lo n=some a->B.lo n=some a\/(B.H a=none/\B.n<=n)
 bd:∀n a,B.lo n=some a->n<B.n
 sz:B.n<=S.length
 xt:Xt B.al B.H al H
 sb:∀a,al a->B.al a\/B.H a=none
structure RZ(K:fZ)(B:Z0)(al:gL)(lo:Lo)(H:Hp)(σ:St)(ρ:gQ)(S:f7):Prop extends EZ K B al lo H S where
 len:ρ.length=σ.length
 vr:∀(i:Nat) (z:Z),ρ[i]?=some (some z)->∃v,σ[i]?=some (some v)/\iJ K al lo H v z
def Lx(lo b:Lo):Prop:=∀n a,lo n=some a->b n=some a
def Lx.refl{lo}:Lx lo lo:=λ_ _ h=>h
def Lx.trans{lo}(x:Lx lo lo1)(y:Lx lo1 G9):Lx lo G9:=λn a h=>y n a (x n a h)
section
variable{K:fZ}{al l:gL}{lo f:Lo}{H A:Hp}
def iJ.mv(x:Xt al H l A)(y:Lx lo f)(r:iJ K al lo H v z):iJ K l f A v z:=by
 cases z with
 |d d=>exact Rep.mv x r
 |loc n=>obtain⟨a,c,b⟩:=r;exact⟨a,y n a c,b⟩
 |tk e=>obtain⟨a,c,b,g⟩:=r;obtain⟨j,i⟩:=x a (.tup<|e.map kV) (λ_ h=>nomatch h) c b;exact⟨a,j,i,g⟩
def hP.mv(x:Xt al H l A)(y:Lx lo f)(r:hP K al lo H vs zs):hP K l f A vs zs:=by
 induction r with
 |nil=>exact .nil
 |cons a _ b=>exact .cons (a.mv x y) b
def iT.mv(x:Xt al H l A)(y:Lx lo f)(r:iT K al lo H vs zs):iT K l f A vs zs:=by
 induction r with
 |nil=>exact .nil
 |cons a _ b=>exact .cons (a.mv x y) b
def hP.length(r:hP K al lo H vs zs):vs.length=zs.length:=by
 induction r with
 |nil=>rfl
 |cons _ _ a=>simp_all
def hP.append(r:hP K al lo H vs zs)(q:hP K al lo H ws ys):hP K al lo H (vs++ws) (zs++ys):=by
 induction r with
 |nil=>exact q
 |cons a _ b=>exact .cons a b
def hP.get(r:hP K al lo H vs zs){i:Nat}(e:zs[i]?=some z):∃v,vs[i]?=some v/\iJ K al lo H v z:=by
 induction r generalizing i with
 |nil=>simp at e
 |cons a _ b=>grind
def hP.set(r:hP K al lo H vs zs)(q:iJ K al lo H v z)(i):hP K al lo H (vs.set i v) (zs.set i z):=by
 induction r generalizing i with
 |nil=>exact .nil
 |cons a b c=>
  cases i with
  |zero=>exact .cons q b
  |succ i=>exact .cons a (c i)
def hP.ofD(r:fX K al H vs ds):hP K al lo H vs (ds.map .d):=by
 induction ds generalizing vs with
 |nil=>cases r;exact .nil
 |cons d ds c=>cases r with|cons a b=>exact .cons a (c b)
def hP.toD(r:hP K al lo H vs<|ds.map .d):fX K al H vs ds:=by
 induction ds generalizing vs with
 |nil=>cases r;exact .nil
 |cons d ds c=>cases r with|cons a b=>exact .cons a (c b)
def ju.mv(x:Xt al H l A)(y:Lx lo f)(e:∀o,NT o->H a=some o->A a=some o)(r:ju K al lo H a c):ju K l f A a c:=by
 cases c with
 |li m=>obtain⟨i,d,b⟩:=r;exact⟨i,e _ kq d,b.mv x y⟩
 |ob C fs=>obtain⟨k,g,d,b⟩:=r;exact⟨k,g,e _ (λ_ h=>nomatch h) d,b.mv x y⟩
 |ft j=>obtain⟨g,o,d,b⟩:=r;exact⟨g,o,e _ (λ_ h=>nomatch h) d,b.mv x y⟩
 |no=>exact r
 |mk=>exact r
 |_=>obtain⟨g,d,b⟩:=r;exact⟨g,e _ (λ_ h=>nomatch h) d,b.mv x y⟩
def ju.qu(r:ju K al lo H a c):H a≠none/\(∀g,H a≠some (.iu g))/\(∀q,H a≠some (iX a q)):=by
 cases c with
 |li i=>obtain⟨j,b,d⟩:=r;rw[b];exact⟨nofun,λ_=>nofun,λ_ w=>by unfold iX at w;exact nomatch w⟩
 |ob C fs=>obtain⟨k,e,b,d⟩:=r;rw[b];exact⟨nofun,λ_=>nofun,λ_ w=>by unfold iX at w;exact nomatch w⟩
 |ft h=>obtain⟨e,o,b,d⟩:=r;rw[b];exact⟨nofun,λ_=>nofun,λ_ w=>by unfold iX at w;exact nomatch w⟩
 |no=>exact r.elim
 |mk=>exact r.elim
 |_=>obtain⟨e,b,d⟩:=r;rw[b];exact⟨nofun,λ_=>nofun,λ_ w=>by unfold iX at w;exact nomatch w⟩
def ju.z5(r:ju K al lo H a c){o}(h:H a=some o):¬xN o:=by
 rintro (⟨k,rfl⟩|⟨g,rfl⟩)
 ·cases c with
  |li j=>obtain⟨m,b,d⟩:=r;rw[h]at b;cases b
  |ob C fs=>obtain⟨n,e,b,d⟩:=r;rw[h]at b;cases b
  |ft i=>obtain⟨e,o,b,d⟩:=r;rw[h]at b;cases b
  |no=>exact r.elim
  |mk=>exact r.elim
  |_=>obtain⟨e,b,d⟩:=r;rw[h]at b;cases b
 ·exact r.qu.2.1 g h
variable{B:Z0}{E:St}{t:gQ}{S:f7}
def EZ.start{zs:fL Z}(tt:iG K H)(fr:∀a,H a=none->al a)(st:mE K al lo H S):EZ K ⟨H,al,lo,S.length⟩ al lo H S where
 fr:=λ_ _ _ h _=>h
 hf:=λ_ h=>h
 tt:=tt
 fresh:=fr
 st:=st
 lx:=λ_ _ h=>h
 nw:=λ_ _ h=>.inl h
 bd:=λn a h=>by obtain⟨c,e,_⟩:=st.at' n a h;exact(au.mp e).1
 sz:=af _
 xt:=.refl
 sb:=λ_ h=>.inl h
def EZ.grow(r:EZ K B al lo H S)(s:gF K H A):EZ K B al lo A S where
 fr:=λb o n h w=>s.at' b o n (r.fr b o n h w)
 hf:=λb h=>r.hf b (s.fr b h)
 tt:=s.tt r.tt
 fresh:=λa h=>r.fresh a (s.fr a h)
 st:={
  at':=λn a h=>by obtain⟨c,e,q⟩:=r.st.at' n a h;exact⟨c,e,q.mv (.of s) .refl λo no h=>s.at' _ o no h⟩
  has:=r.st.has
  na:=r.st.na
  inj:=r.st.inj
  tl:=λm b o k j=>by
   cases q:H b with
   |none=>exact r.fresh b q
   |some d=>
    by_cases g:NT d
    · have e:=s.at' b d g q;rw[k]at e;cases e;exact r.st.tl m b o q j
    · exact r.st.tl m b d q (.inr (Classical.byContradiction λw=>g λi e=>w ⟨i,e⟩))}
 lx:=r.lx
 nw:=r.nw
 bd:=r.bd
 sz:=r.sz
 xt:=r.xt.trans (.of s)
 sb:=r.sb
def RZ.grow(r:RZ K B al lo H E t S)(s:gF K H A):RZ K B al lo A E t S:=
 ⟨r.toEZ.grow s,r.len,λi z e=>let⟨v,b,a⟩:=r.vr i z e;⟨v,b,a.mv (.of s) .refl⟩⟩
def AK:fU Z->Sl
 |some (.d x)=>.sh x
 |_=>.no
def ig(t:gQ):Ev:=t.map AK
def RZ.rs(r:RZ K B al lo H E t S):RS K al H al H E (ig t) where
 same:=.refl H
 tt:=r.tt
 fresh:=r.fresh
 sub:=λ_ h=>h
 pf:=r.fresh
 len:=by unfold ig;rw[ar];exact r.len
 sh:=λi d h=>by
  unfold ig at h;rw[aF]at h;obtain⟨z,c,b⟩:=aA.mp h;cases z with
  |none=>cases b
  |some z=>
   cases z with
   |d x=>cases b;exact r.vr i _ c
   |_=>cases b
 ow:=λi g h=>by
  unfold ig at h;rw[aF]at h;obtain⟨z,c,b⟩:=aA.mp h;cases z with
  |none=>cases b
  |some z=>cases z<;>cases b
 apart:=λi j g e a h _ _ _=>by
  unfold ig at h;rw[aF]at h;obtain⟨z,c,b⟩:=aA.mp h;cases z with
  |none=>cases b
  |some z=>cases z<;>cases b
def RZ.set(r:RZ K B al lo H E t S)(c:i<t.length)(q:iJ K al lo H v z):RZ K B al lo H (E.set i<|some v) (t.set i<|some z) S where
 toEZ:=r.toEZ
 len:=by rw[aR,aR];exact r.len
 vr:=λj e h=>by
  by_cases w:i=j
  ·subst w;rw[aD c]at h;cases h;exact⟨v,aD<|by rw[<-r.len];exact c,q⟩
  ·rw[aq w]at h;obtain⟨u,a,b⟩:=r.vr j e h;exact⟨u,by rw[aq w];exact a,b⟩
def jF(lo:Lo)(n:Nat)(p:fO):Lo:=λm=>if m=n then some p else lo m
def mE.none(b:mE K al lo H S):lo S.length=Option.none:=by
 cases h:lo S.length with
 |none=>rfl
 |some a=>obtain⟨c,e,_⟩:=b.at' _ a h;simp_all
def mq(b:mE K al lo H S)(p):Lx lo (jF lo S.length p):=λn a h=>by
 unfold jF;rw[ah];·exact h
 ·intro w;rw[w,b.none]at h;cases h
def og{o}(a:H p=none):Xt al H (λb=>al b/\b≠p) (upd H p o):=λb u _ c e=>⟨⟨c,iW e a⟩,by rw[gj<|iW e a];exact e⟩
def EZ.new(r:EZ K B al lo H S){o}(D:H p=none)(no:NT o)(G:ju K (λb=>al b/\b≠p) (jF lo S.length p) (upd H p o) p c)(N:c≠.no):
    EZ K B (λb=>al b/\b≠p) (jF lo S.length p) (upd H p o) (S++[c]):=by
 have s:gF K H (upd H p o):=jG D;have x:Xt al H (λb=>al b/\b≠p) (upd H p o):=og D;have g:=r.grow s;refine⟨g.fr,g.hf,g.tt,λa h=>⟨g.fresh a h,λw=>by rw[w,hD]at h;cases h⟩,⟨λn a h=>?_,λn F h w J=>?_,λn a h w=>?_,λm n a i j=>?_,λm b u v I=>?_⟩,λn a h=>mq r.st p n a<|r.lx n a h,λn a h=>?_,r.bd,by rw[aj];have:=r.sz;walk_at "l",r.xt.trans x,λb v=>r.sb b v.1⟩
 ·unfold jF at h;by_cases w:n=S.length
  ·rw[ae w]at h;cases h;exact⟨c,by rw[w];simp,G⟩
  ·rw[ah w]at h;obtain⟨F,e,q⟩:=r.st.at' n a h;have ne:a≠p:=λz=>q.qu.1 (by rw[z];exact D);exact⟨F,by rw[aB (au.mp e).1];exact e,q.mv x (mq r.st p) λu _ h=>by rw[gj ne];exact h⟩
 ·by_cases z:n<S.length
  ·rw[aB z]at h;obtain⟨a,i⟩:=r.st.has n F h w J;exact⟨a,mq r.st p n a i⟩
  ·have:n=S.length:=by
    have:=(au.mp h).1;rw[aj,dB]at this
    lia
   exact⟨p,by unfold jF;rw[ae this]⟩
 ·unfold jF at h;by_cases z:n=S.length;·rw[ae z]at h;cases h;exact w.2 rfl
  ·rw[ah z]at h;exact r.st.na n a h w.1
 ·have C:∀k b,lo k=some b->b≠p:=λk b M z=>by
   obtain⟨F,_,q⟩:=r.st.at' k b M;exact q.qu.1 (by rw[z];exact D)
  unfold jF at i j;by_cases z:m=S.length
  ·rw[ae z]at i;cases i;by_cases y:n=S.length;·simp_all
   ·rw[ah y]at j;exact absurd rfl (C n _ j)
  ·rw[ah z]at i;by_cases y:n=S.length;·rw[ae y]at j;cases j;exact absurd rfl (C m _ i)
   ·rw[ah y]at j;exact r.st.inj m n a i j
 ·have L:S[0]?=some .mk:=by
   cases S with
   |nil=>have e:some c=some Cell.mk:=m;cases e;exact G.elim
   |cons d r=>exact m
  by_cases z:b=p
  ·rw[z]at v;exact absurd I (G.z5 v)
  ·rw[gj z]at v;exact⟨r.st.tl L b u v I,z⟩
 ·unfold jF at h;by_cases z:n=S.length;·rw[ae z]at h;cases h;exact .inr ⟨r.hf _ D,by rw[z];exact r.sz⟩
  ·rw[ah z]at h;exact r.nw n a h
def RZ.new(r:RZ K B al lo H E t S){o}(a:H p=none)(no:NT o)(d:ju K (λb=>al b/\b≠p) (jF lo S.length p) (upd H p o) p c)(j:c≠.no):
    RZ K B (λb=>al b/\b≠p) (jF lo S.length p) (upd H p o) E t (S++[c]):=
 ⟨r.toEZ.new a no d j,r.len,λi z e=>let⟨v,h,g⟩:=r.vr i z e;⟨v,h,g.mv (og a)<|mq r.st p⟩⟩
def EZ.write(r:EZ K B al lo H S){n o}(g:lo n=some a)(no:NT o)(I:∀q,o≠iX a q)(p:ju K al lo (upd H a o) a c)(J:c≠.no):EZ K B al lo (upd H a o) (S.set n c)/\Xt al H al (upd H a o):=by
 obtain⟨L,G,j⟩:=r.st.at' n a g;have D:n<S.length:=(au.mp G).1;have y:=r.st.na n a g;have x:Xt al H al (upd H a o):=λb u _ d e=>⟨d,by rw[gj λw=>y (by rw[<-w];exact d)];exact e⟩;refine⟨⟨λb u v h w=>?_,λb h=>?_,r.tt.upd j.qu.2.1 j.qu.2.2,λb h=>?_,⟨λm b h=>?_,λm i h w s=>?_,r.st.na,r.st.inj,λm b u d k=>?_⟩,r.lx,r.nw,r.bd,by rw[aR];exact r.sz,r.xt.trans x,r.sb⟩,x⟩
 ·have:=r.fr b u v h w;by_cases z:b=a
  ·subst z;rcases r.nw n b g with q|q;·exact absurd q (w n)
   ·rw[q.1]at h;cases h
  ·rw[gj z];exact this
 ·by_cases z:b=a;·rw[z,hD]at h;cases h
  ·rw[gj z]at h;exact r.hf b h
 ·by_cases z:b=a;·rw[z,hD]at h;cases h
  ·rw[gj z]at h;exact r.fresh b h
 ·by_cases z:n=m;·simp_all
  ·obtain⟨i,e,q⟩:=r.st.at' m b h;refine⟨i,by rw[aq z];exact e,q.mv x .refl λu _ F=>?_⟩;rw[gj λw=>z (r.st.inj n m a g (by rw[<-w];exact h))];exact F
 ·by_cases z:n=m;·subst z;exact⟨a,g⟩
  ·rw[aq z]at h;exact r.st.has m i h w s
 ·have C:S[0]?=some .mk:=by
   by_cases z:n=0
   ·subst z;rw[aD D]at m;cases m;exact p.elim
   ·rw[aq z]at m;exact m
  by_cases z:b=a
  ·rw[z]at d;exact absurd k (p.z5 d)
  ·rw[gj z]at d;exact r.st.tl C b u d k
def RZ.write(r:RZ K B al lo H E t S){n}{o}(d:lo n=some a)(no:NT o)(b:∀q,o≠iX a q)(g:ju K al lo (upd H a o) a c)(k:c≠.no):RZ K B al lo (upd H a o) E t (S.set n c)/\Xt al H al (upd H a o):=
 let⟨e,x⟩:=r.toEZ.write d no b g k
 ⟨⟨e,r.len,λi z e=>let⟨v,j,h⟩:=r.vr i z e;⟨v,j,h.mv x .refl⟩⟩,x⟩
end
inductive RX(α:Type) where
 |ok(a:α)(S:f7)|ex(c:Addr)(ns:List Str)(ds:List D)(S:f7)|bad
abbrev gU:=gQ->f7->RX Z
abbrev ix:=fL Z->f7->RX Z
noncomputable def RX.bind{d b:Type}:RX d->(d->f7->RX b)->RX b
 |.ok a S,f=>f a S
 |.ex c ns ds S,_=>.ex c ns ds S
 |.bad,_=>.bad
def jf{b:Type}(r:R b)(S:f7):RX b:=match r with
 |.ok a=>.ok a S
 |.ex c ns ds=>.ex c ns ds S
 |.bad=>.bad
def gg{f:Type}(K:fZ)(B:Z0)(E:XK)(al:gL)(lo:Lo)(H:Hp)(h:St)(i:gQ)(r:RX f)(k:f->(fO->Prop)->Lo->Hp->f7->Prop):Prop:=match r with
 |.ok x e=>∀a b d,RZ K B a b d h i e->Xt al H a d->Lx lo b->k x a b d e
 |.ex c ns ds e=>∀a b d g,EZ K B a b d e->XR K a d g ns ds->E (.ref c) g d
 |.bad=>False
section
variable{t A:Type}{K:fZ}{B:Z0}{E:XK}{al i:gL}{lo f:Lo}{H j:Hp}{l:St}{p:gQ}{S s:f7}{k v:t->(fO->Prop)->Lo->Hp->f7->Prop}
def gg.up(h:gg K B E al lo H l p r k)(x:Xt al H i j)(y:Lx lo f):gg K B E i f j l p r k:=by
 cases r with
 |ok a S=>exact λc b g z e d=>h c b g z (x.trans e) (y.trans d)
 |_=>exact h
def gg.mono(h:gg K B E al lo H l p r k)(m:∀{x i f j s},RZ K B i f j l p s->Xt al H i j->Lx lo f->k x i f j s->v x i f j s):gg K B E al lo H l p r v:=by
 cases r with
 |ok a S=>exact λc b g z e d=>m z e d (h c b g z e d)
 |_=>exact h
def gg.split{g:t->f7->RX A}{k}(h:gg K B E al lo H l p (r.bind g) k):gg K B E al lo H l p r (λx i f j s=>gg K B E i f j l p (g x s) k):=by
 cases r with
 |ok a S=>exact λe d m z c b=>gg.up h c b
 |_=>exact h
def gg.toAft(z:RZ K B al lo H l p S)(h:gg K B E al lo H l p (jf r S) k):Aft K al E H r (λx j=>k x al lo j S):=by
 cases r with
 |ok a=>exact λd b=>h al lo d (z.grow b) (.of b) .refl
 |ex c g m=>exact λe d b q=>h al lo d e (z.toEZ.grow b) q
 |bad=>exact h
end
structure ZE(X:Cx)(E:XK)(e:f6)(f:gU):Prop where
 w_::
 o_:∃t:TE,PE X e t/\
 ∀{B al lo H σ ρ S} {Q:VK},RZ X.K B al lo H σ ρ S->gg X.K B E al lo H σ ρ (f ρ S) (λz iD kI H' _=>∀v,iJ X.K iD kI H' v z->Q v H')->t σ H Q
abbrev _root_.oz:=gQ->f7->RX f5
structure ZT(X:Cx)(E:XK)(e:f6)(f:oz):Prop where
 w_::
 o_:∃t:TT,PT X e t/\
 ∀{B al lo H σ ρ S} {Q:mI},RZ X.K B al lo H σ ρ S->gg X.K B E al lo H σ ρ (f ρ S) (λb _ _ H' _=>Q b H')->t σ H Q
abbrev _root_.mH:=gQ->f7->RX (fL Z)
structure ZA(X:Cx)(E:XK)(es:iL)(f:mH):Prop where
 w_::
 o_:∃t:TA,PA X es t/\
 (∀{B al lo H σ ρ S} {Q:fL V->Hp->Prop},RZ X.K B al lo H σ ρ S->gg X.K B E al lo H σ ρ (f ρ S) (λzs iD kI H' _=>∀vs,hP X.K iD kI H' vs zs->Q vs H')->t σ H Q)/\∀ρ S zs S',f ρ S=.ok zs S'->zs.length=es.length
noncomputable def zD(f:gf):gU:=λa S=>(jf (f<|ig a) S).bind λd S=>.ok (.d d) S
def zB(f:iM):gQ->f7->RX f5:=λa S=>jf (f<|ig a) S
noncomputable def zV(i:Nat):gU:=λa S=>match a[i]? with
 |some (some z)=>.ok z S
 |_=>.bad
def kg:fL Z->fU (fL D)
 |[]=>some []
 |.d x::r=>(kg r).map (x:: ·)
 |_::_=>none
theorem oD:∀{b} {a},kg b=some a->b=a.map .d
 |[],_,h=>by cases h;rfl
 |.d x::r,a,h=>by obtain⟨t,d,c⟩:=aA.mp (show(kg r).map (x:: ·)=some a from h);subst c;rw[ay,<-oD d]
 |.loc _::_,_,h=>by cases h
theorem oE:∀a:fL D,kg (a.map .d)=some a
 |[]=>rfl
 |d::r=>by show(kg<|r.map .d).map (d:: ·)=_;rw[oE r];rfl
def z1(g:D->R D)(a:gU):gU:=λb S=>(a b S).bind λx c=>match x with
 |.d x=>(jf (g x) c).bind λd S=>.ok (.d d) S
 |_=>.bad
def z2(g:mJ)(a b:gU):gU:=λc S=>(a c S).bind λx f=>(b c f).bind λy e=>match x,y with
 |.d x,.d y=>(jf (g x y) e).bind λd S=>.ok (.d d) S
 |_,_=>.bad
def pQ(t:D->R f5)(a:gU):gQ->f7->RX f5:=λb S=>(a b S).bind λx c=>match x with
 |.d x=>jf (t x) c
 |_=>.bad
noncomputable def hZ:gQ->f7->RX (fL Z):=λ_ S=>.ok [] S
def gm(a:gU)(r:mH):gQ->f7->RX (fL Z):=λb S=>(a b S).bind λx e=>(r b e).bind λc d=>.ok (x::c) d
def zF(g:gk)(a:mH):gU:=λb S=>(a b S).bind λc f=>match kg c with
 |some e=>(jf (g e) f).bind λd S=>.ok (.d d) S
 |none=>.bad
def zZ(F:ix)(a:mH):gU:=λb S=>(a b S).bind F
section
variable{X:Cx}{E:XK}{e a b c:f6}{l rest:iL}{j:Pos}{f y A:gU}{J I:oz}{fs:mH}
def pR{f}(h:DE X E e f):ZE X E e (zD f):=by obtain⟨t,p,r⟩:=h;refine⟨t,p,λ{_ al lo _ _ _ _ _} z h=>r z.rs ?_⟩;have:=gg.toAft z (gg.split h);exact Aft.mono this λ{_ k} d i v g=>i al lo k (z.grow d) .refl .refl v g
def Qp{f}(h:DT X E e f):ZT X E e (zB f):=by obtain⟨t,p,r⟩:=h;exact⟨t,p,λz h=>r z.rs<|gg.toAft z h⟩
def qX(i)(m:autoParam (X.N[i]?=some x) aZ0)(hv:autoParam (lM X.env.scope x) aZ4)(k:autoParam (i8 x) aZ1)
 (d:autoParam ((x==("__classdict__":fR))=false) aZ1):ZE X E (.Name x j) (zV i):=by
  refine⟨_,nX m hv k d,λ{_ al lo H _ _ _ _} z h=>?_⟩;unfold zV at h;split at h
  ·rename_i g q;obtain⟨v,o,n⟩:=z.vr i g q;exact⟨v,o,h al lo H z .refl .refl v n⟩
  ·exact h.elim
def P7{o:Operator}{g}(L:i7 X E (binaryOp o) g)(N:ZE X E a y)(M:ZE X E b A):ZE X E (.BinOp a o b j) (z2 g y A):=by
 obtain⟨r,D,C⟩:=L;obtain⟨U,K,G⟩:=N;obtain⟨T,H,F⟩:=M;refine⟨_,Ax D K H,λs h=>G s<|gg.mono (gg.split h) λx S R P v z=>F x<|gg.mono (gg.split P) λ{_ n k _ _} d q p m u B=>?_⟩;split at m;·exact C d.fresh (iJ.mv q p z) B (Aft.mono (gg.toAft d<|gg.split m) λ{_ Q} t O w i=>O n k Q (d.grow t) .refl .refl w i)
 ·exact m.elim
def P0{k:CmpOp}{g}(L:i7 X E (compareOp k) g)(O:ZE X E a y)(N:ZE X E b A)(M:autoParam (behindInMarks k b=false) aZ6):ZE X E (.Compare a [k] [b] j) (z2 g y A):=by
 obtain⟨r,D,C⟩:=L;obtain⟨V,K,G⟩:=O;obtain⟨U,H,F⟩:=N;refine⟨_,Jk D K H M,λs h=>G s<|gg.mono (gg.split h) λx T S Q v z=>F x<|gg.mono (gg.split Q) λ{_ o m _ _} d q p n u B=>?_⟩;split at n;·exact C d.fresh (iJ.mv q p z) B (Aft.mono (gg.toAft d<|gg.split n) λ{_ R} t P w i=>P o m R (d.grow t) .refl .refl w i)
 ·exact n.elim
def Qn{k:CmpOp}{g}(M:i7 X E (compareOp k) g)(P:ZE X E a y)(O:ZE X E b A)(N:autoParam (behindInMarks k b=false) aZ6):ZT X E (.Compare a [k] [b] j) (pQ tB<|z2 g y A):=by
 obtain⟨r,F,D⟩:=M;obtain⟨Y,L,H⟩:=P;obtain⟨W,K,G⟩:=O;refine⟨_,AJ F L K N,λs h=>H s<|gg.mono (gg.split<|gg.split h) λz V U S v B=>G z<|gg.mono (gg.split S) λ{_ o m _ _} d x t n u C=>?_⟩;split at n
 ·refine D d.fresh (iJ.mv x t B) C (Aft.mono (gg.toAft d<|gg.split n) λ{_ T} p R w i=>?_);have Q:=R o m T (d.grow p) .refl .refl;exact pj i (Aft.mono (gg.toAft (d.grow p) Q) λ_ q=>q)
 ·exact n.elim
def BP:ZA X E [] hZ:=⟨_,mV,λ{_ al lo H _ _ _ _} s h=>h al lo H s .refl .refl _ .nil,λ_ _ _ _ h=>by cases h;rfl⟩
def qW(N:ZE X E e y)(M:ZA X E l fs)(L:autoParam (X.se e l) aZ0):ZA X E (e::l) (gm y fs):=by
 obtain⟨W,K,G⟩:=N;obtain⟨V,H,F,Y⟩:=M;refine⟨_,mU K H L,λ{_ _ _ _ _ d S _} s h=>G s<|gg.mono (gg.split h) λ{x _ _ _ n} B U T P v C=>F B<|gg.mono (gg.split P) λ{_ k i R m} z w t O u D=>?_,λd S r Q h=>?_⟩;·exact O k i R z .refl .refl _ (.cons (C.mv w t) D)
 ·unfold gm at h;cases q:y d S with
  |ok x n=>
   rw[q]at h;have g:(fs d n).bind (λo m=>.ok (x::o) m)=RX.ok r Q:=h;cases p:fs d n with
   |ok o m=>
    rw[p]at g;cases g
    grind
   |_=>rw[p]at g;cases g
  |_=>rw[q]at h;cases h
def P9{q}(x:ZA X E l fs):ZE X E (.Tuple l q j) (zF i0 fs):=by
 obtain⟨G,w,u,_⟩:=x;refine⟨_,Ay w,λs h=>u s<|gg.mono (gg.split h) λ{_ o k _ _} i q F n v t=>?_⟩;split at n
 ·rename_i C e;have:=oD e;subst this;have d:=t.toD;have g:=Aft.mono (gg.toAft i<|gg.split n) λ{_ D} r B=>B o k D (i.grow r) .refl .refl;unfold i0 at g;by_cases z:C.length<=sizeLine
  ·rw[ae z]at g;exact⟨by rw[d.length];exact z,λp m=>g _ (jG m) _<|d.xi m<|i.fresh p m⟩
  ·rw[ah z]at g;exact g.elim
 ·exact n.elim
variable{x:fR}{p:Pos}
variable{k n:Nat}{C:gu}{F:gk}
def BQ(G:l8 X.prog X.w X.K X.mg X.base (gJ X.prog X.w) k x C<|jj n X.K F)(hr:g8 k X.A)(hg:Gl X x)(hx:Passes (gJ X.prog X.w) X E)(hn:(e::l).length=n)(ha:ZA X E (e::l) fs)(w:autoParam (i8 x) aZ1)
    (he:autoParam (X.se e l) aZ0)(u:autoParam (X.bk j l) aZ0):ZE X E (.Call (.Name x p) (e::l) [] j) (zF F fs):=by
 obtain⟨ta,pa,Y,lb⟩:=ha;refine⟨_,wy G hr hg hx pa w he u,λ{B al lo H P L S Q} s h=>Y s ?_⟩;unfold zF at h;cases q:fs L S with
 |bad=>rw[q]at h;exact h.elim
 |ex c ns o N=>rw[q]at h;exact h
 |ok R N=>
  rw[q]at h;intro i r H1 m U T vs W;have M:=lb _ _ _ _ q;have D:gg X.K B E al lo H P L (match kg R with|some o=>(jf (F o) N).bind λd S=>.ok (.d d) S|none=>.bad) (λz K t O _=>∀v,iJ X.K K t O v z->Q v O):=h;split at D
  ·rename_i o e;have:=oD e;subst this;have g:=W.toD;rw[aP];exact⟨by rw[g.length];rw[ar]at M;rw[M];exact hn,m.tt,i,o,m.fresh,g,Aft.mono (gg.toAft m (gg.split (gg.up D U T))) λ{_ H3} V h3=>h3 i r H3 (m.grow V) .refl .refl⟩
  ·exact D.elim
def BY(K:fZ)(B:Z0)(E:XK)(r:RX Z)(Q:VK):Prop:=match r with
 |.ok z i=>∀d g h v,EZ K B d g h i->iJ K d g h v z->Q v h
 |.ex c ns ds i=>∀d g h m,EZ K B d g h i->XR K d h m ns ds->E (.ref c) m h
 |.bad=>False
def j9(n:Nat)(K:fZ)(F:ix):Sp:=λg H Q E=>g.length=n/\iG K H/\∃al lo d S,(∀a,H a=none->al a)/\mE K al lo H S/\hP K al lo H g d/\BY K ⟨H,al,lo,S.length⟩ E (F d S) Q
def EZ.trans{lo}(r:EZ K B al lo H S)(q:EZ K ⟨H,al,lo,S.length⟩ iD kI H' S'):EZ K B iD kI H' S' where
 fr:=λb o n h w=>q.fr b o n (r.fr b o n h w) λm d=>by
  rcases r.nw m b d with z|z;·exact w m z
  ·rw[z.1]at h;cases h
 hf:=λb h=>r.hf b (q.hf b h)
 tt:=q.tt
 fresh:=q.fresh
 st:=q.st
 lx:=λn a h=>q.lx n a (r.lx n a h)
 nw:=λn a h=>by
  rcases q.nw n a h with z|z;·exact r.nw n a z
  ·exact .inr ⟨r.hf a z.1,aC r.sz z.2⟩
 bd:=r.bd
 sz:=aC r.sz q.sz
 xt:=r.xt.trans q.xt
 sb:=λa h=>by
  rcases q.sb a h with z|z;·exact r.sb a z
  ·exact .inr (r.hf a z)
def RZ.after{lo}(r:RZ K B al lo H σ ρ S)(q:EZ K ⟨H,al,lo,S.length⟩ iD kI H' S'):RZ K B iD kI H' σ ρ S':=
 ⟨r.toEZ.trans q,r.len,λi z e=>let⟨v,g,d⟩:=r.vr i z e;⟨v,g,d.mv q.xt q.lx⟩⟩
variable{F:ix}
def PZ(G:l8 X.prog X.w X.K X.mg X.base (gJ X.prog X.w) k x C<|j9 n X.K F)(hr:g8 k X.A)(hg:Gl X x)(hx:Passes (gJ X.prog X.w) X E)(hn:(e::l).length=n)(ha:ZA X E (e::l) fs)(M:autoParam (i8 x) aZ1)
 (he:autoParam (X.se e l) aZ0)(L:autoParam (X.bk j l) aZ0):ZE X E (.Call (.Name x p) (e::l) [] j) (zZ F fs):=by
  obtain⟨ta,pa,ra,lb⟩:=ha;refine⟨_,wy G hr hg hx pa M he L,λ{B al lo H V R S Q} s h=>ra s ?_⟩;unfold zZ at h;cases q:fs R S with
  |bad=>rw[q]at h;exact h.elim
  |ex c ns ds r=>rw[q]at h;exact h
  |ok t r=>
   rw[q]at h;intro N D H1 m x1 W vs T;have ll:=lb _ _ _ _ q;have i:gg X.K B E al lo H V R (F t r) (λz O K U _=>∀v,iJ X.K O K U v z->Q v U):=h;rw[aP];refine⟨by rw[T.length,ll];exact hn,m.tt,N,D,t,r,m.fresh,m.st,T,?_⟩;cases w:F t r with
   |bad=>rw[w]at i;exact i.elim
   |ex c ns ds S2=>rw[w]at i;exact λg d P dx o Y=>i g d P dx (m.toEZ.trans o) Y
   |ok z S2=>rw[w]at i;exact λg d P v o u=>i g d P (m.after o) (x1.trans o.xt) (W.trans o.lx) v u
end
inductive iY where
 |nx(ρ:gQ)(S:f7)|rt(z:Z)(S:f7)|bk(ρ:gQ)(S:f7)|ct(ρ:gQ)(S:f7)|ex(c:Addr)(ns:List Str)(ds:List D)(S:f7)|bad
abbrev gS:=gQ->f7->iY
noncomputable def toZ{b:Type}(r:RX b)(k:b->f7->iY):iY:=match r with
 |.ok a S=>k a S
 |.ex c ns ds S=>.ex c ns ds S
 |.bad=>.bad
def Nz(r:iY)(k:gS):iY:=match r with
 |.nx a S=>k a S
 |r=>r
def hC(K:fZ)(B:Z0)(E:XK)(D:Ends)(al:gL)(H:Hp):iY->Prop
 |.nx f S=>∀a b d e,Xt al H a d->RZ K B a b d e f S->D.nx e d
 |.bk f S=>∀a b d e,Xt al H a d->RZ K B a b d e f S->D.bk e d
 |.ct f S=>∀a b d e,Xt al H a d->RZ K B a b d e f S->D.ct e d
 |.rt z S=>∀a b d v,EZ K B a b d S->iJ K a b d v z->D.rt v d
 |.ex c ns ds S=>∀a b d g,EZ K B a b d S->XR K a d g ns ds->E (.ref c) g d
 |.bad=>False
section
variable{K:fZ}{B:Z0}{E:XK}{D:Ends}{al f:gL}{lo:Lo}{H i:Hp}{s:iY}{j:St}{m:gQ}
def hC.ext(h:hC K B E D al H s)(x:Xt al H f i):hC K B E D f i s:=by
 cases s with
 |rt d S=>exact h
 |ex c g k S=>exact h
 |bad=>exact h
 |_=>exact λa l e b y r=>h a l e b (x.trans y) r
def hC.kJ{k}(h:hC K B E D al H<|toZ r k):gg K B E al lo H j m r (λx f c i e=>hC K B E D f i<|k x e):=by
 cases r with
 |ok x S=>exact λd b n l a g=>hC.ext h a
 |_=>exact h
end
structure ZS(X:Cx)(E:XK)(b:Nat)(st:Stmt)(g:gS):Prop where
 w_::
 o_:∃t:TS,PS X st t/\
 ∀{B:Z0} {al lo H σ ρ S} {D:Ends},B.n=b->RZ X.K B al lo H σ ρ S->hC X.K B E D al H (g ρ S)->t D σ H
structure kE(X:Cx)(E:XK)(b:Nat)(st:fL Stmt)(g:gS):Prop where
 w_::
 o_:∃t:TS,kN X st t/\
 ∀{B:Z0} {al lo H σ ρ S} {D:Ends},B.n=b->RZ X.K B al lo H σ ρ S->hC X.K B E D al H (g ρ S)->t D σ H
def jk:gS:=.nx
def gh(a b:gS):gS:=λc S=>Nz (a c S) b
def jY(f:gU):gS:=λa S=>toZ (f a S) .rt
def gH(i:Nat)(f:gU):gS:=λa S=>toZ (f a S) λz b=>if i<a.length then .nx (a.set i<|some z) b else .bad
def iw(c:oz)(a b:gS):gS:=λd S=>toZ (c d S) λk e=>if k=true then a d e else b d e
section
variable{X:Cx}{E:XK}{b:Nat}{l:Stmt}{rest y m:fL Stmt}{g u A z:gS}{e c:f6}{f:gU}{C:oz}{j:Pos}
def BX:kE X E b [] jk:=⟨_,wH,λ{_ al lo H a _ _ _} d s h=>h al lo H a .refl s⟩
def tW(h:ZS X E b l g):kE X E b [l] g:=let⟨t,p,r⟩:=h;⟨t,tf p,r⟩
def pS(F:ZS X E b l g)(w:kE X E b rest u):kE X E b (l::rest) (gh g u):=by
 obtain⟨K,t,p⟩:=F;obtain⟨J,r,o⟩:=w;refine⟨_,AI t r,λ{B al lo H I k S D} a s h=>p a s ?_⟩;unfold gh at h;cases q:g k S with
 |nx i L=>rw[q]at h;exact λG v M d x n=>o a n (hC.ext h x)
 |_=>rw[q]at h;exact h
def Qg:ZS X E b (.Break j) .bk:=⟨_,JQ,λ{_ al lo H a _ _ _} d s h=>h al lo H a .refl s⟩
def BW(n:ZE X E e f):ZS X E b (.Return (some e) j) (jY f):=by obtain⟨t,p,r⟩:=n;exact⟨_,wD p,λB s h=>r s<|gg.mono (hC.kJ h) λ{_ d a q _} i x w o v k=>o d a q v i.toEZ k⟩
def tV(i)(H:X.N.Nodup)(F:X.N[i]?=some x)(B:Loc X.env.scope x)(G:ZE X E e f)(D:autoParam (swapsWith e (some<|.Name x pos') j.line X.env=pure false) aZ0)(hf:autoParam (X.hf x) aZ3):
    ZS X E b (.Assign [.Name x pos'] e j) (gH i f):=by
 obtain⟨t,p,r⟩:=G;refine⟨_,wF H F B p D hf,λ{_ _ _ _ _ n _ _} L s h=>r s<|gg.mono (hC.kJ h) λ{_ k d I _} o K J a v q=>?_⟩;by_cases w:i<n.length
 ·simp only[w,cz]at a;exact a k d I _ .refl (o.set w q)
 ·simp only[w,bU]at a;exact a.elim
def BU(p:ZT X E c C)(q:kE X E b y A)(a:kE X E b m z):ZS X E b (.If c y m j) (iw C A z):=by
 obtain⟨v,i,d⟩:=p;obtain⟨x,o,F⟩:=q;obtain⟨w,n,D⟩:=a;refine⟨_,wC i o n,λa s h=>d s<|gg.mono (hC.kJ h) λ{k _ _ _ _} B t r G=>?_⟩;cases k with
 |true=>grind
 |false=>grind
def pH(r:iY)(k:gS):iY:=match r with
 |.nx a S=>k a S
 |.ct a S=>k a S
 |.bk a S=>.nx a S
 |r=>r
def OS{K B E al H D k}(h:hC K B E D al H<|pH r k)
 (q:∀a i n d o t,Xt al H a n->RZ K B a i n d o t->hC K B E D a n (k o t)->N d n):hC K B E {D with nx:=N,ct:=N,bk:=D.nx} al H r:=by
  cases r with
  |nx p S=>exact λa i n d x s=>q a i n d p S x s (hC.ext h x)
  |ct p S=>exact λa i n d x s=>q a i n d p S x s (hC.ext h x)
  |_=>exact h
end
abbrev _root_.rq:=D->gQ->fU gQ
structure ZG(X:Cx)(tg:f6)(a:rq):Prop where
 w_::
 o_:∃g:TG,PG X tg g/\
 ∀{B al lo H σ ρ S v d} {Q:St->Hp->Prop},RZ X.K B al lo H σ ρ S->Rep X.K al H v d->(∃jH,a d ρ=some jH/\∀l7,RZ X.K B al lo H l7 jH S->Q l7 H)->g v σ H Q
def hV(i:Nat):D->gQ->fU gQ:=λd a=>if i<a.length then some (a.set i<|iE d)else none
def hT(n:Nat)(a:fL D->gQ->fU gQ):D->gQ->fU gQ:=λd b=>match d with
 |.tup ds=>if ds.length=n then a ds b else none
 |_=>none
def OI{b:Type}(r:fU b)(k:b->iY):iY:=match r with
 |some a=>k a
 |none=>.bad
def jE(a:rq)(b:gS):fL D->gS
 |[],e,S=>.nx e S
 |d::r,e,S=>OI (a d e) λc=>pH (b c S) (jE a b r)
section
variable{X:Cx}{E:XK}{b:Nat}{v c:f6}{l:fL Stmt}{t:ip}{a:rq}{j:gS}{p:Pos}{e:f6}{f:gU}
def lD(t:ip)(a:rq)(j:gS):gS:=λd S=>toZ (jf (t<|ig d) S) λg h=>jE a j g d h
def tS(i)(o:X.N.Nodup)(n:X.N[i]?=some x)(m:Loc X.env.scope x)(hf:autoParam (X.hf x) aZ3):ZG X (.Name x p) (hV i):=by
 refine⟨_,wz o n m hf,λ{_ _ _ _ _ g _ _ _ _} s k h=>?_⟩;obtain⟨d,e,q⟩:=h;unfold hV at e;by_cases z:i<g.length
 ·rw[ae z]at e;cases e;exact q _ (s.set z k)
 ·simp_all
def tU(hp:PassesOwn (model X.prog X.w) X.A X.env X.xe)(hc:X.calm=true)(L:DI X E v c t)(hg:ZG X v a)(P:kE X E b l j)(hs:autoParam (∀x,foldedSetIterable c X.env x=pure x) aZ2):
    ZS X E b (.For v c l [] p) (lD t a j):=by
 obtain⟨wi,pi,ri⟩:=L;obtain⟨g,pg,rg⟩:=hg;obtain⟨tb,pb,rb⟩:=P;refine⟨_,wB hp hc pi pg pb hs,λ{B al lo _ _ V S D} P s h=>ri s.rs<|Aft.mono (gg.toAft (k:=λo C K F U=>hC X.K B E D C F<|jE a j o V U) s<|hC.kJ h) λ{o _} s1 h1 J wk=>?_⟩;refine⟨λi m w H=>∃d r n G,RZ X.K B d r H w n G/\Wk X.K d H J o/\hC X.K B E D d H (jE a j (o.drop i) n G)/\m=o.length - i,⟨_,al,lo,V,S,s.grow s1,wk,h1,rfl⟩,?_⟩
 rintro i m w H ⟨d,r,n,G,N,I,u,rfl⟩
 obtain⟨w1,w2⟩:=I d H .refl N.fresh;by_cases L:i<o.length
 ·right;have ed:o[i]?=some o[i]:=aL L;obtain⟨go,Z⟩:=w1 i _ ed;rw[bj L]at u;refine⟨go,λz F=>∃d r n G,RZ X.K B d r F z n G/\Wk X.K d F J o/\hC X.K B E D d F (jE a j (o.drop<|i+1) n G),λz F ⟨T,O,A,S3,z1,z2,Y⟩=>⟨o.length - (i+1),by grind,T,O,A,S3,z1,z2,Y,rfl⟩,λx H3 y=>?_⟩;obtain⟨rfl,rx⟩:=Z x H3 y;unfold jE at u;cases q:a o[i] n with
  |some A=>rw[q]at u;refine rg N rx ⟨A,q,λW s3=>rb P s3<|OS (k:=jE a j<|o.drop<|i+1) u λC K F z M U x' s' h'=>⟨C,K,M,U,s',λQ H4 x4=>I Q H4<|x'.trans x4,h'⟩⟩
  |none=>rw[q]at u;exact u.elim
 ·left;have e:o.drop i=[]:=bu (by simp_all);rw[e]at u;exact⟨w2 i<|by simp_all,u d r H w .refl N⟩
end
def je(n:Nat)(a:fL Z):gQ:=a.map some++List.replicate (n - a.length) none
noncomputable def hY:iY->RX Z
 |.rt z S=>.ok z S
 |.nx _ S=>.ok (.d .non) S
 |.ex c ns ds S=>.ex c ns ds S
 |_=>.bad
def wR{al:gL}{lo}(c:iG K H)(fr:∀a,H a=none->al a)(d:mE K al lo H S)(r:hP K al lo H vs zs):RZ K ⟨H,al,lo,S.length⟩ al lo H (L2.start N vs) (je N.length zs) S where
 toEZ:=EZ.start (zs:=zs) c fr d
 len:=by unfold L2.start je;simp[r.length]
 vr:=λi z h=>by
  unfold je at h;by_cases b:i<zs.length
  ·rw[aB<|by simpa using b,aF]at h;cases q:zs[i]? with
   |none=>rw[q]at h;cases h
   |some y=>rw[q]at h;cases h;obtain⟨v,f,e⟩:=r.get q;refine⟨v,?_,e⟩;unfold L2.start;rw[aB<|by simpa [r.length]using b,aF,f];rfl
  ·rw[av<|by simpa using b,bt]at h;split at h<;>cases h
section
variable{P:gy}{w:gs}{K:fZ}{y:g5}{j:gc}
def EG{x:fR}{e:Stmt}{f:fO}{v:jm}{N n:gu}{k:Nat}{g:Nat->gS}(F:jZ K x x e f v)(S:lF N n<|gG e)
    (i:∀(b:Nat) (d:fN) (A:gz) (a:iK) (s:fS) (H:Hp) (E:XK),g8 k (gW (gJ P w) P w K y j N x (gG e) f d A a s H E).A->kE (gW (gJ P w) P w K y j N x (gG e) f d A a s H E) E b (jD e) (g b)):
    kb P w K y j (k+1) f v n (j9 n.length K λm S=>hY<|g S.length (je N.length m) S):=by
 refine F.Ai S (λG H Q E h=>h.1) (λd A a s H G Q E M h=>?_);obtain⟨U,I,al,lo,m,l,fr,e,L,h⟩:=h;obtain⟨t,p,r⟩:=i l.length d A a s H E M;dsimp only at h;refine⟨t,p,r (B:=⟨H,al,lo,l.length⟩) rfl (wR I fr e L) ?_⟩;cases q:g l.length (je N.length m) l with
 |nx R C=>rw[q]at h;exact λu o O D _ J=>h u o O .non J.toEZ .non
 |rt z C=>rw[q]at h;exact h
 |ex c T V C=>rw[q]at h;exact h
 |_=>rw[q]at h;exact h.elim
def clo:RX Z->R D
 |.ok (.d x) _=>.ok x
 |.ex c ns ds _=>.ex c ns ds
 |_=>.bad
def N0:mE K al (λ_=>none) H []:=
 {at':=λ_ _ h=>(by cases h),has:=λn c h _ _=>(by simp at h),na:=λ_ _ h=>(by cases h),inj:=λ_ _ _ h=>(by cases h),tl:=λh=>(by simp at h)}
def NQ{n}{F:ix}(h:jj n K (λl=>clo<|F (l.map .d) []) vs H Q E):j9 n K F vs H Q E:=by
 obtain⟨t,s,al,l,fr,m,h⟩:=h;refine⟨t,s,al,λ_=>none,l.map .d,[],fr,N0,.ofD m,?_⟩;have i:∀{f g k p},EZ K ⟨H,al,λ_=>none,([]:f7).length⟩ f g k p->gF K H k:=λe=>⟨λb o no u=>e.fr b o no u λ_=>nofun,e.hf,λ_=>e.tt⟩;have sub:∀{f g k p},EZ K ⟨H,al,λ_=>none,([]:f7).length⟩ f g k p->∀a,f a->al a:=λe a A=>(e.sb a A).elim id (fr a);dsimp only at h;cases q:F (l.map .d) []with
 |bad=>rw[q]at h;exact h.elim
 |ex c D G C=>rw[q]at h;exact λf g k B e r=>h B k (i e) (r.mv<|.sub<|sub e)
 |ok z C=>
  rw[q]at h;cases z with
  |d x=>exact λf g k v e m=>h k (i e) v (Rep.mv (.sub<|sub e) m)
  |_=>exact h.elim
def jv.close{k n}(h:kb P w K y j k f fd ps<|j9 n K F):kb P w K y j k f fd ps (jj n K<|λa=>clo<|F (a.map .d) []):=
 h.imp λb H Q E q=>NQ q
variable{X:Cx}{E:XK}{b:Nat}{l:Stmt}{e:f6}{m:Pos}
def oi(d:ip):gU:=λc S=>(jf (d<|ig c) S).bind λf a=>.ok (.loc a.length) (a++[.li<|f.map .d])
def BR(i:DN X E e fn):ZE X E e (oi fn):=by obtain⟨t,p,r⟩:=i;refine⟨t,p,λ{_ al lo _ _ _ S _} s h=>r s.rs<|Aft.mono (gg.toAft s<|gg.split h) λ{o q} f n p d c g=>?_⟩;have a:=s.grow f;have k:ju X.K (λb=>al b/\b≠p) (jF lo S.length p) (upd q p<|.lst d) p (.li<|o.map .d):=⟨d,hD,hP.mv (og c) (mq a.st p)<|.ofD g⟩;exact n _ _ _ (a.new c kq k nofun) (og c) (mq a.st p) _ ⟨p,by unfold jF;rw[ae rfl],rfl⟩
def Qm(i)(A:X.N.Nodup)(v:X.N[i]?=some x)(q:Loc X.env.scope x)(z:nC X E e fn)(u:autoParam (swapsWith e (some<|.Name x pos') m.line X.env=pure true) aZ0)(hf:autoParam (X.hf x) aZ3):
    ZS X E b (.Assign [.Name x pos'] e m) (gH i<|zD<|gZ fn):=by
 obtain⟨t,_,p,r⟩:=z;refine⟨_,AH A v q p u hf,λ{_ al lo _ _ k _ _} F s h=>r s.rs ?_⟩;have C:=gg.toAft s (gg.split<|hC.kJ h);refine Aft.mono (Aft.split C) λ{D _} g B p d c n=>?_;have f:=(s.grow g).grow (jG (K:=X.K) (o:=HO.lst d) c);have a:=B _ (jG (K:=X.K) (o:=HO.lst d) c) al lo _ f .refl .refl;dsimp only at a;by_cases w:i<k.length
 ·rw[ae w]at a;exact a _ _ _ _ .refl (f.set w<|show iJ X.K al lo _ (.ref p) (.d<|.lst D)from n.mR c ((s.grow g).fresh p c))
 ·rw[ah w]at a;exact a.elim
end
section
variable{X:Cx}{E:XK}{b:Nat}{e:f6}{l:Pos}{f:gU}
def oh(i:Nat)(f:gU):gS:=λa S=>match a[i]? with
 |some (some (.loc n))=>(match S[n]? with
  |some (.li _)=>toZ (f a S) λz d=>(match d[n]? with
   |some (.li c)=>if c.length<sizeLine then .nx a (d.set n<|.li<|c++[z])else .bad
   |_=>.bad)
  |_=>.bad)
 |_=>.bad
def RZ.cell{lo}(s:RZ K B al lo H σ ρ S){n}(d:lo n=some a)(h:S[n]?=some c):ju K al lo H a c:=by obtain⟨j,i,g⟩:=s.st.at' n a d;simp_all
def Qf(i){d:Pos}(Z:PlainAttrs "list")(A:Slot "list" "append" "list.append")(G:typeOf (.builtin "list.append")=pure (.type "method_descriptor"))(he:ZE X E e f)
 (hN:autoParam (X.N[i]?=some x) aZ0)(hv:autoParam (lM X.env.scope x) aZ4)(hd:autoParam (i8 x) aZ1)
 (I:autoParam ((x==("__classdict__":fR))=false) aZ1)
 (m:autoParam (attributeBase (.Name x ji) "append" X.env (eval (.Name x ji) X.env)=eval (.Name x ji) X.env) aZ0)
 (B:autoParam (((backTo jx (starEach [e] X.env)).all (λx=>!x.1)&&(backToKw jx (keywordEach [] X.env)).all (λx=>x.1.isSome)
 &&decide ([e].length+([]:fL Keyword).length+(if([]:fL Keyword).isEmpty then 0 else 1)<30))=true) aZ0)
 (k:autoParam ((d.endLine==jx.line)=true) aZ0)(L:autoParam (X.se e []) aZ0)(g:autoParam ((backTo jx<|starEach [] X.env).any (·.1)=false) aZ0)
 (H:autoParam (swapsWith (.Call (.Attribute (.Name x ji) "append" d) [e] [] jx) none l.line X.env=pure false) aZ0):
   ZS X E b (.Expr (.Call (.Attribute (.Name x ji) "append" d) [e] [] jx) l) (oh i f):=by
  obtain⟨t,p,r⟩:=he;refine⟨_,td (wx Z A G wc (nX hN hv hd I) (mU p mV L) m B k L g) H,λJ s h=>?_⟩;unfold oh at h;split at h
  ·rename_i n q;split at h
   ·rename_i P Y;obtain⟨v,e1,a,M,rfl⟩:=s.vr i _ q;obtain⟨T,e2,e3⟩:=s.cell M Y;refine⟨_,e1,.inl ⟨rfl,T,.inl<|.inl e2⟩,r s<|gg.mono (hC.kJ h) λ{z C _ O _} F x1 Q y u V=>?_⟩;split at y
    ·rename_i K W;have j:=Q n a M;obtain⟨D,g2,N⟩:=F.cell j W;by_cases w:K.length<sizeLine
     ·rw[ae w]at y;have S:Xt C O C (upd O a (.lst (D++[u]))):=λb o _ J eb=>⟨J,by rw[gj λz=>F.st.na n a j (by rw[<-z];exact J)];exact eb⟩;obtain⟨U,R⟩:=F.write j (o:=.lst (D++[u])) (c:=.li (K++[z])) kq (λq w=>by unfold iX at w;cases w) ⟨_,hD,hP.mv S .refl (N.append (.cons V .nil))⟩ nofun;exact⟨a,D,u,rfl,rfl,g2,by rw[N.length];exact w,y _ _ _ _ R U⟩
     ·rw[ah w]at y;exact y.elim
    ·exact y.elim
   ·exact h.elim
  ·exact h.elim
def pO(i:Nat)(d:gf)(f:gU):gS:=λa S=>toZ (f a S) λz g=>match a[i]? with
 |some (some (.loc n))=>toZ (jf (d (ig a)) g) λk c=>(match k,c[n]? with
  |.int j,some (.li zs)=>(match lW zs.length j with
   |some m=>.nx a (c.set n<|.li<|zs.set m z)
   |none=>.bad)
  |_,_=>.bad)
 |_=>.bad
variable{k:f6}{y:gf}
def BV(i)(Z:DE X E k y)(he:ZE X E e f)
 (hN:autoParam (X.N[i]?=some x) aZ0)(hv:autoParam (lM X.env.scope x) aZ4)(hd:autoParam (i8 x) aZ1)
 (K:autoParam ((x==("__classdict__":fR))=false) aZ1)
 (ha:autoParam (∀v,assign (.Subscript (.Name x ji) k pG) X.env v=(do
 let C<-holding [v] (eval (.Name x ji) X.env)
 let I<-holding [v,C] (eval k X.env)
 standAt pG
 holding [v,C,I] (setItem C I v)
 release [v,C,I] [])) aZ2)
 (Y:autoParam (swapsWithSole [.Subscript (.Name x ji) k pG] e l.line X.env=pure false) aZ0)(W:autoParam (swappedStores [.Subscript (.Name x ji) k pG] e X.env=pure none) aZ0)
 (g:autoParam ((assignEach [.Subscript (.Name x ji) k pG] X.env).map (·.2)=[assign (.Subscript (.Name x ji) k pG) X.env]) aZ0):
   ZS X E b (.Assign [.Subscript (.Name x ji) k pG] e l) (pO i y f):=by
  obtain⟨t,p,r⟩:=he;obtain⟨tk,pk,rk⟩:=Z;refine⟨_,JP p (JA (nX hN hv hd K) pk set_list ha) Y W g,λL s h=>r s<|gg.mono (hC.kJ h) λ{z A _ _ _} B x1 y1 g v T=>?_⟩;split at g
  ·rename_i n q;obtain⟨u,e1,a,J,rfl⟩:=B.vr i _ q;refine⟨_,e1,rk B.rs<|Aft.mono (gg.toAft B<|hC.kJ g) λ{_ O} M d w G=>?_⟩;have F:=B.grow M;split at d
   ·rename_i j P V;cases G;obtain⟨D,g1,N⟩:=F.cell J V;split at d
    ·rename_i m U;have H:=iJ.mv (.of M) .refl T;have R:Xt A O A (upd O a (.lst (D.set m v))):=λb o _ L eb=>⟨L,by rw[gj λz=>F.st.na n a J (by rw[<-z];exact L)];exact eb⟩;obtain⟨S,Q⟩:=F.write J (o:=.lst (D.set m v)) (c:=.li (P.set m z)) kq (λq w=>by unfold iX at w;cases w) ⟨_,hD,hP.mv R .refl (N.set H m)⟩ nofun;exact⟨a,D,j,m,rfl,rfl,g1,by rw[N.length];exact U,d _ _ _ _ Q S⟩
    ·exact d.elim
   ·exact d.elim
  ·exact g.elim
end
mutual
def ko:D->f5
 |.lst _=>false
 |.tup ds=>lu ds
 |.exc _ _ _=>false
 |_=>true
def lu:fL D->f5
 |[]=>true
 |d::r=>ko d&&lu r
end
noncomputable def k7(S:f7):fU Z->Sl
 |some (.d x)=>.sh x
 |some (.loc n)=>(match S[n]? with
  |some (.li a)=>(match kg a with
   |some b=>gR b
   |none=>.no)
  |_=>.no)
 |_=>.no
def vw(S:f7)(a:gQ):Ev:=a.map (k7 S)
variable{K:fZ}{B:Z0}{al:gL}{lo:Lo}{H H':Hp}{σ:St}{ρ:gQ}{S:f7}
def rA(al:gL)(lo:Lo):fO->Prop:=λa=>al a\/∃n,lo n=some a
def RZ.tu(r:RZ K B al lo H σ ρ S):RS K (rA al lo) H (rA al lo) H σ (vw S ρ) where
 same:=.refl H
 tt:=r.tt
 fresh:=λa h=>.inl (r.fresh a h)
 sub:=λ_ h=>h
 pf:=λa h=>.inl (r.fresh a h)
 len:=by unfold vw;rw[ar];exact r.len
 sh:=λi d h=>by
  unfold vw at h;rw[aF]at h;obtain⟨z,c,b⟩:=aA.mp h;cases z with
  |none=>cases b
  |some z=>
   obtain⟨v,o,f⟩:=r.vr i z c;refine⟨v,o,?_⟩;cases z with
   |d x=>cases b;exact Rep.mv (.sub λ_ h=>.inl h) f
   |tk u=>cases b
   |loc n=>
    unfold k7 at b;dsimp only at b;split at b
    ·rename_i s q;split at b
     ·rename_i g k;cases b;have:=oD k;subst this;obtain⟨a,e,rfl⟩:=f;obtain⟨t,m,l⟩:=r.cell e q;exact .lst (.inl ⟨.inr ⟨n,e⟩,.inl m⟩) (fX.mv (.sub λ_ h=>.inl h) l.toD)
     ·cases b
    ·cases b
 ow:=λi g h=>by
  unfold vw at h;rw[aF]at h;obtain⟨z,c,b⟩:=aA.mp h;unfold k7 at b;split at b;·cases b
  ·split at b;·split at b<;>cases b
   ·cases b
  ·cases b
 apart:=λi j g p a h _ _ _=>by
  unfold vw at h;rw[aF]at h;obtain⟨z,c,b⟩:=aA.mp h;unfold k7 at b;split at b;·cases b
  ·split at b;·split at b<;>cases b
   ·cases b
  ·cases b
def Rep.ko(f:∀n a,lo n=some a->¬∃e,Rd H a<|.tup e){d}(r:Rep K (rA al lo) H v d):P2.ko d=true->Rep K al H v d:=
 Rep.rec (motive_1:=λv d _=>P2.ko d=true->Rep K al H v d) (motive_2:=λv d _=>lu d=true->fX K al H v d) (λ_=>.non) (λb _=>.bl b) (λb _=>.int b) (λb _=>.str b) (λb _=>.ty b) (λb _=>.ref b)
  (λp _ q h=>.tup (p.elim (λz=>.inl ⟨z.1.elim id λ⟨n,g⟩=>absurd ⟨_,.inl z.2⟩<|f n _ g,z.2⟩) .inr)<|q h) (λ_ _ _ h=>by cases h) (λ_ _ _ _ _ _ h=>by cases h) (λ_ _ h=>by cases h) (λ_=>.nil) (λ{_ d _ i} _ _ p q h=>by have c:(P2.ko d&&lu i)=true:=h;rw[aK]at c;exact .cons (p c.1) (q c.2)) r
def fX.ko(e:∀n a,lo n=some a->¬∃c,Rd H a<|.tup c){v:fL V}{d:gx}(r:fX K (rA al lo) H v d)(h:lu d=true):fX K al H v d:=by
 induction d generalizing v with
 |nil=>cases r;exact .nil
 |cons d g f=>
  cases r with
  |cons p q=>have b:(P2.ko d&&lu g)=true:=h;rw[aK]at b;exact .cons (Rep.ko e p b.1) (f q b.2)
def RZ.z9(r:RZ K B al lo H σ ρ S):∀n a,lo n=some a->¬∃d,Rd H a (.tup d):=λn a f ⟨d,h⟩=>by
 obtain⟨c,_,q⟩:=r.st.at' n a f;cases c with
 |ob C fs=>obtain⟨j,b,g,_⟩:=q;rcases h with h|⟨o,h⟩<;>(rw[g]at h;cases h)
 |ft e=>obtain⟨b,i,g,_⟩:=q;rcases h with h|⟨o,h⟩<;>(rw[g]at h;cases h)
 |no=>exact q
 |mk=>exact q
 |_=>obtain⟨b,g,_⟩:=q;rcases h with h|⟨o,h⟩<;>(rw[g]at h;cases h)
def zR(f:gf):gU:=λρ S=>match f (vw S ρ)with
 |.ok d=>if ko d=true then .ok (.d d) S else .bad
 |_=>.bad
def ku(f:iM):gQ->f7->RX f5:=λρ S=>match f (vw S ρ)with
 |.ok d=>.ok d S
 |_=>.bad
def tQ(a:ip):gU:=λρ S=>match a (vw S ρ)with
 |.ok ds=>if lu ds=true then .ok (.loc S.length) (S++[.li<|ds.map .d])else .bad
 |_=>.bad
variable{X:Cx}{E:XK}{b:Nat}{e:f6}{pos:Pos}
def P8(h:DE X E e f):ZE X E e (zR f):=by
 obtain⟨t,p,r⟩:=h;refine⟨t,p,λ{_ al lo _ _ ρ S _} z h=>r z.tu ?_⟩;unfold zR at h;cases q:f (vw S ρ)with
 |ok d=>
  rw[q]at h;dsimp only at h;by_cases w:ko d=true
  ·rw[ae w]at h;exact λg a v c=>h al lo g (z.grow a) (.of a) .refl v (Rep.ko (z.grow a).z9 c w)
  ·rw[ah w]at h;exact h.elim
 |_=>rw[q]at h;exact h.elim
def Qq(h:DT X E e f):ZT X E e (ku f):=by
 obtain⟨t,p,r⟩:=h;refine⟨t,p,λ{_ al lo _ _ ρ S _} z h=>r z.tu ?_⟩;unfold ku at h;cases q:f (vw S ρ)with
 |ok d=>rw[q]at h;exact λc a=>h al lo c (z.grow a) (.of a) .refl
 |_=>rw[q]at h;exact h.elim
def P6{f:ip}(l:DN X E e f):ZE X E e (tQ f):=by
 obtain⟨t,p,r⟩:=l;refine⟨t,p,λ{_ al lo _ _ ρ S _} s h=>r s.tu ?_⟩;unfold tQ at h;cases q:f (vw S ρ)with
 |ok j=>
  rw[q]at h;dsimp only at h;by_cases w:lu j=true
  ·rw[ae w]at h;intro n i p g d k;have a:=s.grow i;have c:=fX.ko a.z9 k w;have m:ju X.K (λb=>al b/\b≠p) (jF lo S.length p) (upd n p<|.lst g) p (.li<|j.map .d):=⟨g,hD,hP.mv (og d) (mq a.st p)<|.ofD c⟩;exact h _ _ _ (a.new d kq m nofun) ((Xt.of i).trans (og d)) (mq a.st p) _ ⟨p,by unfold jF;rw[ae rfl],rfl⟩
  ·rw[ah w]at h;exact h.elim
 |_=>rw[q]at h;exact h.elim
def k6(n:Nat)(d:D):fU Z->fU Z
 |some (.loc m)=>if m=n then iE d else f3 m
 |o=>o
def jI(n:Nat):Z->f5
 |.loc m=>decide (m=n)
 |_=>false
def lQ(n:Nat):Cell->f5
 |.li zs=>zs.any (jI n)
 |.ob _ fs=>fs.any λp=>jI n p.2
 |.dk a=>a.any λp=>jI n p.2
 |.dt a=>a.any λp=>jI n p.2
 |.ft a=>a.any λp=>jI n p.2
 |.no=>false
 |.mk=>false
noncomputable def oU(b i:Nat)(ρ:gQ)(S:f7):fU (gQ×f7):=match ρ[i]? with
 |some (some (.loc n))=>(match S[n]? with
  |some (.li a)=>(match kg a with
   |some c=>if b<=n/\(S.any<|lQ n)=false then some (ρ.map<|k6 n<|.lst c,S.set n .no)else none
   |none=>none)
  |_=>none)
 |some _=>some (ρ,S)
 |none=>none
variable{jH:gQ}{S':f7}
def iJ.out{n}(x:Xt al H iD H)(y:∀m a,m≠n->lo m=some a->kI m=some a)(r:iJ K al lo H v z)(h:jI n z=false):iJ K iD kI H v z:=by
 cases z with
 |d d=>exact Rep.mv x r
 |loc m=>obtain⟨a,f,c⟩:=r;exact⟨a,y m a (by simpa [jI]using h) f,c⟩
 |tk g=>obtain⟨a,f,c,i⟩:=r;obtain⟨k,j⟩:=x a (.tup<|g.map kV) (λ_ h=>nomatch h) f c;exact⟨a,k,j,i⟩
def hP.out{n}(x:Xt al H iD H)(y:∀m a,m≠n->lo m=some a->kI m=some a)(r:hP K al lo H vs zs)(h:zs.any (jI n)=false):hP K iD kI H vs zs:=by
 induction r with
 |nil=>exact .nil
 |cons a _ c=>rw[dO,fD]at h;exact .cons (a.out x y h.1) (c h.2)
def iT.out{n}(x:Xt al H iD H)(y:∀m a,m≠n->lo m=some a->kI m=some a)(r:iT K al lo H vs zs)(h:(zs.any λp=>jI n p.2)=false):iT K iD kI H vs zs:=by
 induction r with
 |nil=>exact .nil
 |cons a _ c=>rw[dO,fD]at h;exact .cons (a.out x y h.1) (c h.2)
def ju.out{i:Lo}{n}(x:Xt al H iD H)(y:∀m a,m≠n->lo m=some a->i m=some a)(r:ju K al lo H a c)(h:lQ n c=false):ju K iD i H a c:=by
 cases c with
 |li p=>obtain⟨j,f,d⟩:=r;exact⟨j,f,d.out x y h⟩
 |ob C fs=>obtain⟨l,g,f,d⟩:=r;exact⟨l,g,f,d.out x y h⟩
 |ft k=>obtain⟨g,o,f,d⟩:=r;exact⟨g,o,f,d.out x y h⟩
 |no=>exact r
 |mk=>exact r
 |_=>obtain⟨g,f,d⟩:=r;exact⟨g,f,d.out x y h⟩
def RZ.freeze(r:RZ K B al lo H σ ρ S)(h:oU B.n i ρ S=some (jH,S')):∃s p,RZ K B s p H σ jH S'/\Xt al H s H/\∀n,ρ[i]?=some (f3 n)->∀m a,m≠n->lo m=some a->p m=some a:=by
 unfold oU at h;split at h
 ·rename_i n q;split at h
  ·rename_i zs L;split at h
   ·rename_i ds Q;split at h
    ·rename_i w;cases h;obtain⟨v,e1,a,F,rfl⟩:=r.vr i _ q;have:=oD Q;subst this;obtain⟨vs,g1,g2⟩:=r.cell F L;have O:n<S.length:=(au.mp L).1;have x:Xt al H (λb=>al b\/b=a) H:=λb o _ g e=>⟨.inl g,e⟩;have hB:B.H a=none:=by
      rcases r.nw n a F with z|z;·exact absurd (r.bd n a z) (by simp_all)
      ·exact z.1
     refine⟨λb=>al b\/b=a,λm=>if m=n then none else lo m,?_,x,λn' e m b f g=>?_⟩;rotate_left;·rw[q]at e;cases e;dsimp only;rw[ah f];exact g
     have y:∀m b,m≠n->lo m=some b->(λm=>if m=n then none else lo m) m=some b:=λm b f h=>by dsimp only;rw[ah f];exact h
     have back:∀m b,(if m=n then none else lo m)=some b->m≠n/\lo m=some b:=λm b h=>by
      by_cases z:m=n;·rw[ae z]at h;cases h
      ·rw[ah z]at h;exact⟨z,h⟩
     have cl:∀c∈S,lQ n c=false:=λc G=>by have:=cY.mp w.2 c G;simpa using this
     refine {fr:=r.fr,hf:=r.hf,tt:=r.tt,fresh:=λb g=>.inl<|r.fresh b g,st:=⟨λm b f=>?_,λm c f G I=>?_,λm b f g=>?_,λm M b h1 h2=>?_,λm b u g hu=>.inl<|r.st.tl ?_ b u g hu⟩,lx:=λm b f=>?_,nw:=λm b f=>r.nw m b (back m b f).2,bd:=r.bd,sz:=by rw[aR];exact r.sz,xt:=r.xt.trans x,sb:=λb g=>?_,len:=by rw[ar];exact r.len,vr:=λj z N=>?_}
     ·obtain⟨z1,z2⟩:=back m b f;obtain⟨c,D,l⟩:=r.st.at' m b z2;exact⟨c,by rw[aq (b7 z1)];exact D,l.out x y (cl c (cx D))⟩
     ·by_cases z:n=m
      ·subst z;rw[aD O]at f;cases f;exact absurd rfl G
      ·rw[aq z]at f;obtain⟨b,k⟩:=r.st.has m c f G I;exact⟨b,by show(if m=n then none else lo m)=some b;rw[ah<|b7 z];exact k⟩
     ·obtain⟨z1,z2⟩:=back m b f;rcases g with g|rfl;·exact r.st.na m b z2 g
      ·exact z1 (r.st.inj m n _ z2 F)
     ·exact r.st.inj m M b (back m b h1).2 (back M b h2).2
     ·by_cases z:n=0
      ·subst z;rw[aD O]at m;cases m
      ·rw[aq z]at m;exact m
     ·have:=r.bd m b f;show(if m=n then none else lo m)=some b;rw[ah<|by lia];exact r.lx m b f
     ·rcases g with g|rfl;·exact r.sb b g
      ·exact .inr hB
     ·rw[aF]at N;obtain⟨o,D,l⟩:=aA.mp N;cases o with
      |none=>cases l
      |some J=>
       obtain⟨u,R,A⟩:=r.vr j J D;refine⟨u,R,?_⟩;cases J with
       |d x0=>cases l;exact Rep.mv x A
       |tk T=>cases l;obtain⟨P,Y,V,U⟩:=A;obtain⟨i1,i2⟩:=x P (.tup<|T.map kV) (λ_ h=>nomatch h) Y V;exact⟨P,i1,i2,U⟩
       |loc m=>
        have l:(if m=n then some (Z.d<|.lst ds)else some (Z.loc m))=some z:=l;by_cases t:m=n
        ·rw[ae t]at l;cases l;obtain⟨b,C,rfl⟩:=A;rw[t,F]at C;cases C;exact .lst (.inl ⟨.inr rfl,.inl g1⟩) (fX.mv x g2.toD)
        ·rw[ah t]at l;cases l;obtain⟨b,C,rfl⟩:=A;exact⟨b,by dsimp only;rw[ah t];exact C,rfl⟩
    ·cases h
   ·cases h
  ·cases h
 ·cases h;exact⟨al,lo,r,.refl,λ_ _ _ _ _ h=>h⟩
 ·cases h
variable{Q3:fL Stmt}{st:Stmt}{g:gS}
def pN(b i:Nat)(g:gS):gS:=λρ S=>match oU b i ρ S with
 |some (jH,S')=>g jH S'
 |none=>.bad
def Ql(i)(h:ZS X E b st g):ZS X E b st (pN b i g):=by
 obtain⟨t,p,r⟩:=h;refine⟨t,p,λ{B _ _ _ _ _ _ _} a s h=>?_⟩;unfold pN at h;split at h
 ·rename_i jH S' q;rw[<-a]at q;obtain⟨f,d,c,x,_⟩:=s.freeze q;exact r a c (hC.ext h x)
 ·exact h.elim
end P2
namespace L2
open PySem PySem.Spec PyProof.Rows
section
variable{c:Type}[DecidableEq c]
def jM(a:fL<|c×V)(k:c):fU V:=(a.find? λd=>decide<|d.1=k).map (·.2)
def putK(a:fL<|c×V)(k:c)(v:V):fL (c×V):=
 if(a.any λd=>decide<|d.1=k)=true then a.map (λd=>if d.1=k then(d.1,v)else d)else a++[(k,v)]
def xm{p:c×V}{r:fL<|c×V}{k:c}(e:p.1=k):jM (p::r) k=some p.2:=by simp[jM,bY,e]
def xl{p:c×V}{r:fL<|c×V}{k:c}(e:¬p.1=k):jM (p::r) k=jM r k:=by simp[jM,bY,e]
theorem By(k:c):∀a:fL (c×V),(a.any λd=>decide<|d.1=k)=(jM a k).isSome
 |[]=>rfl
 |p::r=>by
  rw[dO];by_cases e:p.1=k;·simp only[xm e,aE e,Bool.true_or,Option.isSome_some]
  ·rw[xl e,ax e,Bool.false_or];exact By k r
def zQ(a:fL<|c×V)(k:c)(v:V):(putK a k v).length<=a.length+1:=by
 unfold putK;split;·rw[ar];omega
 ·rw[aj,aI,fw];omega
def lK.vH{o:fU V}{u:qb}(r:lK o u):o.isSome=u.isSome:=by
 cases o with
 |none=>cases u with
  |none=>rfl
  |some _=>exact(show False from r).elim
 |some _=>cases u with
  |none=>exact(show False from r).elim
  |some _=>rfl
def KV.val{a:fL<|c×V}{i:fL<|c×fN}(r:KV a i)(k:c):lK (jM a k) (valueAt i k):=by
 unfold KV at r;induction r with
 |nil=>exact True.intro
 |@cons p q n d h t l=>
  obtain⟨j,m⟩:=h;by_cases e:p.1=k
  ·have f:q.1=k:=j.symm.trans e;have b:valueAt (q::d) k=some q.2:=by simp[valueAt,bY,f]
   rw[xm e,b];exact m
  ·have f:¬q.1=k:=λz=>e (j.trans z);have b:valueAt (q::d) k=valueAt d k:=by simp[valueAt,bY,f]
   rw[xl e,b];exact l
def KV.any{a:fL<|c×V}{f:fL<|c×fN}(r:KV a f)(k:c):(a.any λd=>decide<|d.1=k)=f.any λd=>decide (d.1=k):=by
 unfold KV at r;induction r with
 |nil=>rfl
 |cons h t i=>rw[dO,dO,i,h.1]
def KV.wM{d:fL<|c×V}{i:fL<|c×fN}(r:KV d i)(k:c){y:V}{u:fN}(j:RelV y u):
    KV (d.map λa=>if a.1=k then(a.1,y)else a) (i.map λa=>if a.1=k then(a.1,u)else a):=by
 unfold KV at r⊢;induction r with
 |nil=>exact .nil
 |@cons p q o n h t l=>
  rw[ay,ay];refine .cons ?_ l;obtain⟨f,m⟩:=h;by_cases e:p.1=k;·rw[ae e,ae<|f.symm.trans e];exact⟨f,j⟩
  ·rw[ah e,ah<|λz=>e<|f.trans z];exact⟨f,m⟩
def KV.put{a:fL<|c×V}{d:fL<|c×fN}(r:KV a d)(k:c){y:V}{u:fN}(f:RelV y u):KV (putK a k y) (stored d k u):=by
 unfold putK stored;rw[r.any k];by_cases e:(d.any λh=>decide<|h.1=k)=true;·rw[ae e,ae e];exact r.wM k f
 ·rw[ah e,ah e];exact Paired.snoc r ⟨rfl,f⟩
def KV.length{a:fL<|c×V}{d:fL<|c×fN}(r:KV a d):a.length=d.length:=Paired.length r
end
def sA{P:gy}{w:gs}{k:Key}{u:fN}(r:RelV (kV k) u):(kn P w).is k u=true:=by
 cases k with
 |inl i=>obtain⟨t,e⟩:=(show∃t,u=Value.int i t from r);subst e;exact HE P w i t
 |inr x=>obtain⟨t,e⟩:=(show∃t,u=Value.str x t from r);subst e;exact HF P w x t
theorem zH{P:gy}{w:gs}:∀{a:fL Key} {c:gq},Vals (a.map kV) c->ItemsAre (kn P w) a c
 |[],_,r=>by rw[b9]at r;cases r;exact .nil
 |k::a,_,r=>by
  rw[ay]at r;cases r with
  |cons h t=>exact .cons (sA h) (zH t)
abbrev KT(H:Hp):fL (fL Key×V)->fL (fL Key×fO×fN)->Prop:=Paired λp q=>p.1=q.1/\H q.2.1=some (.tup<|p.1.map kV)/\RelV p.2 q.2.2
abbrev _root_.pZ:=fL (fL Key×fO×fN)
def KT.val{H:Hp}{a:fL<|fL Key×V}{f:pZ}(r:KT H a f)(k:fL Key):lK (jM a k) ((atKey f k).map (·.2)):=by
 induction r with
 |nil=>exact True.intro
 |@cons p q m c h t j=>
  obtain⟨i,_,l⟩:=h;by_cases e:p.1=k
  ·have d:q.1=k:=i.symm.trans e;have b:atKey (q::c) k=some q.2:=by simp[atKey,bY,d]
   rw[xm e,b];exact l
  ·have d:¬q.1=k:=λz=>e (i.trans z);have b:atKey (q::c) k=atKey c k:=by simp[atKey,bY,d]
   rw[xl e,b];exact j
def KT.wM{H:Hp}{a:fL<|fL Key×V}{f:pZ}(r:KT H a f)(k:fL Key){y:V}{u:fN}(j:RelV y u):
    KT H (a.map λd=>if d.1=k then(d.1,y)else d) (f.map<|putAt k u):=by
 induction r with
 |nil=>exact .nil
 |@cons p q o n h t l=>
  rw[ay,ay];refine .cons ?_ l;obtain⟨c,i,m⟩:=h;unfold putAt;by_cases e:p.1=k;·rw[ae e,ae<|c.symm.trans e];exact⟨c,i,j⟩
  ·rw[ah e,ah<|λz=>e<|c.trans z];exact⟨c,i,m⟩
def KT.put{H:Hp}{a:fL<|fL Key×V}{c:pZ}(r:KT H a c)(k:fL Key){b:fO}{y:V}{u:fN}(h:H b=some (.tup<|k.map kV))(d:RelV y u):
    KT H (putK a k y) (storedH c k b u):=by
 have e:(a.any λf=>decide<|f.1=k)=(atKey c k).isSome:=by rw[By,(r.val k).vH,Option.isSome_map]
 unfold putK storedH;rw[e];by_cases q:(atKey c k).isSome=true;·rw[ae q,ae q];exact r.wM k d
 ·rw[ah q,ah q];exact Paired.snoc r ⟨rfl,h,d⟩
def KT.keeps{H H':Hp}{a:fL<|fL Key×V}{d:pZ}(r:KT H a d)(f:∀b c,H b=some (.tup c)->H' b=some (.tup c)):KT H' a d:=
 Paired.v9 r λ_ _ z=>⟨z.1,f _ _ z.2.1,z.2.2⟩
variable{P:gy}{w:gs}{H:Hp}{h:gc}{a:fO}
def AV{u:HO}(ok:hX P w H h)(e:Rd H a u):iy P w H h a u:=e.ok ok
def rP{c:fL<|Key×V}(ok:hX P w H h)(e:Rd H a<|.dK c):c.length<=sizeLine/\(a==sysModules)=false/\∃d,KV c d/\h.DictOf (kn P w) a d:=
 show iy P w H h a (.dK c)from AV ok e
def DM{c:fL<|Key×V}(ok:hX P w H h)(e:H a=some (.dK c)):c.length<=sizeLine/\(a==sysModules)=false/\∃d,KV c d/\h.DictOf (kn P w) a d:=rP ok (.inl e)
def sC{c:fL Key}(ok:hX P w H h)(e:H a=some (.tup (c.map kV))):(tupleKind (kn P w)).is h c a:=by obtain⟨_,d,r,o,j,i,n,f⟩:=(show iy P w H h a (.tup<|c.map kV)from ok a _ e);exact⟨o,d.toArray,n,j,i,f,by simpa using zH r⟩
def rQ{c:fL<|fL Key×V}(ok:hX P w H h)(e:Rd H a<|.dT c):c.length<=sizeLine/\(a==sysModules)=false/\
    ∃f,KT H c f/\h.DictOfH (tupleKind<|kn P w) a f:=by
 obtain⟨z,y,f,r,o,A,C,v,u,s,n,k⟩:=(show iy P w H h a (.dT c)from AV ok e);refine⟨z,y,f,r,o,A,C,v,u,s,n,λx d=>?_,k⟩;have all:∀{l:fL<|fL Key×V} {m:pZ},KT H l m->∀x∈m,(tupleKind<|kn P w).is h x.1 x.2.1:=by
  intro l m q;induction q with
  |nil=>intro x d;exact nomatch d
  |@cons p q F D i t j=>
   intro x d;rcases aH.mp d with e|d
   ·subst e;exact sC ok (by rw[<-i.1];exact i.2.1)
   ·exact j x d
 exact all r x d
def Ee{c:fL<|fL Key×V}(ok:hX P w H h)(e:H a=some (.dT c)):c.length<=sizeLine/\(a==sysModules)=false/\
    ∃d,KT H c d/\h.DictOfH (tupleKind<|kn P w) a d:=rQ ok (.inl e)
def nB(H:Hp)(a:fO)(y:V)(r:fU V):Prop:=
 (∃c k,Rd H a (.dK c)/\y=kV k/\r=jM c k)\/∃c k b,Rd H a (.dT c)/\y=.ref b/\H b=some (.tup<|k.map kV)/\r=jM c k
def qZ(H:Hp)(a:fO)(y v:V)(H':Hp):Prop:=
 (∃c k,H a=some (.dK c)/\y=kV k/\c.length<sizeLine/\H'=upd H a (.dK<|putK c k v))\/
 ∃c k b,H a=some (.dT c)/\y=.ref b/\H b=some (.tup<|k.map kV)/\c.length<sizeLine/\H'=upd H a (.dT<|putK c k v)
def nB.k{H:Hp}{a:fO}{c:fL<|Key×V}{k:Key}(e:H a=some (.dK c)):nB H a (kV k) (jM c k):=.inl ⟨c,k,.inl e,rfl,rfl⟩
def qZ.k{H:Hp}{a:fO}{c:fL<|Key×V}{k:Key}{v:V}(e:H a=some (.dK c))(d:c.length<sizeLine):qZ H a (kV k) v (upd H a<|.dK<|putK c k v):=.inl ⟨c,k,e,rfl,d,rfl⟩
variable{X:Cx}{f:gp}{j:St}{s:fS}{y v:V}{u r:fN}{o:fU V}{A:gz}{E:gE}
def Inv.big(I:Inv X f j H s):sysModules<s.heap.objs.size:=by have h:mainGlobals<s.heap.objs.size:=(I.mod.glob.keeps I.bk).lt;exact fK (by decide) h
def Dm{Q:gE}(J:A.units+1<cLine)(I:Inv X f j H s)(g:nB H a y<|some v)(D:RelV y u)(h:∀i C,Inv X f j H C->RelV v i->Q i C):
    wpAny (model X.prog X.w) A (getItem (.ref a) u) Q E s:=by
 rcases g with⟨m,k,e,t,l⟩|⟨m,k,b,e,t,N,l⟩
 ·subst t;obtain⟨z,M,G,d,x⟩:=rP I.hok e;obtain⟨i,n,c⟩:=lK.some_of (v:=v) (o:=valueAt G k) (by rw[l];exact d.val k);exact wpAny_getItem_of (sA D) x.mapOf n (h i _ (I.tok _) c)
 ·subst t;cases(show u=Value.ref b from D);obtain⟨z,M,F,d,x⟩:=rQ I.hok e;obtain⟨i,n,c⟩:=lK.some_of (v:=v) (o:=(atKey F k).map (·.2)) (by rw[l];exact d.val k);obtain⟨p,L,q⟩:=aA.mp n;refine wpAny_getItem_heap (ej J) (sC I.hok N) x L ?_;rw[q];exact h i _ (I.tok _) c
def Dp{Q:gE}(x:A.units+1<cLine)(I:Inv X f j H s)(g:nB H a y o)(t:RelV y u)(h:∀p,Inv X f j H p->Q (.bool o.isSome) p):
    wpAny (model X.prog X.w) A (compareOp .In u<|.ref a) Q E s:=by
 rcases g with⟨d,k,e,m,l⟩|⟨d,k,b,e,m,C,l⟩
 ·subst m;obtain⟨z,i,F,c,n⟩:=rP I.hok e;refine wpAny_in_of (sA t) i n.mapOf ?_;rw[<-(c.val k).vH,<-l];exact h _ (I.tok _)
 ·subst m;cases(show u=Value.ref b from t);obtain⟨z,i,D,c,n⟩:=rQ I.hok e;refine wpAny_in_heap (ej x) (sC I.hok C) i n ?_;have q:=(c.val k).vH;rw[Option.isSome_map]at q;rw[<-q,<-l];exact h _ (I.tok _)
def yq{c:gc}{d:Nat}{ob:HO}(I:Inv X f j H s)(i:pW<|H a)(k:Heap.SameBut a s.heap c)(l:∃q,c.get? a=some q)(new:iy X.prog X.w (upd H a ob) c a ob):
    Inv X f j (upd H a ob) {s with heap:=c,toks:=d}:=
 I.write (x:=a) (e:=a) i (.inl rfl) (λb q m z=>(k.2 b m).trans z) l new
def DL{P:gy}{w:gs}{H':Hp}{k:gc}{c:fL<|Key×V}{d:fL<|Key×fN}(z:c.length<=sizeLine)(l:(a==sysModules)=false)(i:KV c d)(m:k.DictOf (kn P w) a d):
    iy P w H' k a (.dK c):=⟨z,l,d,i,m⟩
def Dq{H':Hp}{Q:oy}(Y:A.units+1<cLine)(I:Inv X f j H s)(g:qZ H a y v H')(L:RelV y u)(M:RelV v r)(h:∀J,Inv X f j H' J->Q () J):
    wpAny (model X.prog X.w) A (setItem (.ref a) u r) Q E s:=by
 rcases g with⟨i,k,e,D,l,F⟩|⟨i,k,b,e,D,R,l,F⟩
 ·subst D F;obtain⟨z,C,U,d,G⟩:=DM I.hok e;have p:U.length<=sizeLine:=by rw[<-d.length];exact z
  have x:(putK i k v).length<=sizeLine:=by have:=zQ i k v;omega
  refine wpAny_setItem_pairs (hsz:=p) (sA L) G λN m t=>h _ ?_;have Z:∃q,N.get? a=some q:=let⟨q,_,_,n,_⟩:=m;⟨q,n⟩;exact yq I (by rw[e];exact True.intro) t Z (DL x C (d.put k M) m)
 ·subst D F;cases(show u=Value.ref b from L);obtain⟨z,C,T,d,G⟩:=Ee I.hok e;have p:T.length<=sizeLine:=by rw[<-Paired.length d];exact z
  have x:(putK i k v).length<=sizeLine:=by have:=zQ i k v;omega
  refine wpAny_setItem_heap (hsz:=p) (ej Y) (sC I.hok R) G λN m t=>h _ ?_;obtain⟨q,es,ep,n,h2,h3,h4,_,h5⟩:=m;refine yq I (by rw[e];exact True.intro) t ⟨q,n⟩ ⟨x,C,_,(d.put k R M).keeps λc ys O=>?_,q,es,ep,n,h2,h3,h4,h5⟩;rw[gj<|HK O e<|λz=>nomatch z];exact O
def ug(i:f6):Prop:=∀c d,subscripted i false c d=operate [c,d] (getItem c d)
def N2{c:gy}{w:gs}{A:gz}{E:gE}{s:fS}{q:Env}{k d:f6}{pos:Pos}{T C:String}{Q:gE}
    (F:typeLookup (.type T) "__getitem__"=pure (some<|.builtin C))(D:ug d)
    (h:wpAny (model c w) A (eval k q) (λo p=>wpAny (model c w) A (eval d q) (λi l=>l.TypeIs o T/\wpAny (model c w) A (getItem o i) Q E l) E p) E s):
    wpAny (model c w) A (eval (.Subscript k d pos) q) Q E s:=by
 refine Subscript_ (aU h (λo p z=>aU z (λi l m=>?_) λ_ _ x=>x) λ_ _ x=>x);obtain⟨hT,m⟩:=m;unfold subscriptTail;refine aa ?_;rw[getitemInPython_of_ne hT.not_modules];refine aa (wpAny_specialOf hT F ?_);have fin:wpAny (model c w) A (subscripted d false o i) (λr n=>wpAny (model c w) A (letTemporaryGo k o r>>=λ_=>pure r) Q E n) E l:=by rw[D o i];exact wpAny_operating (aU m (λr n t=>aa<|wpAny_letTemporaryGo<|aG t) λ_ _ x=>x)
 first
  |exact aG (aa fin)
  |exact aa (aG<|aa fin)
  |exact aa fin
def DJ{X:Cx}{f:gp}{j:St}{H:Hp}{s:fS}{a:fO}{y:V}{o:fU V}(I:Inv X f j H s)(g:nB H a y o):s.TypeIs (.ref a) "dict":=by
 rcases g with⟨c,k,e,_,_⟩|⟨c,k,b,e,_,_,_⟩
 ·obtain⟨_,_,l,_,d⟩:=rP I.hok e;exact d.typeIs
 ·obtain⟨_,_,i,_,d⟩:=rQ I.hok e;exact d.typeIs
def Oe(d ty:TE):TE:=λj H Q=>d j H λx i=>ty j i λy c=>∃a v,x=.ref a/\nB c a y (some v)/\Q v c
def Of(ty d:TE):TE:=λj H Q=>ty j H λy i=>d j i λx c=>∃a o,x=.ref a/\nB c a y o/\Q (.bl o.isSome) c
def Nq(i ty d:TE):TS:=λD j H=>d j H λv m=>i j m λx l=>ty j l λy k=>∃a c,x=.ref a/\qZ k a y v c/\D.nx j c
variable{o i e B:f6}{C J L:Pos}{F ty K:TE}
def Jm(t:X.A.units+1<cLine)(D:PE X o F)(G:PE X i ty)(z:ug i):PE X (.Subscript o i C) (Oe F ty):=by intro f s j H Q I h;refine N2 PySem.F.slot_dict_getitem.lookup z (gi (D f s j H _ I h) λu l c=>?_);obtain⟨x,R,N,n,q⟩:=c;refine gi (G f l j R _ N q) λZ Y c=>?_;obtain⟨y,O,k,m,a,v,ex,g,p⟩:=c;subst ex;obtain rfl:u=Value.ref a:=n;exact⟨DJ k g,Dm t k g m λT U M d=>⟨v,O,M,d,p⟩⟩
def Jc(q:X.A.units+1<cLine)(z:PE X i ty)(t:PE X o F):PC X .In i o (Of ty F):=by intro f s j H Q I h;refine gi (z f s j H _ I h) λU d c=>?_;obtain⟨y,O,M,k,n⟩:=c;refine gi (t f d j O _ M n) λu T c=>?_;obtain⟨x,N,G,l,a,p,ex,g,m⟩:=c;subst ex;obtain rfl:u=Value.ref a:=l;exact Dp q G g k λR D=>⟨.bl p.isSome,N,D,rfl,m⟩
def JR(z:X.A.units+1<cLine)(M:PE X o F)(N:PE X i ty)(hv:PE X B K)(G:swapsWith B (some<|.Subscript o i J) C.line X.env=pure false):
    PS X (.Assign [.Subscript o i J] B C) (Nq F ty K):=by
 intro f s j H D I h;refine wpAny_Assign_Subscript (gi (hv f s j H _ I h) λr k c=>?_) G;obtain⟨v,Z,T,n,t⟩:=c;refine gi (M f k j Z _ T t) λu d c=>?_;obtain⟨x,Y,R,m,q⟩:=c;refine gi (N f d j Y _ R q) λiv s3 c=>?_;obtain⟨y,H3,Q,l,a,U,ex,g,p⟩:=c;subst ex;obtain rfl:u=Value.ref a:=m;exact Dq z Q g l n λs4 O=>⟨j,U,O,p⟩
def DK{P:gy}{w:gs}{H:Hp}(h:gc)(c:sysModules<h.objs.size):iy P w H (h.push {cls:=.type "dict",data:=.dict #[]}) h.objs.size (.dK []):=
 ⟨bo _,beq_eq_false_iff_ne.mpr<|b7<|aZ c,[],.nil,Heap.DictOf.new h⟩
def Og:TE:=λ_ H Q=>∀p,H p=none->Q (.ref p) (upd H p<|.dK [])
def Jn:PE X (.Dict [] [] C) Og:=λf s j H Q I h=>wpAny_Dict_empty ⟨.ref s.heap.objs.size,_,I.laid (a:=s.heap.objs.size) (o:=.dK []) (t':=s.toks) (λ_ _ q=>ag _ q) (af _)<|DK s.heap I.big,rfl,h _<|I.hok.fresh<|af _⟩
end L2
namespace P2
open PySem L2
section
variable{i:Type}[DecidableEq i]{K:fZ}{al:gL}{lo:Lo}{H:Hp}
def valZ(a:fL<|i×Z)(k:i):fU Z:=(a.find? λc=>decide<|c.1=k).map (·.2)
noncomputable def jK(a:fL<|i×Z)(k:i)(v:Z):fL (i×Z):=
 if(a.any λc=>decide<|c.1=k)=true then a.map λc=>if c.1=k then(c.1,v)else c else a++[(k,v)]
def iT.val(r:iT K al lo H us zs){k:i}(h:valZ zs k=some z):∃v,jM us k=some v/\iJ K al lo H v z:=by
 induction r with
 |nil=>cases h
 |@cons c v f j zs a _ d=>
  unfold valZ at h;unfold jM;rw[bY]at h⊢;by_cases e:c=k;·simp_all
  ·simp only[e,c7]at h⊢;exact d h
def iT.none(r:iT K al lo H us zs){k:i}(h:valZ zs k=Option.none):jM us k=Option.none:=by
 induction r with
 |nil=>rfl
 |@cons c v f j zs a _ d=>
  unfold valZ at h;unfold jM;rw[bY]at h⊢;by_cases e:c=k;·simp_all
  ·simp only[e,c7]at h⊢;exact d h
def iT.length(r:iT K al lo H us zs):us.length=zs.length:=by
 induction r with
 |nil=>rfl
 |cons _ _ a=>simp_all
def iT.any(r:iT K al lo H us zs)(k:i):(us.any λa=>decide<|a.1=k)=zs.any λa=>decide (a.1=k):=by
 induction r with
 |nil=>rfl
 |cons _ _ c=>simp_all
def iT.put(r:iT K al lo H us zs)(k:i){v:V}(q:iJ K al lo H v z):iT K al lo H (putK us k v) (jK zs k z):=by
 unfold putK jK;rw[r.any k];split
 ·rename_i d;clear d;induction r with
  |nil=>exact .nil
  |@cons f l h j zs a _ c=>
   rw[ay,ay];by_cases e:f=k
   ·simp only[e,cz];exact .cons q c
   ·simp only[e,bU];exact .cons a c
 ·rename_i d;clear d;induction r with
  |nil=>exact .cons q .nil
  |cons a _ c=>exact .cons a c
end
def lX:D->fU Key
 |.int i=>some (.inl i)
 |.str x=>some (.inr x)
 |_=>none
def vL{d k}(r:Rep K al H v d)(h:lX d=some k):v=kV k:=by
 cases r with
 |int i=>cases h;rfl
 |str i=>cases h;rfl
 |_=>cases h
def tO(fo:gU)(f:gf):gU:=λρ S=>(fo ρ S).bind λz h=>(jf (f<|ig ρ) h).bind λd c=>match z,lX d with
 |.loc n,some k=>(match c[n]? with
  |some (.dk a)=>(match valZ a k with
   |some z=>.ok z c
   |none=>.bad)
  |_=>.bad)
 |_,_=>.bad
def qS(fo:gU)(h:gf)(f:gU):gS:=λρ S=>toZ (f ρ S) λv j=>toZ (fo ρ j) λz i=>toZ (jf (h<|ig ρ) i) λd c=>match z,lX d with
 |.loc n,some k=>(match c[n]? with
  |some (.dk a)=>if a.length<sizeLine then .nx ρ (c.set n<|.dk<|jK a k v)else .bad
  |_=>.bad)
 |_,_=>.bad
section
variable{X:Cx}{E:XK}{b:Nat}{o k e:f6}{fo f:gU}{j:gf}{i:Pos}
def Ab:NT (.dK l):=λ_ h=>nomatch h
def P1(hu:X.A.units+64<cLine)(G:ZE X E o fo)(J:DE X E k j)(F:ug k:=by exact λ_ _=>rfl):ZE X E (.Subscript o k i) (tO fo j):=by
 obtain⟨Z,C,z⟩:=G;obtain⟨tk,pk,rk⟩:=J;refine⟨_,Jm (by lia) C pk F,λs h=>z s<|gg.mono (gg.split h) λ{_ p l _ _} d V U L v x=>rk d.rs<|Aft.mono (gg.toAft d<|gg.split L) λ{_ R} t c u y=>?_⟩;have r:=d.grow t;split at c
 ·rename_i n k0 m;split at c
  ·rename_i D q;split at c
   ·rename_i T A;obtain⟨a,I,rfl⟩:=x;have O:=vL y m;subst O;obtain⟨Y,N,M⟩:=r.cell I q;obtain⟨w,Q,P⟩:=M.val A;refine⟨a,w,rfl,?_,c p l R r .refl .refl w P⟩;rw[<-Q];exact .k N
   ·exact c.elim
  ·exact c.elim
 ·exact c.elim
def Qi{d:Pos}(hu:X.A.units+64<cLine)(ho:ZE X E o fo)(hk:DE X E k j)(hv:ZE X E e f)(hs:autoParam (swapsWith e (some<|.Subscript o k d) i.line X.env=pure false) aZ0):
    ZS X E b (.Assign [.Subscript o k d] e i) (qS fo j f):=by
 obtain⟨to,po,Y⟩:=ho;obtain⟨tk,pk,rk⟩:=hk;obtain⟨tv,pv,U⟩:=hv;refine⟨_,JR (by lia) po pk pv hs,λG s h=>U s<|gg.mono (hC.kJ h) λ{y _ _ _ _} T x0 y0 h0 r r0=>Y T<|gg.mono (hC.kJ h0) λ{z m A _ _} v Q N h1 v1 Z=>rk v.rs<|Aft.mono (gg.toAft v<|hC.kJ h1) λ{_ I} L l u V=>?_⟩;have t:=v.grow L;split at l
 ·rename_i n p F;split at l
  ·rename_i C q;split at l
   ·rename_i hl;obtain⟨a,D,rfl⟩:=Z;have ek:=vL V F;subst ek;obtain⟨J,g1,M⟩:=t.cell D q;have x:iJ X.K m A I r y:=(r0.mv Q N).mv (.of L) .refl;have P:Xt m I m (upd I a (.dK (putK J p r))):=λb o _ G eb=>⟨G,by rw[gj λz=>t.st.na n a D (by rw[<-z];exact G)];exact eb⟩;obtain⟨R,O⟩:=t.write D (o:=.dK (putK J p r)) (c:=.dk (jK C p y)) Ab (λq w=>by unfold iX at w;cases w) ⟨_,hD,iT.mv P .refl (M.put p x)⟩ nofun;exact⟨a,_,rfl,.k g1 (by rw[M.length];exact hl),l _ _ _ _ O R⟩
   ·exact l.elim
  ·exact l.elim
 ·exact l.elim
end
structure xy(K:fZ)(x qual:fR)(st:Stmt)(dV:fN)(f:fO)(fd:jm):Prop where
 ex:∃(oc:fN) (od:iV) (kV doc pm:fN) (an:iV) (cdv ct:fN) (osl:nE),
  fd=W.fnOf x qual (lR st) (jD st) (gG st) dV kV doc pm an cdv ct/\K.lookup f=some ⟨oc,od,.func fd,osl⟩/\W.codeIn K cdv qual=true
 kp:W.keepIn K (.ref f)=true
section
variable{P:gy}{w:gs}{K:fZ}{l:g5}{j:gc}
def EF{x}{st}{dV}{f}{o}{k}{g:Nat->gS}(F:xy K x qual st dV f fd)(S:lF N o<|gG st)
 (i:∀(b:Nat) (d:fN) (A:gz) (a:iK) (s:fS) (H:Hp) (E:XK),g8 k (gW (gJ P w) P w K l j N qual (gG st) f d A a s H E).A->kE (gW (gJ P w) P w K l j N qual (gG st) f d A a s H E) E b (jD st) (g b)):
   kb P w K l j (k+1) f fd o (j9 o.length K λn S=>hY<|g S.length (je N.length n) S):=by
  obtain⟨Y,V,kV,T,U,an,d,ct,M,rfl,O,v⟩:=F.ex;refine ve O v S (λG H Q E h=>h.1) λA a s H G Q E R h=>?_;obtain⟨hl,I,al,lo,n,m,fr,st,L,h⟩:=h;obtain⟨t,p,r⟩:=i m.length d A a s H E R;dsimp only at h;refine⟨t,p,r (B:=⟨H,al,lo,m.length⟩) rfl (wR I fr st L) ?_⟩;cases q:g m.length (je N.length n) m with
  |nx ρ C=>rw[q]at h;exact λy u H' D _ J=>h y u H' .non J.toEZ .non
  |rt z C=>rw[q]at h;exact h
  |ex c Z es C=>rw[q]at h;exact h
  |_=>rw[q]at h;exact h.elim
def n8(n:Nat):fU Z->f5
 |some z=>jI n z
 |none=>false
noncomputable def pP(f:gU):gU:=λρ S=>match f ρ S with
 |.ok z a=>(match z with
  |.loc n=>(match a[n]? with
   |some (.li h)=>(match kg h with
    |some d=>if S.length<=n/\a.any (lQ n)=false/\ρ.any (n8 n)=false then .ok (.d<|.lst d) (a.set n .no)else .bad
    |none=>.bad)
   |_=>.bad)
  |_=>.bad)
 |.ex c ns d a=>.ex c ns d a
 |.bad=>.bad
variable{X:Cx}{E:XK}{e:f6}{f:gU}
def OG{n d o}(h:n8 n o=false):k6 n d o=o:=by
 cases o with
 |none=>rfl
 |some z=>
  cases z with
  |loc m=>
   have a:decide (m=n)=false:=h;have:m≠n:=by simpa using a
   show(if m=n then some (Z.d d)else some (Z.loc m))=_;rw[ah this]
  |_=>rfl
def EM{t:TE}(r:∀{B al lo H σ ρ S} {Q:VK},RZ X.K B al lo H σ ρ S->gg X.K B E al lo H σ ρ (f ρ S) (λz A o H' _=>∀v,iJ X.K A o H' v z->Q v H')->t σ H Q){lo}{Q:VK}(s:RZ X.K B al lo H σ ρ S)(h:gg X.K B E al lo H σ ρ (pP f ρ S) (λz A o H' _=>∀v,iJ X.K A o H' v z->Q v H')):t σ H Q:=by
 refine r s ?_;unfold pP at h;cases q:f ρ S with
 |bad=>rw[q]at h;exact h.elim
 |ex c ns y J=>rw[q]at h;exact h
 |ok z J=>
  rw[q]at h;intro R N T k x1 y1 v rv;dsimp only at h;split at h
  ·rename_i n;split at h
   ·rename_i zs q0;split at h
    ·rename_i y qd;split at h
     ·rename_i w;obtain⟨w1,w2,w3⟩:=w;obtain⟨a,hn,rfl⟩:=rv;have M:RZ X.K B R N T (σ++[some (.ref a)]) (ρ++[f3 n]) J:=⟨k.toEZ,by rw[aj,aj,k.len];rfl,λi z d=>by
       by_cases C:i<ρ.length
       · rw[aB C]at d;obtain⟨u,p,G⟩:=k.vr i z d;exact⟨u,by rw[aB (by rw[<-k.len];exact C)];exact p,G⟩
       · rw[av<|by simp_all]at d;have V:i - ρ.length=0:=by
          have:=(au.mp d).1;simp at this;omega
         rw[V]at d;cases d;refine⟨.ref a,?_,a,hn,rfl⟩;rw[av (by rw[<-k.len];simp_all),<-k.len,V];rfl⟩
      have x:(ρ++[some<|Z.loc n])[ρ.length]?=some (f3 n):=by simp
      have fz:oU B.n ρ.length (ρ++[f3 n]) J=some ((ρ++[some<|Z.loc n]).map (k6 n<|.lst y),J.set n .no):=by unfold oU;rw[x];dsimp only;rw[q0];dsimp only;rw[qd];dsimp only;rw[ae ⟨aC s.sz w1,w2⟩]
      obtain⟨I,D,L,x2,Y⟩:=M.freeze fz;have O:∀i z,ρ[i]?=some (some z)->((ρ++[some<|Z.loc n]).map (k6 n<|.lst y))[i]?=some (some z):=λi z d=>by have C:=(au.mp d).1;rw[aF,aB C,d];have:=cY.mp w3 (some z) (cx d);show some (k6 n (.lst y)<|some z)=_;rw[OG<|by simpa using this]
      have s3:RZ X.K B I D T σ ρ (J.set n .no):=⟨L.toEZ,k.len,λi z d=>by obtain⟨u,p,G⟩:=L.vr i z (O i z d);have C:=(au.mp d).1;rw[aB (by rw[<-k.len];exact C)]at p;exact⟨u,p,G⟩⟩
      have F:((ρ++[some<|Z.loc n]).map (k6 n<|.lst y))[ρ.length]?=some (f9 y):=by rw[aF,x];show some (if n=n then some (Z.d<|.lst y)else some (Z.loc n))=_;rw[ae rfl]
      obtain⟨u,p,G⟩:=L.vr _ _ F;rw[k.len,av<|af _,cy]at p;cases p;refine h I D T s3 (x1.trans x2) (λm b U=>?_) _ G;obtain⟨c,g1,_⟩:=s.st.at' m b U;have QM:=(au.mp g1).1;exact Y n x m b (by lia) (y1 m b U)
     ·exact h.elim
    ·exact h.elim
   ·exact h.elim
  ·exact h.elim
def P5(a:ZE X E e f):ZE X E e (pP f):=let⟨t,p,r⟩:=a;⟨t,p,EM r⟩
end
open PySem.Spec PySem.Calls PySem.W
open PyProof.Rows hiding St K
def tM(f:gU):gS:=λρ S=>toZ (f ρ S) λz a=>match z with
 |.loc n=>(match a[n]? with
  |some (.li _)=>.nx ρ (a.set n<|.li [])
  |_=>.bad)
 |_=>.bad
variable{X:Cx}{E:XK}{b:Nat}{o k e a c:f6}{rest:iL}{fo J f O M:gU}{C L:Pos}
def Qh{i d:Pos}(N:ZE X E o fo)
    (l:attributeBase o "clear" X.env (eval o X.env)=eval o X.env)(j:(i.endLine==d.line)=true)
    (v:swapsWith (.Call (.Attribute o "clear" i) [] [] d) none C.line X.env=pure false):
    ZS X E b (.Expr (.Call (.Attribute o "clear" i) [] [] d) C) (tM fo):=by
 obtain⟨t,p,r⟩:=N;refine⟨_,td (Jg cF PySem.F.slot_list_clear PySem.F.type_list_clear HG p l j) v,λT s h=>r s<|gg.mono (hC.kJ h) λy R Q m u G=>?_⟩;split at m
 ·rename_i n;split at m
  ·rename_i P I;obtain⟨a,z,rfl⟩:=G;obtain⟨x,A,U⟩:=y.cell z I;obtain⟨F,D⟩:=y.write z (o:=.lst []) (c:=.li []) kq (λq w=>by unfold iX at w;cases w) ⟨_,hD,.nil⟩ nofun;exact⟨.inl ⟨rfl,x,.inl<|.inl A⟩,a,x,rfl,rfl,A,m _ _ _ _ D F⟩
  ·exact m.elim
 ·exact m.elim
variable{f:gf}
def HH:uf X "list.extend" (λx y H Q=>∃l b m j,x=.ref l/\y=[.ref b]/\H l=some (.lst m)/\iF X.K H b j/\m.length+j.length<=sizeLine/\Q .non (upd H l<|.lst<|m++j)):=by
 intro D s σ H x y v us Q I G N h;obtain⟨l,b,m,j,rfl,rfl,F,Z,hz,q⟩:=h;cases G;obtain⟨u,rfl,P⟩:=N.one;cases P;obtain⟨z,p,n,r,hl,e⟩:=I.vZ F;obtain⟨d,A,R,U⟩:=I.list Z;have Y:=A.length;obtain⟨ob,i,w,nb,t⟩:=R.isList;refine eS eJ ⟨_,e,rfl⟩ PySem.F.entry_list_extend ?_ (PySem.F.args_list_extend_2 _ _);show wpAny _ _ (Builtin.List.listExtendWith (.ref l) (.ref b) .none) _ _ s;unfold Builtin.List.listExtendWith;refine aa (wpAny_typeOf (T:="list") ⟨ob,i,w⟩ ?_);have V:(Value.type "list"==Value.type "list")=true:=by rfl
 rw[ae<|by rw[V];simp];refine aa (d6 i t ?_);refine aa (d6 e rfl ?_);rw[ah<|by rw[HV<|by rw[az,az];simp_all,Bool.and_false];exact aN];refine aa (cR e rfl ?_ (by rw[az];simp_all) (by simp only[Array.size_append,az];lia));refine aG ⟨_,rfl,?_⟩;refine⟨.non,_,I.vY (its':=p++d) F e (by simp) (r.append A) ?_,rfl,q⟩;rw[aj];omega
end P2
set_option maxHeartbeats 1000000
namespace P2
open PySem L2
variable{X:Cx}{E:XK}{b:Nat}{o k e a c:f6}{rest:iL}{fo l f q m:gU}{i j:Pos}
def BN:gU:=λ_ S=>.ok (.loc S.length) (S++[.dk []])
def P4:ZE X E (.Dict [] [] i) BN:=by
 refine⟨_,Jn,λ{_ al lo H _ _ S _} s h=>λp d=>?_⟩;have t:ju X.K (λb=>al b/\b≠p) (jF lo S.length p) (upd H p<|.dK []) p (.dk []):=⟨[],hD,.nil⟩;have n:=s.new d Ab t nofun;have r:jF lo S.length p S.length=some p:=by unfold jF;rw[ae rfl]
 exact h _ _ _ n (og d) (mq s.st p) _ ⟨p,r,rfl⟩
end P2
namespace P2
open PySem
namespace Cn
def G:Nat->Nat
 |0=>0
 |n+1=>5*G n+1
open SetTable
end Cn
open L2
def oK(x y:D):R D:=match uN x y with
 |.ok ds=>.ok (.lst ds)
 |_=>.bad
def Ik:i7 X E (binaryOp .Add) oK:=by
 refine⟨_,Av,λfr n k h=>?_⟩;unfold oK uN at h;split at h
 ·rename_i r a;split at a
  ·split at a
   ·rename_i z;cases a;obtain⟨l,j,rfl,q,f⟩:=n.sG;obtain⟨m,i,rfl,o,d⟩:=k.sG;exact⟨l,m,j,i,rfl,rfl,q,o,by rw[f.length,d.length];exact z,λp c=>h _ (jG c) _ ((f.append d).mR c (fr p c))⟩
   ·cases a
  ·cases a
 ·exact h.elim
end P2
namespace WM
open PySem L2 P2 WP
def vu(a:Ad)(b:Nat):gS:=(gh (iw (ku (b1 tB (d2 iN (gP 0 1) (fQ 0)))) (gh (gH 2 (zR (d2 gA (gP 0 0) (dV 1))))
    (gh (pO 0 (fQ 0) (zR (d2 hJ (gP 0 0) (dV 1))))
    (jY (zD (dV 2))))) jk)
    (gh (pO 0 (fQ 0) (zR (d2 gA (d2 gM (d2 hK (d2 gA (gP 0 0) (fQ 2147483647)) (fQ 48271)) (fQ 1013)) (fQ 2147483629))))
    (jY (zR (d2 gA (d2 hJ (d2 gA (d2 hK (gP 0 0) (fQ 69621)) (fQ 2147483587)) (fQ 11)) (dV 1))))))
def vy(a:Ad)(d:gk)(c:ix)(b:Nat):gS:=(gh (gH 1 (zZ c (gm (zV 0) (gm (zD (fQ 8)) hZ))))
    (gh (iw (zB (b1 tB (d2 iN (dV 1) (fQ 7)))) (jY (zF i0 (gm (z2 hK (zZ c (gm (zV 0) (gm (zD (d2 sZ (fQ 10) (fQ 60))) hZ))) (z2 jW (zD (fQ 1)) (z2 hK (zD (fQ 2)) (zZ c (gm (zV 0) (gm (zD (fQ 2)) hZ)))))) (gm (zD (fQ 1)) hZ)))) jk)
    (gh (iw (zB (b1 tB (d2 iN (dV 1) (fQ 6)))) (jY (zF d (gm (z2 jW (zZ c (gm (zV 0) (gm (zD (fQ 9)) hZ))) (zD (fQ 3))) (gm (zD (fQ 2)) hZ)))) jk)
    (jY (zF i0 (gm (zZ c (gm (zV 0) (gm (zD (fQ 4)) hZ))) (gm (zD (fQ 1)) hZ)))))))
def nG(a:Ad)(d:gk)(f c:ix):gS:=(gh (oh 4 (zF i0 (gm (zD (d2 gD (dV 3) (d2 gA (dV 6) (fQ 3)))) (gm (zD (dV 5)) (gm (zZ c (gm (zV 7) hZ)) hZ)))))
    (gH 5 (zD (d2 gM (dV 5) (fQ 1)))))
def qi(a:Ad)(d:gk)(f c:ix):gS:=(oh 4<|zF i0<|gm (zD<|dV 11)<|gm (zD<|dV 5)<|gm (zZ c<|gm (zV 7) hZ) hZ)
def mK(a:Ad)(d:gk)(c f:ix):gS:=(gh (iw (ku (b1 tB (d2 lU (dA jr (fM (dV 4) fW)) (dV 2)))) iY.bk jk)
    (gh (gH 7 (oi (λρ=>((fM (dV 6) (fM (d2 gA (d2 hJ (dA d (fM (dV 0) (fM (fQ 0) fW))) (fQ 7)) (fQ 2)) fW)) ρ).bind ie)))
    (gh (gH 5 (z2 gM (zD (d2 gM (dV 5) (fQ 1))) (zZ c (gm (zV 7) (gm (zD (fQ 4)) hZ)))))
    (gh (iw (pQ tB (z2 iN (zZ c (gm (zV 7) (gm (zD (fQ 9)) hZ))) (zD (fQ 1)))) (gH 5 (z2 gM (zD (dV 5)) (zZ c (gm (zV 7) (gm (zD (fQ 3000)) hZ))))) jk)
    (gh (gH 8 (zZ c (gm (zV 7) (gm (zD (fQ 12)) hZ))))
    (gh (iw (ku (mL (b1 tB (d2 iN (dV 8) (fQ 11))) (b1 tB (d2 kX (dA jr (fM (dV 4) fW)) (fQ 50))))) (lD (λρ=>((fM (fQ 9) fW) ρ).bind mx) (hV 9) (nG a d c f)) jk)
    (gh (gH 10 (zD (d2 gD (gZ (λρ=>((fM (gZ (λρ=>((fM (fQ 0) fW) ρ).bind ie)) (fM (gZ (λρ=>((fM (fQ 0) fW) ρ).bind ie)) (fM (gZ (λρ=>((fM (fQ 0) fW) ρ).bind ie)) (fM (gZ (λρ=>((fM (fQ 1) fW) ρ).bind ie)) (fM (gZ (λρ=>((fM (fQ 0) (fM (fQ 1) fW)) ρ).bind ie)) (fM (gZ (λρ=>((fM (fQ 0) (fM (fQ 1) (fM (fQ 2) fW))) ρ).bind ie)) (fM (gZ (λρ=>((fM (fQ 2) fW) ρ).bind ie)) (fM (gZ (λρ=>((fM (fQ 0) (fM (fQ 2) fW)) ρ).bind ie)) (fM (gZ (λρ=>((fM (fQ 1) (fM (fQ 2) fW)) ρ).bind ie)) (fM (gZ (λρ=>((fM (fQ 1) fW) ρ).bind ie)) (fM (gZ (λρ=>((fM (fQ 0) fW) ρ).bind ie)) (fM (gZ (λρ=>((fM (fQ 0) (fM (fQ 1) fW)) ρ).bind ie)) fW)))))))))))) ρ).bind ie)) (dV 8))))
    (lD (λρ=>((gZ (λρ=>((gZ (iZ (λρ=>((dV 10) ρ).bind jo) 1 [3] (gV 0) (λ_=>.ok true) (d2 gD (dV 1) (dV 0)))) ρ).bind qN)) ρ).bind jo) (hV 11) (qi a d c f)))))))))
def vx(a:Ad)(c:gk)(f d:ix)(b:Nat):gS:=(gh (gH 4 (oi (λρ=>(fW ρ).bind ie)))
    (gh (gH 5 (zD (d2 gA (dA c (fM (dV 0) (fM (fQ 1) fW))) (d2 jW (d2 sZ (fQ 10) (fQ 9)) (d2 sZ (fQ 10) (fQ 6))))))
    (gh (lD (λρ=>((oO nc (dV 0) (λρ=>((dV 1) ρ).bind pI) (λρ=>((d2 gM (dV 1) (fQ 60)) ρ).bind pI)) ρ).bind jo) (hV 6) (mK a c f d))
    (pN b 4 (jY (zD (dV 4)))))))
end WM
namespace TS
open PySem PyProof.Rows
variable{M:Model}{A:gz}{E:gE}{s:fS}{F:SortKind}{S:Keyed->Prop}{r:Keyed->Nat}
def ny(M:Model)(A:gz)(E:gE)(s:fS)(F:SortKind)(S:Keyed->Prop)(r:Keyed->Nat):Prop:=
 ∀x y st (Q:fU f5->SortSt->Prop),S x->S y->kindOf st=F->Q (some<|decide<|r x<r y) st->wpS M A E s ((sortPriv%PySem.Builtin.lt) x y) Q st
def jb{arr:fY Keyed}{i:Nat}{p:Keyed}{st:SortSt}{Q:Keyed->SortSt->Prop}(h:arr[i]?=some p)(q:Q p st):wpS M A E s ((sortPriv%PySem.Builtin.elem) arr i) Q st:=by show wpS M A E s (elem' arr i) Q st;rw[elem'_eq,h];exact aw q
def rk(r:Keyed->Nat)(a:fY Keyed)(i:Nat):Nat:=(a[i]?.map r).getD 0
def Seg(r:Keyed->Nat)(a:fY Keyed)(lo c:Nat):Prop:=∀i j,lo<=i->i<=j->j<c->rk r a i<=rk r a j
def Al(S:Keyed->Prop)(a:fY Keyed):Prop:=∀(i:Nat) p,a[i]?=some p->S p
def at_of{xs:fY Keyed}{i:Nat}(h:i<xs.size):∃p,xs[i]?=some p/\rk r xs i=r p:=⟨xs[i],c8 xs i h,by unfold rk;rw[c8 xs i h];rfl⟩
section
variable(C:ny M A E s F S r)
include C
theorem O9{left:f5}{key:Keyed}{arr:fY Keyed}{k:Nat}{st:SortSt}{Q:fU f5->SortSt->Prop}(al:Al S arr)(d:S key)(i:k<arr.size)(f:kindOf st=F)
 (h:Q (some<|if left then decide (rk r arr k<r key)else decide (rk r arr k<=r key)) st):
 wpS M A E s (do
  let x<-(sortPriv%PySem.Builtin.elem) arr k
  if left=true then(sortPriv%PySem.Builtin.lt) x key else do
   let c<-(sortPriv%PySem.Builtin.lt) key x
   pure (Option.map (λx=>!x) c)) Q st:=by
 obtain⟨p,a,j⟩:=at_of (r:=r) i;refine ak (jb a ?_);rw[j]at h;cases left with
 |true=>exact C _ _ _ _ (al _ _ a) d f h
 |false=>
  refine ak (C _ _ _ _ d (al _ _ a) f<|aw ?_);have:(!decide (r key<r p))=decide (r p<=r key):=by rw[<-decide_not];exact decide_eq_decide.mpr fI
  show Q (some<|!decide (r key<r p)) st;rw[this];exact h
abbrev _root_.ur:=fU (fU Nat)×Nat×Nat
theorem pM{st:SortSt}{left:f5}{key:Keyed}{arr:fY Keyed}{base n a:Nat}{Q:fU Nat->SortSt->Prop}(al:Al S arr)(T:S key)(J:kindOf st=F)(hb:base+n<=arr.size)(R:a<n)
 (U:Seg r arr base<|base+n)(f:Nat->f5)(hf:∀i,f i=if left then decide (rk r arr (base+i)<r key)else decide (rk r arr (base+i)<=r key))
 (h:∀k,k<=n->(∀i,i<k->f i=true)->(∀i,k<=i->i<n->f i=false)->Q (some k) st):
 wpS M A E s ((sortPriv%PySem.Builtin.gallop) left key arr base n a) Q st:=by
 have mono:∀i j,i<=j->j<n->f j=true->f i=true:=λi j Y O e=>by have:=U (base+i) (base+j) (by omega) (by omega) (by omega);rw[hf]at e⊢;cases left<;>simp at e⊢<;>omega
 have P:∀i (st:SortSt) (Q:fU f5->SortSt->Prop),i<n->kindOf st=F->Q (some<|f i) st->_:=λi st Q m J q=>O9 C (left:=left) (key:=key) (arr:=arr) (k:=base+i) (st:=st) (Q:=Q) al T (by omega) J (by rw[<-hf];exact q)
 have G:∀lo m (d:SortSt),d=st->lo<=m->m<=n->(∀i,i<lo->f i=true)->(∀i,m<=i->i<n->f i=false)->wpS M A E s (forIn [:n] ((none,lo,m):fU (fU Nat)×Nat×Nat) λx c=>if c.2.1≥c.2.2 then pure (ForInStep.done (none,c.2.1,c.2.2))else do
  let y<-(do
   let x<-(sortPriv%PySem.Builtin.elem) arr (base+(c.2.1+(c.2.2 - c.2.1)/2))
   if left=true then(sortPriv%PySem.Builtin.lt) x key else do
    let c<-(sortPriv%PySem.Builtin.lt) key x
    pure (Option.map (λx=>!x) c))
  match y with
  |some more=>if more=true then pure (ForInStep.yield (none,c.2.1+(c.2.2 - c.2.1)/2+1,c.2.2))else pure (ForInStep.yield (none,c.2.1,c.2.1+(c.2.2 - c.2.1)/2))
  |x=>pure (ForInStep.done (some none,c.2.1,c.2.2)))
  (λc d=>c.1=none/\Q (some c.2.2) d) d:=λlo m d e h1 h2 h3 h4=>by
  subst e;refine bw (I:=λx c D=>D=d/\c.1=none/\c.2.1<=c.2.2/\c.2.2<=n/\c.2.2 - c.2.1<=n - x/\(∀i,i<c.2.1->f i=true)/\∀i,c.2.2<=i->i<n->f i=false) ?_ ?_ ⟨rfl,rfl,h1,h2,by show m - lo<=n - 0;omega,h3,h4⟩
  ·rintro i ⟨o,lo,m⟩ D _ Z ⟨rfl,rfl,w,t,v,p,L⟩
   dsimp only at w t v p L⊢;by_cases z:lo≥m
   ·rw[ae z];exact aw ⟨rfl,h _ t (λi (m:i<_)=>p i<|ao m z) L⟩
   ·rw[ah z];refine ak (P _ _ _ (by omega) J ?_);cases q:f (lo+(m - lo)/2)with
    |true=>exact aw ⟨rfl,rfl,by show lo+(m - lo)/2+1<=m;omega,t,by show m - (lo+(m - lo)/2+1)<=n - (i+1);omega,λj O=>mono j _ (Nat.le_of_lt_succ O) (by omega) q,L⟩
    |false=>exact aw ⟨rfl,rfl,by show lo<=lo+(m - lo)/2;omega,by show lo+(m - lo)/2<=n;omega,by show lo+(m - lo)/2 - lo<=n - (i+1);omega,p,λj O N=>by
      cases y:f j with
      |false=>rfl
      |true=>rw[mono _ j O N y]at q;cases q⟩
  ·rintro ⟨o,lo,m⟩ D ⟨rfl,rfl,w,t,v,p,L⟩
   dsimp only at w t v p L⊢;have z:m<=lo:=by omega
   exact⟨rfl,h _ t (λi (m:i<_)=>p i<|ao m z) L⟩
 refine ak (P a _ _ R J ?_);cases q:f a with
 |true=>
  refine ak (ck (bw (I:=λ(x:Nat) (c:ur) d=>d=st/\c.1=none/\c.2.1<c.2.2/\a+c.2.1<n/\f (a+c.2.1)=true/\x<c.2.2)
   (Q:=λc d=>d=st/\c.1=none/\c.2.1<c.2.2/\a+c.2.1<n/\f (a+c.2.1)=true/\(n - a<=c.2.2\/f (a+c.2.2)=false)) ?_ ?_ ⟨rfl,rfl,Nat.one_pos,R,q,Nat.one_pos⟩) ?_)
  ·rintro i ⟨o,l,u⟩ d _ m ⟨rfl,rfl,w,t,v,p⟩
   dsimp only at w t v p⊢;by_cases z:u≥n - a;·rw[ae z];exact aw ⟨rfl,rfl,w,t,v,.inl z⟩
   ·rw[ah z];refine ak (P _ _ _ (by omega) J ?_);cases y:f (a+u)with
    |true=>exact aw ⟨rfl,rfl,by show u<2*u+1;omega,by show a+u<n;omega,y,by show i+1<2*u+1;omega⟩
    |false=>exact aw ⟨rfl,rfl,w,t,v,.inr y⟩
  ·rintro ⟨o,l,u⟩ d ⟨rfl,rfl,w,t,v,p⟩
   dsimp only at w t v p⊢;exact⟨rfl,rfl,w,t,v,.inl<|by omega⟩
  ·rintro ⟨o,l,u⟩ d ⟨rfl,rfl,w,t,v,p⟩
   dsimp only at w t v p⊢;refine ak (ck (G (a+l+1) (a+min u (n - a)) _ rfl (by omega) (by omega) (λi m=>mono i _ (Nat.le_of_lt_succ m) t v) λi m N=>?_) ?_)
   ·rcases p with p|p;·omega
    ·cases y:f i with
     |false=>rfl
     |true=>
      have V:a+u<=i:=by omega
      rw[mono _ i V N y]at p;cases p
   ·rintro ⟨o,lo,m⟩ d ⟨rfl,g⟩
    exact aw g
 |false=>
  refine ak (ck (bw (I:=λ(x:Nat) (c:ur) d=>d=st/\c.1=none/\c.2.1<c.2.2/\c.2.1<=a/\f (a - c.2.1)=false/\x<c.2.2)
   (Q:=λc d=>d=st/\c.1=none/\c.2.1<c.2.2/\c.2.1<=a/\f (a - c.2.1)=false/\(a<c.2.2\/f (a - c.2.2)=true)) ?_ ?_ ⟨rfl,rfl,Nat.one_pos,bo _,q,Nat.one_pos⟩) ?_)
  ·rintro i ⟨o,l,u⟩ d _ m ⟨rfl,rfl,w,t,v,p⟩
   dsimp only at w t v p⊢;by_cases z:u≥a+1;·rw[ae z];exact aw ⟨rfl,rfl,w,t,v,.inl z⟩
   ·rw[ah z];refine ak (P _ _ _ (by omega) J ?_);cases y:f (a - u)with
    |false=>exact aw ⟨rfl,rfl,by show u<2*u+1;omega,by show u<=a;omega,y,by show i+1<2*u+1;omega⟩
    |true=>exact aw ⟨rfl,rfl,w,t,v,.inr y⟩
  ·rintro ⟨o,l,u⟩ d ⟨rfl,rfl,w,t,v,p⟩
   dsimp only at w t v p⊢;exact⟨rfl,rfl,w,t,v,.inl<|by omega⟩
  ·rintro ⟨o,l,u⟩ d ⟨rfl,rfl,w,t,v,p⟩
   dsimp only at w t v p⊢;refine ak (ck (G (a+1 - min u (a+1)) (a - l) _ rfl (by omega) (by omega) (λi m=>?_) λi m N=>?_) ?_)
   ·rcases p with p|p;·omega
    ·exact mono i _ (by omega) (by omega) p
   ·cases y:f i with
    |false=>rfl
    |true=>rw[mono _ i m N y]at v;cases v
   ·rintro ⟨o,lo,m⟩ d ⟨rfl,g⟩
    exact aw g
end
structure Mg(le:Keyed->Keyed->Prop)(P Q:fL Keyed)(i j:Nat)(out:fL Keyed):Prop where
 pm:out.Perm (P.take i++Q.take j)
 so:out.Pairwise le
 up:∀x∈out,∀y,y∈P.drop i\/y∈Q.drop j->le x y
section
variable{le:Keyed->Keyed->Prop}{P Q out:fL Keyed}{i j k:Nat}
def Mg.swap(m:Mg le P Q i j out):Mg le Q P j i out:=⟨m.pm.trans dE,m.so,λx c y a=>m.up x c y a.symm⟩
def Mg.a(m:Mg le P Q i j out)(l:P.Pairwise le)(h:∀x∈(P.drop i).take k,∀y∈Q.drop j,le x y):Mg le P Q (i+k) j (out++(P.drop i).take k):=by
 have e:P.drop i=(P.drop i).take k++P.drop (i+k):=by rw[<-List.drop_drop,cq]
 have f:(P.drop i).Pairwise le:=l.sublist (List.drop_sublist ..);rw[e]at f;obtain⟨o,p,n⟩:=bV.mp f;refine⟨?_,bV.mpr ⟨m.so,o,λx d y c=>m.up x d y<|.inl<|fE c⟩,λx d y c=>?_⟩
 ·rw[List.take_add];refine(m.pm.append_right _).trans ?_;rw[aS,aS];exact List.perm_append_comm.append_left _
 ·rcases bf.mp d with d|d
  ·refine m.up x d y (c.imp_left λc=>?_);rw[e];exact aM _ c
  ·rcases c with c|c;·exact n x d y c
   ·exact h x d y c
def Mg.b(m:Mg le P Q i j out)(a:Q.Pairwise le)(h:∀x∈(Q.drop j).take k,∀y∈P.drop i,le x y):Mg le P Q i (j+k) (out++(Q.drop j).take k):=(m.swap.a a h).swap
def Mg.fin(m:Mg le P Q i j out)(l:P.Pairwise le)(f:Q.Pairwise le)(h:∀x∈P.drop i,∀y∈Q.drop j,le x y):(out++P.drop i++Q.drop j).Perm (P++Q)/\(out++P.drop i++Q.drop j).Pairwise le:=by have a:=m.a (k:=P.length) l (λx d=>h x<|fE d);have b:=a.b (k:=Q.length) f (λx d y c=>by rw[bu<|by omega]at c;cases c);rw[bF<|by rw[cc];omega,bF<|by rw[cc];omega]at b;exact⟨by have:=b.pm;rwa [bF<|by omega,bF<|by omega]at this,b.so⟩
end
variable{M:Model}{A:gz}{E:gE}{s:fS}{F:SortKind}{S:Keyed->Prop}{r:Keyed->Nat}
def vQ(r:Keyed->Nat)(x y:Keyed):Prop:=r x<=r y
def wa{xs:fY Keyed}{i k:Nat}{x:Keyed}(h:x∈(xs.toList.drop i).take k):∃m,i<=m/\m<i+k/\m<xs.size/\rk r xs m=r x:=by
 obtain⟨n,a⟩:=cT.mp h;rw[List.getElem?_take]at a;split at a
 ·rw[List.getElem?_drop]at a;refine⟨i+n,by omega,by omega,?_,?_⟩;·have:=(au.mp a).1;simpa using this
  ·unfold rk;rw[<-aO,a];rfl
 ·cases a
def nU{xs:fY Keyed}{i:Nat}{x:Keyed}(h:x∈xs.toList.drop i):∃m,i<=m/\m<xs.size/\rk r xs m=r x:=by obtain⟨m,d,_,c,a⟩:=wa (r:=r) (xs:=xs) (i:=i) (k:=xs.toList.length) (x:=x) (by rw[bF (by rw[cc];omega)];exact h);exact⟨m,d,c,a⟩
def yP(a:fY Keyed)(i k:Nat):(a.extract i<|i+k).toList=(a.toList.drop i).take k:=by
 rw[dQ,c9]
 congr 1;omega
def rW(a:fY Keyed)(i:Nat):(a.extract i a.size).toList=a.toList.drop i:=by rw[dQ,c9,bF<|by rw[cc,aJ];omega]
def Ap{a:fY Keyed}{i:Nat}{x:Keyed}(h:a[i]?=some x):(a.toList.drop i).take 1=[x]:=by
 have d:a.toList[i]?=some x:=by rw[aO];exact h
 obtain⟨c,e⟩:=au.mp d;rw[bj c,e];rfl
def m9{a:fY Keyed}(h:Seg r a 0 a.size):a.toList.Pairwise (vQ r):=by
 rw[bQ];intro i j l f k;have d:i<a.size:=by simpa using l
 have c:j<a.size:=by simpa using f
 have:=h i j (bo _) (by omega) c;unfold rk at this;rw[c8 a i d,c8 a j c]at this;exact this
def Gc(st a:SortSt):Prop:=kindOf a=kindOf st/\arrOf a=arrOf st/\pendingOf a=pendingOf st/\failedOf a=failedOf st
def Gc.refl(st:SortSt):Gc st st:=⟨rfl,rfl,rfl,rfl⟩
def tL{st a:SortSt}{g:Nat}{Q:PUnit->SortSt->Prop}(h:Gc a st)(q:∀c,Gc a c->Q ⟨⟩ c):wpS M A E s ((sortPriv%PySem.Builtin.setMinGallop) g) Q st:=by refine el (q _ ?_);exact h
def kM(r:Keyed->Nat)(a b c:fY Keyed):Prop:=c.toList.Perm (a.toList++b.toList)/\c.toList.Pairwise (vQ r)
abbrev jd(r:Keyed->Nat)(a b:fY Keyed)(ia ib:Nat)(out:fY Keyed):Prop:=Mg (vQ r) a.toList b.toList ia ib out.toList
section
variable{a b out:fY Keyed}{c f k:Nat}(l:Seg r a 0 a.size)(q:Seg r b 0 b.size)
include l q
theorem vV(m:jd r a b c f out)(h:∀x y,c<=x->x<c+k->x<a.size->f<=y->y<b.size->rk r a x<=rk r b y):jd r a b (c+k) f (out++a.extract c (c+k)):=by
 have:=m.a (k:=k) (m9 l) λx n y d=>by
  obtain⟨i,u,t,p,o⟩:=wa (r:=r) n;obtain⟨j,z,w,v⟩:=nU (r:=r) d;have:=h i j u t p z w
  rwa [o,v]at this
 show Mg _ _ _ _ _ _;rw[ba,yP];exact this
theorem Ha(m:jd r a b c f out)(h:∀x y,f<=x->x<f+k->x<b.size->c<=y->y<a.size->rk r b x<=rk r a y):jd r a b c (f+k) (out++b.extract f (f+k)):=
 (vV q l (m.swap) h).swap
theorem vW{p:Keyed}(e:a[c]?=some p)(m:jd r a b c f out)(h:∀y,f<=y->y<b.size->r p<=rk r b y):jd r a b (c+1) f (out.push p):=by
 have:=vV (k:=1) l q m λx y o n j i d=>by
  have:x=c:=by omega
  subst this;have:=h y i d;unfold rk;rw[e];exact this
 unfold jd at this⊢
 rwa [ba,yP,Ap e,<-eD]at this
theorem vX{p:Keyed}(e:b[f]?=some p)(m:jd r a b c f out)(h:∀y,c<=y->y<a.size->r p<=rk r a y):jd r a b c (f+1) (out.push p):=(vW q l e m.swap h).swap
theorem qC(m:jd r a b c f out)(h:c=a.size\/f=b.size):kM r a b (out++a.extract c a.size++b.extract f b.size):=by
 have:=m.fin (m9 l) (m9 q) λx n y d=>by obtain⟨i,p,o,_⟩:=nU (r:=r) n;obtain⟨j,u,t,_⟩:=nU (r:=r) d;omega
 unfold kM
 rwa [ba,ba,rW,rW]
theorem sE(m:jd r a b c f out)(h:∀y,y<b.size->rk r b y<=rk r a (a.size - 1))(e:c+1=a.size):kM r a b (out++b.extract f b.size++a.extract c a.size):=by
 have:=m.swap.fin (m9 q) (m9 l) λx n y d=>by obtain⟨i,u,p,o⟩:=nU (r:=r) n;obtain⟨j,w,v,t⟩:=nU (r:=r) d;have:=h i p;rw[show a.size - 1=j by omega,o,t]at this;exact this
 unfold kM;rw[ba,ba,rW,rW];exact⟨this.1.trans dE,this.2⟩
end
variable{M:Model}{A:gz}{E:gE}{s:fS}{F:SortKind}{S:Keyed->Prop}{r:Keyed->Nat}
def A1{a:fY Keyed}{i:Nat}{p:Keyed}(h:a[i]?=some p):rk r a i=r p:=by unfold rk;rw[h];rfl
def En(r:Keyed->Nat)(a b:fY Keyed)(I:Prop)(o:fU<|fY Keyed):Prop:=match o with
 |none=>I
 |some c=>kM r a b c
def jq{a:Type}{x y:Nat}{p q:a}(h:x=y):(if(x==y)=true then p else q)=p:=ae (by simpa using h)
def jh{a:Type}{x y:Nat}{p q:a}(h:x≠y):(if(x==y)=true then p else q)=q:=ah (by simpa using h)
def two{P:Nat->Prop}{G:Prop}(h:(∀n,P n)->G)(K:∀n,P n):G:=h K
def sv{I P:fY Keyed->Nat->Prop}{G:Prop}(h:(∀o n,I o n->P o n)->G)(K:∀o n,I o n->P o n):G:=h K
def Pd(C:ny M A E s F S r){st:SortSt}{a b:fY Keyed}{Q:fY Keyed->SortSt->Prop}(ks:kindOf st=F)(la:Al S a)(lb:Al S b)(D:Seg r a 0 a.size)(v:Seg r b 0 b.size)
    (n1:1<=a.size)(n2:1<=b.size)(T:rk r b 0<=rk r a 0)(N:rk r b (b.size - 1)<=rk r a (a.size - 1))(h:∀O d,Gc st d->kM r a b O->Q O d):
 wpS M A E s ((sortPriv%PySem.Builtin.mergeLo) a b) Q st:=by
 have hl:∀y,y<b.size->rk r b y<=rk r a (a.size - 1):=λy hy=>aC (v y (b.size - 1) (by omega) (by omega)<|by omega) N;refine ak (eV<|cZ ⟨rfl,?_⟩);obtain⟨p0,e0,-⟩:=at_of (r:=r) (xs:=b) (i:=0) (by omega);refine ak (jb e0 ?_);have m0:jd r a b 0 (0+1) (#[].push p0):=vX (out:=#[]) D v e0 ⟨.refl _,.nil,λx hx=>nomatch hx⟩ λy _ hy=>by rw[<-A1 (r:=r) e0];exact aC T (D 0 y (by omega) (by omega) hy)
 by_cases z1:1=b.size;·refine(a9 (λm=>wpS M A E s m Q st)<|jq z1).mpr (aw<|h _ _ (.refl _)<|qC D v m0<|.inr z1)
 refine(a9 (λm=>wpS M A E s m Q st)<|jh z1).mpr ?_;by_cases z2:0+1=a.size;·refine(a9 (λm=>wpS M A E s m Q st)<|jq z2).mpr (aw<|h _ _ (.refl _)<|sE D v m0 hl z2)
 refine(a9 (λm=>wpS M A E s m Q st)<|jh z2).mpr ?_;refine ak (d7 ?_)
 refine ak (ck (bw (I:=λ(x:Nat) (c:fU (fY Keyed)×fY Keyed×Nat×Nat×Nat) d=>Gc st d/\c.1=none/\jd r a b c.2.2.1 c.2.2.2.1 c.2.1/\c.2.2.1+1<a.size/\c.2.2.2.1<b.size/\x<=c.2.2.1+c.2.2.2.1)
  (Q:=λc d=>Gc st d/\En r a b False c.1) ?_ ?_ ⟨.refl _,rfl,m0,by show 0+1<a.size;omega,by show 0+1<b.size;omega,bo _⟩) ?_)
 rotate_left
 ·rintro ⟨o,out,l,f,R⟩ d ⟨g,rfl,m,G,t,J⟩
  dsimp only at G t J;omega
 ·rintro ⟨o,out,l,f,R⟩ d ⟨g,e⟩
  cases o with
  |none=>exact e.elim
  |some O=>exact aw (h _ _ g e)
 rintro x ⟨o,out,l,f,R⟩ Bb _ _ ⟨g,rfl,m,G,t,J⟩
 dsimp only at m G t J⊢
 refine ak (ck (bw (I:=λ(y:Nat) (c:fU (fY Keyed)×fY Keyed×Nat×Nat×Nat×Nat) d=>Gc st d/\c.1=none/\jd r a b c.2.2.1 c.2.2.2.1 c.2.1/\c.2.2.1+1<a.size/\c.2.2.2.1<b.size/\x+y<=c.2.2.1+c.2.2.2.1)
  (Q:=λc d=>Gc st d/\En r a b (jd r a b c.2.2.1 c.2.2.2.1 c.2.1/\c.2.2.1+1<a.size/\c.2.2.2.1<b.size/\x<c.2.2.1+c.2.2.2.1) c.1) ?_ ?_ ⟨g,rfl,m,G,t,J⟩) ?_)
 ·rintro y ⟨o,out,l,f,ac,bc⟩ d _ _ ⟨g,rfl,m,G,t,J⟩
  dsimp only at m G t J⊢;obtain⟨p,V,e2⟩:=at_of (r:=r) (xs:=b) (i:=f) t;obtain⟨q,U,e4⟩:=at_of (r:=r) (xs:=a) (i:=l) (by omega);refine ak (jb V<|ak<|jb U<|ak<|C _ _ _ _ (lb _ _ V) (la _ _ U) (g.1.trans ks) ?_);by_cases w:r p<r q
  ·rw[aE w];refine ak (jb V ?_);have Z:=vX D v V m λy vC vD=>by have:=D l y (by omega) vC vD;omega
   by_cases z:f+1=b.size;·rw[jq z];exact aw ⟨g,qC D v Z<|.inr z⟩
   ·rw[jh z];split;·exact aw ⟨g,Z,G,by show f+1<b.size;omega,by show x<l+(f+1);omega⟩
    ·exact aw ⟨g,rfl,Z,G,by show f+1<b.size;omega,by show x+(y+1)<=l+(f+1);omega⟩
  ·rw[ax w];refine ak (jb U ?_);have Z:=vW D v U m λy vC vD=>by have:=v f y (by omega) vC vD;omega
   by_cases z:l+1+1=a.size;·rw[jq z];exact aw ⟨g,sE D v Z hl z⟩
   ·rw[jh z];split;·exact aw ⟨g,Z,by show l+1+1<a.size;omega,t,by show x<l+1+f;omega⟩
    ·exact aw ⟨g,rfl,Z,by show l+1+1<a.size;omega,t,by show x+(y+1)<=l+1+f;omega⟩
 ·rintro ⟨o,out,l,f,ac,bc⟩ d ⟨g,rfl,m,G,t,J⟩
  dsimp only at G t J;omega
 rintro ⟨o,out,l,f,ac,bc⟩ pC ⟨g,q⟩
 cases o with
 |some O=>exact aw ⟨g,q⟩
 |none=>
 obtain⟨m,G,t,J⟩:=q;dsimp only at m G t J⊢;refine ak (eV<|cZ ⟨rfl,?_⟩)
 refine ak (ck (bw (I:=λ(y:Nat) (c:fU (fY Keyed)×fY Keyed×Nat×Nat×Nat×Nat×Nat) d=>Gc st d/\c.1=none/\jd r a b c.2.2.1 c.2.2.2.1 c.2.1/\c.2.2.1+1<a.size/\c.2.2.2.1<b.size/\x+1+y<=c.2.2.1+c.2.2.2.1)
  (Q:=λc d=>Gc st d/\En r a b (jd r a b c.2.2.1 c.2.2.2.1 c.2.1/\c.2.2.1+1<a.size/\c.2.2.2.1<b.size/\x+1<=c.2.2.1+c.2.2.2.1) c.1) ?_ ?_ ⟨g,rfl,m,G,t,J⟩) ?_)
 ·rintro y ⟨o,out,l,f,R,ac,bc⟩ d _ _ ⟨g,rfl,m,G,t,J⟩
  dsimp only at m G t J⊢;apply two
  ·intro K;by_cases hm:R>1
   rotate_left
   ·rw[ah hm];clear hm;generalize R=n;exact K n
   ·rw[ae hm];exact K (R - 1)
  intro R;refine ak (tL g λd g=>?_);obtain⟨p,V,e2⟩:=at_of (r:=r) (xs:=b) (i:=f) t;refine ak (jb V<|ak<|pM C la (lb _ _ V) (g.1.trans ks) (by omega) (by omega) (λi j T N h3=>D i j (by omega) N<|by omega) _ (λ_=>rfl) λk hk k1 k2=>?_);have Y:=vV (k:=k) D v m λx y T N h3 h4 h5=>by have:=k1 (x - l) (by omega);rw[show l+(x - l)=x by omega]at this;have:=aX this;have:=v f y (by omega) h4 h5;omega
  have L:∀y,l+k<=y->y<a.size->r p<=rk r a y:=λy T N=>by have:=k2 (y - l) (by omega) (by omega);rw[show l+(y - l)=y by omega]at this;have:=aW this;omega
  dsimp only;apply sv (I:=λo n=>jd r a b n f o/\n+1<a.size/\l<=n/\∀y,n<=y->y<a.size->r p<=rk r a y)
  ·intro K;by_cases P:k>0
   rotate_left
   ·rw[ah P];have hI:jd r a b l f out/\l+1<a.size/\l<=l/\∀y,l<=y->y<a.size->r p<=rk r a y:=⟨m,G,af _,λy T N=>L y (by omega) N⟩;generalize hn:l=n at hI⊢;have nQ:jd r a b n f out/\n+1<a.size/\l<=n/\∀y,n<=y->y<a.size->r p<=rk r a y:=by rw[hn];exact hI
    generalize out=o at nQ⊢;exact K o n nQ
   ·rw[ae P];by_cases z:l+k+1=a.size;·rw[jq z];exact aw ⟨g,sE D v Y hl z⟩
    ·rw[jh z];by_cases z2:l+k=a.size;·rw[jq z2];exact aw ⟨g,qC D v Y<|.inl z2⟩
     ·rw[jh z2];exact K _ _ ⟨Y,by omega,by omega,L⟩
  rintro o n ⟨m,i1,i2,i3⟩
  clear Y L k1 k2;refine ak (jb V ?_);have Y:=vX D v V m i3;by_cases z:f+1=b.size;·rw[jq z];exact aw ⟨g,qC D v Y<|.inr z⟩
  rw[jh z];obtain⟨q,U,e4⟩:=at_of (r:=r) (xs:=a) (i:=n) (by omega);refine ak (jb U<|ak<|pM C lb (la _ _ U) (g.1.trans ks) (by omega) (by omega) (λi j T N h3=>v i j (by omega) N<|by omega) _ (λ_=>rfl) λk' hk k1 k2=>?_);have m2:=Ha (k:=k') D v Y λx y T N h3 h4 h5=>by have:=k1 (x - (f+1)) (by omega);rw[show f+1+(x - (f+1))=x by omega]at this;have:=aX this;have:=D n y (by omega) h4 h5;omega
  have L:∀y,f+1+k'<=y->y<b.size->r q<=rk r b y:=λy T N=>by have:=k2 (y - (f+1)) (by omega) (by omega);rw[show f+1+(y - (f+1))=y by omega]at this;have:=aW this;omega
  dsimp only;apply sv (I:=λo u=>jd r a b n u o/\u<b.size/\f<=u/\∀y,u<=y->y<b.size->r q<=rk r b y)
  ·intro K;by_cases P:k'>0
   rotate_left
   ·rw[ah P];have hI:jd r a b n (f+1) (o.push p)/\f+1<b.size/\f<=f+1/\∀y,f+1<=y->y<b.size->r q<=rk r b y:=⟨Y,by omega,by omega,λy T N=>L y (by omega) N⟩;generalize f+1=u at hI⊢;generalize o.push p=o' at hI⊢;exact K o' u hI
   ·rw[ae P];by_cases z:f+1+k'=b.size;·rw[jq z];exact aw ⟨g,qC D v m2<|.inr z⟩
    ·rw[jh z];exact K _ _ ⟨m2,by omega,by omega,L⟩
  rintro o' u ⟨m,j1,j2,j3⟩
  refine ak (jb U ?_);have m3:=vW D v U m j3;by_cases z:n+1+1=a.size;·rw[jq z];exact aw ⟨g,sE D v m3 hl z⟩
  rw[jh z];split;·exact aw ⟨g,m3,by show n+1+1<a.size;omega,j1,by show x+1<=n+1+u;omega⟩
  ·exact aw ⟨g,rfl,m3,by show n+1+1<a.size;omega,j1,by show x+1+(y+1)<=n+1+u;omega⟩
 ·rintro ⟨o,out,l,f,R,ac,bc⟩ d ⟨g,rfl,m,G,t,J⟩
  dsimp only at G t J;omega
 rintro ⟨o,out,l,f,R,ac,bc⟩ pC ⟨g,q⟩
 cases o with
 |some O=>exact aw ⟨g,q⟩
 |none=>
 obtain⟨m,G,t,J⟩:=q;exact ak (tL g λBc g'=>aw ⟨g',rfl,m,G,t,J⟩)
variable{M:Model}{A:gz}{E:gE}{s:fS}{F:SortKind}{S:Keyed->Prop}{r:Keyed->Nat}
structure iS(r:Keyed->Nat)(a b:fY Keyed)(na nb:Nat)(out:fY Keyed):Prop where
 ha:na<=a.size
 hb:nb<=b.size
 mg:Mg (λx y=>r y<=r x) a.toList.reverse b.toList.reverse (a.size - na) (b.size - nb) out.toList
def iS.swap{a b out:fY Keyed}{d c:Nat}(m:iS r a b d c out):iS r b a c d out:=⟨m.hb,m.ha,m.mg.swap⟩
def pq(a:fY Keyed){n:Nat}(h:n<=a.size):a.toList.reverse.drop (a.size - n)=(a.toList.take n).reverse:=by rw[List.drop_reverse,aJ];congr 2;omega
def AY(a:fY Keyed){n u:Nat}(h:n<=a.size):(a.toList.reverse.drop<|a.size - n).take (n - u)=((a.toList.take n).drop u).reverse:=by
 rw[pq a h,List.take_reverse,bD,aJ];by_cases z:u<=n;·congr 2;omega
 ·rw[bu<|by rw[bD,aJ];omega,bu<|by rw[bD,aJ];omega]
def sN{a:fY Keyed}{n u:Nat}{x:Keyed}(h:x∈(a.toList.take n).drop u):∃m,u<=m/\m<n/\m<a.size/\rk r a m=r x:=by rw[eo]at h;obtain⟨m,f,i,d,c⟩:=wa (r:=r) h;exact⟨m,f,by omega,d,c⟩
def oQ(a:fY Keyed)(u n:Nat):(a.extract u n).toList=(a.toList.take n).drop u:=by rw[dQ,c9,eo]
section
variable{a b out:fY Keyed}{c f u:Nat}(l:Seg r a 0 a.size)(q:Seg r b 0 b.size)
include l q
theorem vB(m:iS r a b c f out)(z:u<=c)(h:∀x y,u<=x->x<c->y<f->rk r b y<=rk r a x):iS r a b u f (out++(a.extract u c).reverse):=by
 have C:=m.ha;have:=m.mg.a (k:=c - u) (cU.mpr<|m9 l) λx n y d=>by
  rw[AY a m.ha,dM]at n;rw[pq b m.hb,dM]at d;obtain⟨i,t,p,D,o⟩:=sN (r:=r) n;obtain⟨j,I,w,G,v⟩:=sN (r:=r) (u:=0) d;have:=h i j t p w
  rwa [o,v]at this
 refine⟨by omega,m.hb,?_⟩;rw[show a.size - u=a.size - c+(c - u)by omega,ba,dR,oQ,<-AY a m.ha];exact this
theorem FE(m:iS r a b c f out)(d:u<=f)(h:∀x y,u<=x->x<f->y<c->rk r a y<=rk r b x):iS r a b c u (out++(b.extract u f).reverse):=(vB q l m.swap d h).swap
theorem sr{p:Keyed}(m:iS r a b c f out)(j:0<c)(e:a[c - 1]?=some p)(h:∀y,y<f->rk r b y<=r p):iS r a b (c - 1) f (out.push p):=by
 have:=vB (u:=c - 1) l q m (by omega) λx y n k d=>by
  have:x=c - 1:=by omega
  subst this;rw[A1 e];exact h y d
 refine⟨this.ha,this.hb,?_⟩;have i:(out++(a.extract (c - 1) c).reverse).toList=(out.push p).toList:=by rw[ba,dR,oQ,eo,show c - (c - 1)=1 by omega,Ap e,eD];rfl
 rw[<-i];exact this.mg
theorem zh{p:Keyed}(m:iS r a b c f out)(d:0<f)(e:b[f - 1]?=some p)(h:∀y,y<c->rk r a y<=r p):iS r a b c (f - 1) (out.push p):=(sr q l m.swap d e h).swap
theorem zi(m:iS r a b c f out)(h:∀x y,x<c->y<f->rk r b y<=rk r a x):kM r a b (b.extract 0 f++a.extract 0 c++out.reverse):=by
 have:=m.mg.fin (cU.mpr<|m9 l) (cU.mpr<|m9 q) λx k y d=>by
  rw[pq a m.ha,dM]at k;rw[pq b m.hb,dM]at d;obtain⟨i,w,o,v,n⟩:=sN (r:=r) (u:=0) k;obtain⟨j,C,t,z,p⟩:=sN (r:=r) (u:=0) d;have:=h i j o t
  rwa [n,p]at this
 rw[pq a m.ha,pq b m.hb]at this;have e:(b.extract 0 f++a.extract 0 c++out.reverse).toList=(out.toList++(a.toList.take c).reverse++(b.toList.take f).reverse).reverse:=by rw[ba,ba,oQ,oQ,dR,List.reverse_append,List.reverse_append,fF,fF,aS];rfl
 unfold kM;rw[e];exact⟨(eE _).trans (this.1.trans<|(eE _).append (eE _)),cU.mpr this.2⟩
theorem qt(m:iS r a b c f out)(h:c=0\/f=0):kM r a b (a.extract 0 c++b.extract 0 f++out.reverse):=by
 have:=zi q l m.swap λx y i d=>by omega
 exact⟨this.1.trans dE,this.2⟩
end
def Pc(C:ny M A E s F S r){st:SortSt}{a b:fY Keyed}{Q:fY Keyed->SortSt->Prop}(ks:kindOf st=F)(la:Al S a)(lb:Al S b)(J:Seg r a 0 a.size)(G:Seg r b 0 b.size)
    (n1:1<=a.size)(n2:1<=b.size)(O:rk r b 0<=rk r a 0)(U:rk r b (b.size - 1)<=rk r a (a.size - 1))(h:∀P d,Gc st d->kM r a b P->Q P d):
 wpS M A E s ((sortPriv%PySem.Builtin.mergeHi) a b) Q st:=by
 have hl:∀{f k:Nat} {out:fY Keyed},f=1->iS r a b k f out->kM r a b (b.extract 0 f++a.extract 0 k++out.reverse):=λe m=>zi J G m λx y hx hy=>by
  have:=m.ha;subst e;have:y=0:=by omega
  subst this;exact aC O (J 0 x (by omega) (by omega)<|by omega)
 refine ak (eV<|cZ ⟨rfl,?_⟩);obtain⟨p0,e0,Em⟩:=at_of (r:=r) (xs:=a) (i:=a.size - 1) (by omega);refine ak (jb e0 ?_);have m0:iS r a b (a.size - 1) b.size (#[].push p0):=sr (out:=#[]) J G ⟨af _,af _,by rw[cy,cy];exact⟨.refl _,.nil,λx hx=>nomatch hx⟩⟩ (by omega) e0 λy hy=>by rw[<-Em];exact aC (G y (b.size - 1) (by omega) (by omega)<|by omega) U
 by_cases z1:a.size - 1=0;·refine(a9 (λm=>wpS M A E s m Q st)<|jq z1).mpr (aw<|h _ _ (.refl _)<|qt J G m0<|.inl z1)
 refine(a9 (λm=>wpS M A E s m Q st)<|jh z1).mpr ?_;by_cases z2:b.size=1;·refine(a9 (λm=>wpS M A E s m Q st)<|jq z2).mpr (aw<|h _ _ (.refl _)<|hl z2 m0)
 refine(a9 (λm=>wpS M A E s m Q st)<|jh z2).mpr ?_;refine ak (d7 ?_)
 refine ak (ck (bw (I:=λ(x:Nat) (c:fU (fY Keyed)×Nat×Nat×fY Keyed×Nat) d=>Gc st d/\c.1=none/\iS r a b c.2.1 c.2.2.1 c.2.2.2.1/\0<c.2.1/\1<c.2.2.1/\x+(c.2.1+c.2.2.1)<=a.size+b.size)
  (Q:=λc d=>Gc st d/\En r a b False c.1) ?_ ?_ ⟨.refl _,rfl,m0,by show 0<a.size - 1;omega,by show 1<b.size;omega,by show 0+(a.size - 1+b.size)<=_;omega⟩) ?_)
 rotate_left
 ·rintro ⟨o,k,f,out,T⟩ d ⟨g,rfl,m,l,D,L⟩
  dsimp only at l D L;omega
 ·rintro ⟨o,k,f,out,T⟩ d ⟨g,e⟩
  cases o with
  |none=>exact e.elim
  |some P=>exact aw (h _ _ g e)
 rintro x ⟨o,k,f,out,T⟩ Bb _ _ ⟨g,rfl,m,l,D,L⟩
 dsimp only at m l D L⊢
 refine ak (ck (bw (I:=λ(y:Nat) (c:fU (fY Keyed)×Nat×Nat×fY Keyed×Nat×Nat) d=>Gc st d/\c.1=none/\iS r a b c.2.1 c.2.2.1 c.2.2.2.1/\0<c.2.1/\1<c.2.2.1/\x+y+(c.2.1+c.2.2.1)<=a.size+b.size)
  (Q:=λc d=>Gc st d/\En r a b (iS r a b c.2.1 c.2.2.1 c.2.2.2.1/\0<c.2.1/\1<c.2.2.1/\x+1+(c.2.1+c.2.2.1)<=a.size+b.size) c.1) ?_ ?_ ⟨g,rfl,m,l,D,L⟩) ?_)
 ·rintro y ⟨o,k,f,out,ac,bc⟩ d _ _ ⟨g,rfl,m,l,D,L⟩
  dsimp only at m l D L⊢;have ha:=m.ha;have hb:=m.hb;obtain⟨p,Y,e2⟩:=at_of (r:=r) (xs:=b) (i:=f - 1) (by omega);obtain⟨q,V,e4⟩:=at_of (r:=r) (xs:=a) (i:=k - 1) (by omega);refine ak (jb Y<|ak<|jb V<|ak<|C _ _ _ _ (lb _ _ Y) (la _ _ V) (g.1.trans ks) ?_);by_cases w:r p<r q
  ·rw[aE w];refine ak (jb V ?_);have m':=sr J G m l V λy hy=>by have:=G y (f - 1) (by omega) (by omega) (by omega);omega
   by_cases z:k - 1=0;·rw[jq z];exact aw ⟨g,qt J G m'<|.inl z⟩
   ·rw[jh z];split;·exact aw ⟨g,m',by show 0<k - 1;omega,D,by show x+1+(k - 1+f)<=_;omega⟩
    ·exact aw ⟨g,rfl,m',by show 0<k - 1;omega,D,by show x+(y+1)+(k - 1+f)<=_;omega⟩
  ·rw[ax w];refine ak (jb Y ?_);have m':=zh J G m (by omega) Y λy hy=>by have:=J y (k - 1) (by omega) (by omega) (by omega);omega
   by_cases z:f - 1=1;·rw[jq z];exact aw ⟨g,hl z m'⟩
   ·rw[jh z];split;·exact aw ⟨g,m',l,by show 1<f - 1;omega,by show x+1+(k+(f - 1))<=_;omega⟩
    ·exact aw ⟨g,rfl,m',l,by show 1<f - 1;omega,by show x+(y+1)+(k+(f - 1))<=_;omega⟩
 ·rintro ⟨o,k,f,out,ac,bc⟩ d ⟨g,rfl,m,l,D,L⟩
  dsimp only at l D L;omega
 rintro ⟨o,k,f,out,ac,bc⟩ pC ⟨g,q⟩
 cases o with
 |some P=>exact aw ⟨g,q⟩
 |none=>
 obtain⟨m,l,D,L⟩:=q;dsimp only at m l D L⊢;refine ak (eV<|cZ ⟨rfl,?_⟩)
 refine ak (ck (bw (I:=λ(y:Nat) (c:fU (fY Keyed)×Nat×Nat×fY Keyed×Nat×Nat×Nat) d=>Gc st d/\c.1=none/\iS r a b c.2.1 c.2.2.1 c.2.2.2.1/\0<c.2.1/\1<c.2.2.1/\x+1+y+(c.2.1+c.2.2.1)<=a.size+b.size)
  (Q:=λc d=>Gc st d/\En r a b (iS r a b c.2.1 c.2.2.1 c.2.2.2.1/\0<c.2.1/\1<c.2.2.1/\x+1+(c.2.1+c.2.2.1)<=a.size+b.size) c.1) ?_ ?_ ⟨g,rfl,m,l,D,L⟩) ?_)
 ·rintro y ⟨o,k,f,out,T,ac,bc⟩ d _ _ ⟨g,rfl,m,l,D,L⟩
  dsimp only at m l D L⊢;have ha:=m.ha;have hb:=m.hb;apply two
  ·intro K;by_cases hm:T>1
   rotate_left
   ·rw[ah hm];clear hm;generalize T=n;exact K n
   ·rw[ae hm];exact K (T - 1)
  intro T;refine ak (tL g λd g=>?_);obtain⟨p,Y,e2⟩:=at_of (r:=r) (xs:=b) (i:=f - 1) (by omega);refine ak (jb Y<|ak<|pM C la (lb _ _ Y) (g.1.trans ks) (by omega) (by omega) (λi j O U h3=>J i j (by omega) U<|by omega) _ (λ_=>rfl) λu hu k1 k2=>?_);have N:∀y,y<u->rk r a y<=r p:=λy O=>by have:=k1 y O;rw[d8]at this;exact aX this
  have Z:=vB (u:=u) J G m hu λx y O U h3=>by have:=k2 x O U;rw[d8]at this;have:=aW this;have:=G y (f - 1) (by omega) (by omega) (by omega);omega
  dsimp only;generalize QI:k - u=Cs;apply sv (I:=λo n=>iS r a b n f o/\0<n/\n<=k/\∀y,y<n->rk r a y<=r p)
  ·intro K;by_cases R:Cs>0
   rotate_left
   ·rw[ah R];have hI:iS r a b k f out/\0<k/\k<=k/\∀y,y<k->rk r a y<=r p:=⟨m,l,af _,λy O=>N y<|by omega⟩;generalize hn:k=n at hI⊢;have nQ:iS r a b n f out/\0<n/\n<=k/\∀y,y<n->rk r a y<=r p:=by rw[hn];exact hI
    generalize out=o at nQ⊢;exact K o n nQ
   ·rw[ae R];by_cases z:u=0;·rw[jq z];exact aw ⟨g,qt J G Z<|.inl z⟩
    ·rw[jh z];exact K _ _ ⟨Z,by omega,by omega,N⟩
  rintro o n ⟨m,i1,i2,i3⟩
  clear Z N k1 k2;refine ak (jb Y ?_);have Z:=zh J G m (by omega) Y i3;by_cases z:f - 1=1;·rw[jq z];exact aw ⟨g,hl z Z⟩
  rw[jh z];obtain⟨q,V,e4⟩:=at_of (r:=r) (xs:=a) (i:=n - 1) (by omega);refine ak (jb V<|ak<|pM C lb (la _ _ V) (g.1.trans ks) (by omega) (by omega) (λi j O U h3=>G i j (by omega) U<|by omega) _ (λ_=>rfl) λv hv k1 k2=>?_);have N:∀y,y<v->rk r b y<=r q:=λy O=>by have:=k1 y O;rw[d8]at this;have:=aX this;omega
  have m2:=FE (u:=v) J G Z hv λx y O U h3=>by have:=k2 x O U;rw[d8]at this;have:=aW this;have:=J y (n - 1) (by omega) (by omega) (by omega);omega
  dsimp only;generalize QJ:f - 1 - v=CI;apply sv (I:=λo t=>iS r a b n t o/\1<t/\t<f/\∀y,y<t->rk r b y<=r q)
  ·intro K;by_cases R:CI>0
   rotate_left
   ·rw[ah R];have hI:iS r a b n (f - 1) (o.push p)/\1<f - 1/\f - 1<f/\∀y,y<f - 1->rk r b y<=r q:=⟨Z,by omega,by omega,λy O=>N y<|by omega⟩;generalize f - 1=t at hI⊢;generalize o.push p=o' at hI⊢;exact K o' t hI
   ·rw[ae R];by_cases z:v=1;·rw[jq z];exact aw ⟨g,hl z m2⟩
    ·rw[jh z];by_cases z2:v=0;·rw[jq z2];exact aw ⟨g,qt J G m2<|.inr z2⟩
     ·rw[jh z2];exact K _ _ ⟨m2,by omega,by omega,N⟩
  rintro o' t ⟨m,j1,j2,j3⟩
  refine ak (jb V ?_);have m3:=sr J G m i1 V j3;by_cases z:n - 1=0;·rw[jq z];exact aw ⟨g,qt J G m3<|.inl z⟩
  rw[jh z];split;·exact aw ⟨g,m3,by show 0<n - 1;omega,j1,by show x+1+(n - 1+t)<=_;omega⟩
  ·exact aw ⟨g,rfl,m3,by show 0<n - 1;omega,j1,by show x+1+(y+1)+(n - 1+t)<=_;omega⟩
 ·rintro ⟨o,k,f,out,T,ac,bc⟩ d ⟨g,rfl,m,l,D,L⟩
  dsimp only at l D L;omega
 rintro ⟨o,k,f,out,T,ac,bc⟩ pC ⟨g,q⟩
 cases o with
 |some P=>exact aw ⟨g,q⟩
 |none=>
 obtain⟨m,l,D,L⟩:=q;exact ak (tL g λBc g'=>aw ⟨g',rfl,m,l,D,L⟩)
variable{M:Model}{A:gz}{E:gE}{s:fS}{F:SortKind}{S:Keyed->Prop}{r:Keyed->Nat}
structure Mv(lo:Nat)(st lC:SortSt):Prop where
 k:kindOf lC=kindOf st
 p:pendingOf lC=pendingOf st
 f:failedOf lC=failedOf st
 pm:(arrOf lC).Perm (arrOf st)
 lw:∀k,k<lo->(arrOf lC)[k]?=(arrOf st)[k]?
def Mv.refl(lo:Nat)(st:SortSt):Mv lo st st:=⟨rfl,rfl,rfl,.refl _,λ_ _=>rfl⟩
def Mv.sz{lo:Nat}{st a:SortSt}(m:Mv lo st a):(arrOf a).size=(arrOf st).size:=m.pm.size_eq
def Mv.al{lo:Nat}{st a:SortSt}(m:Mv lo st a)(h:Al S (arrOf st)):Al S (arrOf a):=λi p e=>by have c:p∈(arrOf a).toList:=cT.mpr ⟨i,by rw[aO];exact e⟩;obtain⟨j,d⟩:=cT.mp ((bz.mp m.pm).mem_iff.mp c);exact h j p (by rw[<-aO];exact d)
def Mv.arr{lo:Nat}{st a:SortSt}(m:Mv lo st a){c:fY Keyed}(f:c.Perm<|arrOf a)(h:∀k,k<lo->c[k]?=(arrOf a)[k]?):Mv lo st (setArr a c):=
 ⟨m.k,m.p,m.f,f.trans m.pm,λk d=>(h k d).trans (m.lw k d)⟩
def ly{c a:fY Keyed}{i j:Nat}(h:c[i]?=a[j]?):rk r c i=rk r a j:=by unfold rk;rw[h]
def wO{a:fY Keyed}{i j:Nat}(c:j<=a.size)(k:Nat):rk r (mirror a i j<|(j - i)/2) k=if i<=k/\k<j then rk r a (i+j - 1 - k)else rk r a k:=by
 have e:=d0 (i:=i) c k;by_cases z:i<=k/\k<j;·rw[ae z]at e⊢;exact ly e
 ·rw[ah z]at e⊢;exact ly e
def A2{c:fY Keyed}{a d:Nat}(f:a<c.size)(h:d<=a)(k:Nat):
    rk r (bubble c a d) k=if k=a - d then rk r c a else if a - d<k/\k<=a then rk r c (k - 1)else rk r c k:=by
 have e:=getElem?_bubble f d h k;by_cases z:k=a - d;·rw[ae z]at e⊢;exact ly e
 ·rw[ah z]at e⊢;by_cases y:a - d<k/\k<=a;·rw[ae y]at e⊢;exact ly e
  ·rw[ah y]at e⊢;exact ly e
def Dn(r:Keyed->Nat)(a:fY Keyed)(lo c:Nat):Prop:=∀i j,lo<=i->i<=j->j<c->rk r a j<=rk r a i
def qJ{a:fY Keyed}{i j:Nat}(c:j<=a.size)(h:∀k,i<=k->k<j->rk r a k=rk r a (j - 1))(k:Nat):rk r (mirror a i j<|(j - i)/2) k=rk r a k:=by
 rw[wO c];split;·rw[h _ (by omega)<|by omega,h k (by omega)<|by omega]
 ·rfl
def Mv.rev{lo i j:Nat}{st a:SortSt}(m:Mv lo st a)(c:j<=(arrOf a).size)(f:lo<=i):Mv lo st (setArr a<|mirror (arrOf a) i j<|(j - i)/2):=
 m.arr (mirror_perm _ _ _ _) λk d=>by rw[d0 c,ah<|by omega]
def w_rev{st:SortSt}{i j:Nat}{Q:Unit->SortSt->Prop}(h:Q ()<|setArr st<|mirror (arrOf st) i j<|(j - i)/2):wpS M A E s ((sortPriv%PySem.Builtin.reverseSlice) i j) Q st:=el h
def jn{a:Type}{I P:a->Prop}{G:Prop}(h:(∀x,I x->P x)->G)(K:∀x,I x->P x):G:=h K
section
variable(C:ny M A E s F S r)
include C
theorem qR{st:SortSt}{i j:Nat}{Q:fU f5->SortSt->Prop}(d:kindOf st=F)(al:Al S (arrOf st))(k:i<(arrOf st).size)(f:j<(arrOf st).size)(h:Q (some (decide (rk r (arrOf st) i<rk r (arrOf st) j))) st):wpS M A E s ((sortPriv%PySem.Builtin.ltAt) i j) Q st:=by obtain⟨p,c,m⟩:=at_of (r:=r) k;obtain⟨q,a,l⟩:=at_of (r:=r) f;rw[m,l]at h;exact ak (d7<|ak<|jb c<|ak<|jb a<|C _ _ _ _ (al _ _ c) (al _ _ a) d h)
theorem BB{st:SortSt}{lo a d:Nat}{Q:fU (fU Nat)×Nat->SortSt->Prop}(q:kindOf st=F)(al:Al S<|arrOf st)(D:lo+d<=(arrOf st).size)(G:1<=a)(o:a<=d)(u:Seg r (arrOf st) lo<|lo+a)
 (h:∀n,a<=n->n<=d->Seg r (arrOf st) lo (lo+n)->(n=d\/rk r (arrOf st) (lo+n)<rk r (arrOf st) (lo+n - 1))->Q (none,n) st):
 wpS M A E s (forIn [a:d] ((none,a):fU (fU Nat)×Nat) λ_ c=>do
  let x<-(sortPriv%PySem.Builtin.ltAt) (lo+c.2) (lo+c.2 - 1)
  match x with
  |some l=>if l=true then pure (ForInStep.done (none,c.2))else pure (ForInStep.yield (none,c.2+1))
  |x=>pure (ForInStep.done (some none,c.2))) Q st:=by
 refine bw (I:=λx c k=>k=st/\c=(none,x)/\Seg r (arrOf st) lo (lo+x)) ?_ ?_ ⟨rfl,rfl,u⟩
 ·rintro x c k m t ⟨rfl,rfl,f⟩
  refine ak (qR C q al (by omega) (by omega) ?_);by_cases w:rk r (arrOf k) (lo+x)<rk r (arrOf k) (lo+x - 1);·rw[aE w];exact aw (h x m (by omega) f<|.inr w)
  ·rw[ax w];refine aw ⟨rfl,rfl,λi j p z J=>?_⟩;by_cases v:j<lo+x;·exact f i j p z v
   ·have:j=lo+x:=by omega
    subst this;by_cases y:i=lo+x;·rw[y];exact af _
    ·have:=f i (lo+x - 1) p (by omega) (by omega);omega
 ·rintro c k ⟨rfl,rfl,f⟩
  rw[show max a d=d by omega]at f⊢;exact h d o (af _) f (.inl rfl)
theorem w_count{st:SortSt}{lo l:Nat}{Q:fU Nat->SortSt->Prop}(D:kindOf st=F)(al:Al S<|arrOf st)(hn:lo+l<=(arrOf st).size)(h1:1<=l)
 (h:∀m a,Mv lo st a->1<=m->m<=l->Seg r (arrOf a) lo (lo+m)->Q (some m) a):wpS M A E s ((sortPriv%PySem.Builtin.countRun) lo l) Q st:=by
 refine ak (BB C D al hn (af 1) h1 (λi j o p v=>by rw[show i=j by omega];exact af _) λn N L q J=>?_);by_cases z:n=l;·refine(a9 (λm=>wpS M A E s m Q st)<|jq z).mpr (aw<|h n st (.refl _ _) N L q)
 refine(a9 (λm=>wpS M A E s m Q st)<|jh z).mpr ?_;have lt:=J.resolve_left z;dsimp only;apply jn (I:=λa:SortSt=>Mv lo st a/\Dn r (arrOf a) lo (lo+(n+1)))
 ·intro K;by_cases hg:n>1
  rotate_left
  ·rw[ah hg];have hI:Mv lo st st/\Dn r (arrOf st) lo (lo+(n+1)):=⟨.refl _ _,λi j o p v=>by
    by_cases e:i=j;· rw[e];exact af _
    · rw[show j=lo+n by omega,show i=lo+n - 1 by omega];omega⟩
   generalize Y:st=oa at hI⊢;have nQ:Mv lo st oa/\Dn r (arrOf oa) lo (lo+(n+1)):=by rw[Y];exact hI
   exact K oa nQ
  ·rw[ae hg];refine ak (qR C D al (by omega) (by omega) ?_);by_cases w:rk r (arrOf st) lo<rk r (arrOf st) (lo+n - 1);·rw[aE w];exact aw (h n st (.refl _ _) N L q)
   ·rw[ax w];refine ak (w_rev<|K _ ⟨(Mv.refl lo st).rev (by omega) (af _),?_⟩);have P:∀k,lo<=k->k<lo+n->rk r (arrOf st) k=rk r (arrOf st) (lo+n - 1):=λk o p=>by
     have b1:=q lo k (by omega) (by omega) (by omega);have b2:=q k (lo+n - 1) (by omega) (by omega) (by omega);omega
    intro i j o p v;show rk r (mirror _ _ _ _) j<=rk r (mirror _ _ _ _) i;rw[qJ (by omega) P,qJ (by omega) P];by_cases Z:j<lo+n;·rw[P i o<|by omega,P j (by omega) Z];exact af _
    ·rw[show j=lo+n by omega];by_cases O:i=lo+n;·rw[O];exact af _
     ·rw[P i o<|by omega];omega
 clear q J lt
 rintro Bb ⟨m1,d1⟩
 have R:=m1.sz;refine ak (eV<|cZ ⟨rfl,?_⟩)
 refine ak (ck (bw (I:=λ(x:Nat) (c:ur) a=>∃f,c=(none,x,f)/\Mv lo st a/\Dn r (arrOf a) lo (lo+x)/\f+1<=x/\∀i,lo+x - (f+1)<=i->i<lo+x->rk r (arrOf a) i=rk r (arrOf a) (lo+x - 1))
  (Q:=λc a=>∃n f,c=(none,n,f)/\1<=n/\n<=l/\Mv lo st a/\Dn r (arrOf a) lo (lo+n)/\f+1<=n/\∀i,lo+n - (f+1)<=i->i<lo+n->rk r (arrOf a) i=rk r (arrOf a) (lo+n - 1)) ?_ ?_ ⟨0,rfl,m1,d1,by omega,λi o p=>by congr 1;omega⟩) ?_)
 ·rintro x c a QO QP ⟨f,rfl,m,d,y,t⟩
  have R:=m.sz;dsimp only;have u:∀{T:fY Keyed},(∀k,rk r T k=rk r (arrOf a) k)->rk r (arrOf a) (lo+x)<=rk r (arrOf a) (lo+x - 1)->Dn r T lo (lo+(x+1)):=λ{T} hk w i j o p v=>by
   rw[hk,hk];by_cases Z:j<lo+x;·exact d i j o p Z
   ·rw[show j=lo+x by omega];by_cases O:i=lo+x;·rw[O];exact af _
    ·have:=d i (lo+x - 1) o (by omega) (by omega);omega
  refine ak (qR C (m.k.trans D) (m.al al) (by omega) (by omega) ?_);by_cases w:rk r (arrOf a) (lo+x)<rk r (arrOf a) (lo+x - 1)
  ·rw[aE w];dsimp only;rw[ae rfl];by_cases G:f>0
   ·rw[ae G];exact ak (w_rev<|aw ⟨0,rfl,m.rev (by omega)<|by omega,u (qJ (by omega) t)<|by omega,by omega,λi o p=>by congr 1;omega⟩)
   ·rw[ah G];exact aw ⟨0,rfl,m,u (λ_=>rfl)<|by omega,by omega,λi o p=>by congr 1;omega⟩
  ·rw[ax w];dsimp only;rw[ah<|by decide];refine ak (qR C (m.k.trans D) (m.al al) (by omega) (by omega) ?_);by_cases w2:rk r (arrOf a) (lo+x - 1)<rk r (arrOf a) (lo+x)
   ·rw[aE w2];exact aw ⟨x,f,rfl,by omega,by omega,m,d,y,t⟩
   ·rw[ax w2];refine aw ⟨f+1,rfl,m,u (λ_=>rfl)<|by omega,by omega,λi o p=>?_⟩;by_cases O:i=lo+x;·rw[O];rfl
    ·have:=t i (by omega) (by omega);rw[show lo+(x+1) - 1=lo+x by omega];omega
 ·rintro c a ⟨f,rfl,m,d,y,t⟩
  rw[show max (n+1) l=l by omega]at d y t⊢;exact⟨l,f,rfl,by omega,af _,m,d,y,t⟩
 rintro c U ⟨n,f,rfl,u1,u2,m,d,y,t⟩
 have R:=m.sz;dsimp only;apply jn (I:=λa:SortSt=>Mv lo st a/\Dn r (arrOf a) lo (lo+n))
 ·intro K;by_cases G:f>0
  rotate_left
  ·rw[ah G];exact K U ⟨m,d⟩
  ·rw[ae G];refine ak (w_rev<|K _ ⟨m.rev (by omega)<|by omega,λi j o p v=>?_⟩);show rk r (mirror _ _ _ _) j<=rk r (mirror _ _ _ _) i;rw[qJ (by omega) t,qJ (by omega) t];exact d i j o p v
 clear t d R
 rintro Bc ⟨m,d⟩
 have R:=m.sz;have V:=m.rev (i:=lo) (j:=lo+n) (by omega) (af _);refine ak (w_rev<|ak<|BB C (m.k.trans D) (V.al al) (by rw[V.sz];exact hn) u1 u2 (λi j o p v=>?_) λn' _ b2 b3 _=>aw<|h n' _ V (by omega) b2 b3);show rk r (mirror _ _ _ _) i<=rk r (mirror _ _ _ _) j;rw[wO<|by omega,wO<|by omega,ae<|by omega,ae<|by omega];exact d _ _ (by omega) (by omega) (by omega)
theorem Pa{st:SortSt}{lo n ok:Nat}{Q:f5->SortSt->Prop}(N:kindOf st=F)(al:Al S<|arrOf st)(hn:lo+n<=(arrOf st).size)(R:ok<=n)(P:Seg r (arrOf st) lo<|lo+ok)
 (h:∀a,Mv lo st a->Seg r (arrOf a) lo (lo+n)->Q true a):wpS M A E s ((sortPriv%PySem.Builtin.binarySort) lo n ok) Q st:=by
 refine ak (ck (bw (I:=λk c a=>c=(none,())/\Mv lo st a/\Seg r (arrOf a) lo (lo+min k n))
  (Q:=λc a=>c=(none,())/\Mv lo st a/\Seg r (arrOf a) lo (lo+n)) ?_ ?_ ⟨rfl,.refl _ _,λi j q t L=>?_⟩) ?_)
 ·rintro k c a Y T ⟨rfl,m,f⟩
  rw[show min k n=k by omega]at f;have hz:=m.sz;have p:lo+k<(arrOf a).size:=by omega
  refine ak (ck (bw (I:=λ(x:Nat) (c:fU f5×Nat×Nat) d=>d=a/\c.1=none/\c.2.1<=c.2.2/\c.2.2<=k/\c.2.2 - c.2.1<=k - x/\(∀i,i<c.2.1->rk r (arrOf a) (lo+i)<=rk r (arrOf a) (lo+k))/\∀i,c.2.2<=i->i<k->rk r (arrOf a) (lo+k)<rk r (arrOf a) (lo+i))
   (Q:=λc d=>d=a/\c.1=none/\c.2.1<=k/\(∀i,i<c.2.1->rk r (arrOf a) (lo+i)<=rk r (arrOf a) (lo+k))/\∀i,c.2.1<=i->i<k->rk r (arrOf a) (lo+k)<rk r (arrOf a) (lo+i)) ?_ ?_ ⟨rfl,rfl,bo _,af _,af _,λi U=>absurd U (Nat.not_lt_zero i),λi (q:k<=i) t=>by omega⟩) ?_)
  ·rintro x ⟨o,l,u⟩ d _ O ⟨rfl,rfl,J,v,G,D,y⟩
   dsimp only at J v G D y⊢;by_cases z:l≥u
   ·rw[ae z];exact aw ⟨rfl,rfl,by show l<=k;omega,D,λi q t=>y i (aC z q) t⟩
   ·rw[ah z];refine ak (qR C (m.k.trans N) (m.al al) p (by omega) ?_);by_cases w:rk r (arrOf d) (lo+k)<rk r (arrOf d) (lo+(l+u)/2)
    ·rw[aE w];exact aw ⟨rfl,rfl,by show l<=(l+u)/2;omega,by show(l+u)/2<=k;omega,by show(l+u)/2 - l<=k - (x+1);omega,D,λi (q:(l+u)/2<=i) t=>by have:=f (lo+(l+u)/2) (lo+i) (by omega) (by omega) (by omega);omega⟩
    ·rw[ax w];exact aw ⟨rfl,rfl,by show(l+u)/2+1<=u;omega,v,by show u - ((l+u)/2+1)<=k - (x+1);omega,λi (q:i<(l+u)/2+1)=>by have:=f (lo+i) (lo+(l+u)/2) (by omega) (by omega) (by omega);omega,y⟩
  ·rintro ⟨o,l,u⟩ d ⟨rfl,rfl,J,v,G,D,y⟩
   dsimp only at J v G D y⊢;have z:u<=l:=by omega
   exact⟨rfl,rfl,by omega,D,λi q t=>y i (aC z q) t⟩
  ·rintro ⟨o,l,u⟩ d ⟨rfl,rfl,J,v,G⟩
   dsimp only at J v G⊢;refine ak (el<|aw ⟨rfl,m.arr (bubble_perm _ _ _) λj hj=>?_,λi j q t L=>?_⟩)
   ·have:=getElem?_bubble p (lo+k - (lo+l)) (by omega) j
    rwa [ah<|by omega,ah<|by omega]at this
   ·rw[show min (k+1) n=k+1 by omega]at L;show rk r (bubble (arrOf d) (lo+k)<|lo+k - (lo+l)) i<=rk r (bubble (arrOf d) (lo+k)<|lo+k - (lo+l)) j;rw[A2 p<|by omega,A2 p<|by omega,show lo+k - (lo+k - (lo+l))=lo+l by omega];have f1:∀i,lo<=i->i<lo+l->rk r (arrOf d) i<=rk r (arrOf d) (lo+k):=λi b1 b2=>by have:=v (i - lo) (by omega);rwa [show lo+(i - lo)=i by omega]at this
    have Z:∀i,lo+l<=i->i<lo+k->rk r (arrOf d) (lo+k)<rk r (arrOf d) i:=λi b1 b2=>by have:=G (i - lo) (by omega) (by omega);rwa [show lo+(i - lo)=i by omega]at this
    repeat' split
    all_goals first
     |(exfalso;omega)
     |exact af _
     |exact f1 _ (by omega) (by omega)
     |exact bI (Z _ (by omega)<|by omega)
     |exact f _ _ (by omega) (by omega) (by omega)
 ·rintro c a ⟨V,m,f⟩
  rw[show min (max (max ok 1) n) n=n by omega]at f;exact⟨V,m,f⟩
 ·by_cases z:ok=0;·rw[show i=j by omega];exact af _
  ·exact P i j q t (by omega)
 ·rintro c a ⟨rfl,m,f⟩
  exact aw (h a m f)
end
variable{M:Model}{A:gz}{E:gE}{s:fS}{F:SortKind}{S:Keyed->Prop}{r:Keyed->Nat}
def wb(d:Nat)(l:fL<|Keyed×Nat)(c:fY Keyed):fY Keyed:=l.foldl (λa x=>a.setIfInBounds (d+x.2) x.1) c
def BG(a:Nat)(l:fL Keyed)(n:Nat)(c:fY Keyed)(h:a+n+l.length<=c.size)(k:Nat):(wb a (l.zipIdx n) c)[k]?=if a+n<=k/\k<a+n+l.length then l[k - (a+n)]? else c[k]?:=by
 induction l generalizing n c with
 |nil=>rw[ah<|by simp only[fw];omega];rfl
 |cons x l d=>
  rw[aI]at h;rw[List.zipIdx_cons];refine(d (n+1) _<|by rw[Array.size_setIfInBounds];omega).trans ?_;by_cases z:k=a+n
  ·subst z;rw[ah<|by omega,ae<|by rw[aI];omega,Array.getElem?_setIfInBounds_self_of_lt<|by omega,cy];rfl
  ·by_cases y:a+(n+1)<=k/\k<a+(n+1)+l.length;·rw[ae y,ae<|by rw[aI];omega,show k - (a+n)=k - (a+(n+1))+1 by omega];rfl
   ·rw[ah y,ah<|by rw[aI];omega,bP<|by show a+n≠k;omega]
def Ph(a:Nat)(l:fL Keyed)(c:fY Keyed)(h:a+l.length<=c.size):(wb a l.zipIdx c).toList=c.toList.take a++l++c.toList.drop (a+l.length):=by
 refine List.ext_getElem? λk=>?_;rw[aO,BG a l 0 c (by omega) k];have d:(c.toList.take a).length=a:=by rw[bD,aJ];omega
 by_cases z:k<a;·rw[ah<|by omega,aS,aB<|by omega,List.getElem?_take,ae z,aO]
 ·by_cases y:k<a+l.length;·rw[ae<|by omega,aS,av<|by omega,aB<|by omega,d];rfl
  ·rw[ah<|by omega,av<|by rw[aj];omega,List.getElem?_drop,aj,d,aO]
   congr 1;omega
structure Md(sa e:Nat)(p:fY<|Nat×Nat×Nat)(st lC:SortSt):Prop where
 k:kindOf lC=kindOf st
 p:pendingOf lC=p
 f:failedOf lC=none
 pm:(arrOf lC).Perm (arrOf st)
 ot:∀k,k<sa\/e<=k->(arrOf lC)[k]?=(arrOf st)[k]?
def Pf{st a:SortSt}{Q:PUnit->SortSt->Prop}(h:Q ⟨⟩ a):wpS M A E s (set a:StateT SortSt Sem PUnit) Q st:=by unfold wpS;rw[StateT.run_set];exact aG ⟨rfl,h⟩
def Pb(C:ny M A E s F S r){st:SortSt}{i a f pw G J3:Nat}{Q:f5->SortSt->Prop}(ks:kindOf st=F)(al:Al S<|arrOf st)(fl:failedOf st=none)
    (e1:(pendingOf st)[i]?=some (a,f,pw))(e2:(pendingOf st)[i+1]?=some (a+f,G,J3))(hz:a+f+G<=(arrOf st).size)(h1:1<=f)(h2:1<=G)
    (Y:Seg r (arrOf st) a<|a+f)(T:Seg r (arrOf st) (a+f)<|a+f+G)
    (h:∀o,Md a (a+f+G) (((pendingOf st).setIfInBounds i (a,f+G,pw)).eraseIdxIfInBounds (i+1)) st o->Seg r (arrOf o) a (a+f+G)->Q true o):
    wpS M A E s ((sortPriv%PySem.Builtin.mergeAt) i) Q st:=by
 obtain⟨q,e3,e4⟩:=at_of (r:=r) (xs:=arrOf st) (i:=a+f) (by omega);refine ak (d7 ?_);rw[e1,e2];refine ak (Pf ?_);refine ak (jb e3<|ak<|pM (arr:=arrOf st) (base:=a) (n:=f) C al (al _ _ e3) ks (by omega) (by omega) Y _ (λ_=>rfl) λk hk k1 k2=>?_);have a1:∀x,a<=x->x<a+k->rk r (arrOf st) x<=rk r (arrOf st) (a+f):=λx b1 I=>by have:=k1 (x - a) (by omega);rw[show a+(x - a)=x by omega,<-e4]at this;exact aX this
 have a2:∀x,a+k<=x->x<a+f->rk r (arrOf st) (a+f)<rk r (arrOf st) x:=λx b1 I=>by have:=k2 (x - a) (by omega) (by omega);rw[show a+(x - a)=x by omega,<-e4]at this;have:=aW this;omega
 clear k1 k2;by_cases z:f - k=0
 ·refine(a9 (λm=>wpS M A E s m Q _)<|jq z).mpr (aw<|h _ ⟨rfl,rfl,fl,.refl _,λ_ _=>rfl⟩ λx y b1 I b3=>?_);show rk r (arrOf st) x<=rk r (arrOf st) y;by_cases y1:y<a+f;·exact Y x y b1 I y1
  ·by_cases x1:x<a+f
   ·have:=a1 x b1 (by omega);have:=T (a+f) y (by omega) (by omega) b3;omega
   ·exact T x y (by omega) I b3
 refine(a9 (λm=>wpS M A E s m Q _)<|jh z).mpr ?_;obtain⟨t,e5,e6⟩:=at_of (r:=r) (xs:=arrOf st) (i:=a+k+(f - k) - 1) (by omega);refine ak (jb e5<|ak<|pM (arr:=arrOf st) (base:=a+f) (n:=G) C al (al _ _ e5) ks hz (by omega) T _ (λ_=>rfl) λv hv k1 k2=>?_);rw[show a+k+(f - k) - 1=a+f - 1 by omega]at e5 e6;have b1:∀x,a+f<=x->x<a+f+v->rk r (arrOf st) x<rk r (arrOf st) (a+f - 1):=λx b1 I=>by have:=k1 (x - (a+f)) (by omega);rw[show a+f+(x - (a+f))=x by omega,<-e6]at this;exact aX this
 have I:∀x,a+f+v<=x->x<a+f+G->rk r (arrOf st) (a+f - 1)<=rk r (arrOf st) x:=λx b1 I=>by have:=k2 (x - (a+f)) (by omega) (by omega);rw[show a+f+(x - (a+f))=x by omega,<-e6]at this;have:=aW this;omega
 clear k1 k2;have F5:v≠0:=λe=>by have:=I (a+f) (by omega) (by omega);have:=a2 (a+f - 1) (by omega) (by omega);omega
 refine(a9 (λm=>wpS M A E s m Q _)<|jh F5).mpr ?_
 have ex:∀{u w:Nat},w<=(arrOf st).size->∀j,j<w - u->((arrOf st).extract u w)[j]?=(arrOf st)[u+j]?:=λ{u w} hw j hj=>by rw[fh,ae<|by omega]
 have zx:((arrOf st).extract (a+k) (a+f)).size=f - k:=by rw[Array.size_extract];omega
 have zy:((arrOf st).extract (a+f) (a+f+v)).size=v:=by rw[Array.size_extract];omega
 have rx:∀j,j<f - k->rk r ((arrOf st).extract (a+k) (a+f)) j=rk r (arrOf st) (a+k+j):=λj hj=>ly (ex (by omega) j<|by omega);have Z:∀j,j<v->rk r ((arrOf st).extract (a+f) (a+f+v)) j=rk r (arrOf st) (a+f+j):=λj hj=>ly (ex (by omega) j<|by omega);have N:∀{u w:Nat},Al S ((arrOf st).extract u w):=λ{u w} j p e=>by
  rw[fh]at e;split at e;·exact al _ _ e
  ·cases e
 have fin:∀(l:fY Keyed) (o:SortSt),Gc (SortSt.mk' (kindOf st) (arrOf st) (((pendingOf st).setIfInBounds i (a,f+G,pw)).eraseIdxIfInBounds (i+1)) (gallopOf st) (failedOf st)) o->kM r ((arrOf st).extract (a+k) (a+f)) ((arrOf st).extract (a+f) (a+f+v)) l->wpS M A E s (do
  modify λs=>SortSt.mk' (kindOf s) (wb (a+k) l.toList.zipIdx<|arrOf s) (pendingOf s) (gallopOf s) (failedOf s)
  let s'<-get
  pure (failedOf s').isNone) Q o:=λl o g ok=>by
  obtain⟨g1,g2,g3,g4⟩:=g;have g2:arrOf o=arrOf st:=g2;have hf:failedOf o=none:=g4.trans fl;have O:l.toList.length=f - k+v:=by rw[ok.1.length_eq,aj,aJ,aJ,zx,zy]
  have R:∀j,(wb (a+k) l.toList.zipIdx<|arrOf st)[j]?=if a+k<=j/\j<a+f+v then l[j - (a+k)]? else(arrOf st)[j]?:=λj=>by
   have:=BG (a+k) l.toList 0 (arrOf st) (by omega) j;rw[this,aO];by_cases c:a+k<=j/\j<a+f+v;·rw[ae c,ae<|by omega];rfl
   ·rw[ah c,ah<|by omega]
  have mem:∀j,j<l.size->rk r (arrOf st) (a+f)<=rk r l j/\rk r l j<=rk r (arrOf st) (a+f - 1):=λj hj=>by
   obtain⟨p,c1,V⟩:=at_of (r:=r) hj;have U:p∈l.toList:=cT.mpr ⟨j,by rw[aO];exact c1⟩;rw[V];rcases bf.mp (ok.1.mem_iff.mp U)with U|U
   ·obtain⟨t,d1,d2,d3⟩:=nU (r:=r) (i:=0) U;rw[zx]at d2;rw[<-d3,rx t d2];have:=a2 (a+k+t) (by omega) (by omega);have:=Y (a+k+t) (a+f - 1) (by omega) (by omega) (by omega);omega
   ·obtain⟨t,d1,d2,d3⟩:=nU (r:=r) (i:=0) U;rw[zy]at d2;rw[<-d3,Z t d2];have:=b1 (a+f+t) (by omega) (by omega);have:=T (a+f) (a+f+t) (by omega) (by omega) (by omega);omega
  have QN:l.size=f - k+v:=by rw[<-aJ];exact O
  refine ak (el<|ak<|d7<|aw ?_);have Fy:(failedOf o).isNone=true:=by rw[hf];rfl
  refine Fy.symm▸?_;refine h _ ⟨g1,g3,hf,?_,λj hj=>?_⟩ λx y c1 V J=>?_
  ·show(wb (a+k) l.toList.zipIdx<|arrOf o).Perm (arrOf st);rw[g2];refine bz.mpr ?_;rw[Ph _ _ _<|by omega];have e:(arrOf st).toList=(arrOf st).toList.take (a+k)++(((arrOf st).extract (a+k) (a+f)).toList++((arrOf st).extract (a+f) (a+f+v)).toList)++(arrOf st).toList.drop (a+k+l.toList.length):=by
    rw[oQ,oQ,O];generalize(arrOf st).toList=L;have q1:(L.take<|a+f).drop (a+k)++(L.take<|a+f+v).drop (a+f)=(L.take<|a+f+v).drop (a+k):=by
     have q2:L.take (a+f)=(L.take<|a+f+v).take (a+f):=by rw[List.take_take];congr 1;omega
     rw[q2,eo];have:=cq (a+f - (a+k)) ((L.take<|a+f+v).drop (a+k));rw[List.drop_drop,show a+k+(a+f - (a+k))=a+f by omega]at this;exact this
    have q3:L.take (a+k)=(L.take<|a+f+v).take (a+k):=by rw[List.take_take];congr 1;omega
    rw[q1,q3,cq,show a+k+(f - k+v)=a+f+v by omega,cq]
   refine List.Perm.trans ?_ (List.Perm.of_eq e.symm);exact(ok.1.append_left _).append_right _
  ·show(wb (a+k) l.toList.zipIdx<|arrOf o)[j]?=_;rw[g2,R,ah<|by omega]
  ·show rk r (wb (a+k) l.toList.zipIdx<|arrOf o) x<=rk r (wb (a+k) l.toList.zipIdx<|arrOf o) y;rw[g2];have P:∀j,a+k<=j->j<a+f+v->rk r (wb (a+k) l.toList.zipIdx<|arrOf st) j=rk r l (j - (a+k)):=λj d1 d2=>ly (by rw[R,ae ⟨d1,d2⟩]);have D:∀j,¬(a+k<=j/\j<a+f+v)->rk r (wb (a+k) l.toList.zipIdx<|arrOf st) j=rk r (arrOf st) j:=λj d=>ly (by rw[R,ah d]);have so:∀i j,i<=j->j<l.size->rk r l i<=rk r l j:=λi j d1 d2=>by
    by_cases z:i=j;·rw[z];exact af _
    have:=bQ.mp ok.2 i j (by rw[aJ];omega) (by rw[aJ];omega) (by omega);unfold rk;rw[c8 l i<|by omega,c8 l j d2];exact this
   have U:rk r (arrOf st) (a+f)<=rk r (arrOf st) (a+f - 1):=bI (a2 _ (by omega)<|by omega);by_cases x1:x<a+k
   ·rw[D x<|by omega];by_cases y1:y<a+k;·rw[D y<|by omega];exact Y x y c1 V (by omega)
    ·have:=a1 x c1 x1;by_cases y2:y<a+f+v
     ·rw[P y (by omega) y2];have:=(mem (y - (a+k))<|by omega).1;omega
     ·rw[D y<|by omega];have:=I y (by omega) J;omega
   ·by_cases x2:x<a+f+v
    ·rw[P x (by omega) x2];by_cases y2:y<a+f+v;·rw[P y (by omega) y2];exact so _ _ (by omega) (by omega)
     ·rw[D y<|by omega];have:=I y (by omega) J;have:=(mem (x - (a+k))<|by omega).2;omega
    ·rw[D x<|by omega,D y<|by omega];exact T x y (by omega) V J
 have sx:Seg r ((arrOf st).extract (a+k) (a+f)) 0 ((arrOf st).extract (a+k) (a+f)).size:=λx y _ V J=>by rw[zx]at J;rw[rx x<|by omega,rx y J];exact Y _ _ (by omega) (by omega) (by omega)
 have sy:Seg r ((arrOf st).extract (a+f) (a+f+v)) 0 ((arrOf st).extract (a+f) (a+f+v)).size:=λx y _ V J=>by rw[zy]at J;rw[Z x<|by omega,Z y J];exact T _ _ (by omega) (by omega) (by omega)
 have l1:rk r ((arrOf st).extract (a+f) (a+f+v)) 0<=rk r ((arrOf st).extract (a+k) (a+f)) 0:=by rw[Z 0<|by omega,rx 0<|by omega];exact bI (a2 _ (by omega)<|by omega)
 have l2:rk r ((arrOf st).extract (a+f) (a+f+v)) (((arrOf st).extract (a+f) (a+f+v)).size - 1)<=rk r ((arrOf st).extract (a+k) (a+f)) (((arrOf st).extract (a+k) (a+f)).size - 1):=by rw[zx,zy,Z _<|by omega,rx _<|by omega,show a+k+(f - k - 1)=a+f - 1 by omega];exact bI (b1 _ (by omega)<|by omega)
 have n1:1<=((arrOf st).extract (a+k) (a+f)).size:=by omega
 have n2:1<=((arrOf st).extract (a+f) (a+f+v)).size:=by omega
 by_cases w:f - k<=v;·refine(a9 (λm=>wpS M A E s m Q _)<|ae w).mpr (ak<|Pd C ks N N sx sy n1 n2 l1 l2 fin)
 ·refine(a9 (λm=>wpS M A E s m Q _)<|ah w).mpr (ak<|Pc C ks N N sx sy n1 n2 l1 l2 fin)
variable{M:Model}{A:gz}{E:gE}{s:fS}{F:SortKind}{S:Keyed->Prop}{r:Keyed->Nat}
def iA(r:Keyed->Nat)(a:fY Keyed):Nat->fL (Nat×Nat×Nat)->Nat->Prop
 |b,[],e=>b=e
 |b,t::l,e=>t.1=b/\1<=t.2.1/\Seg r a b (b+t.2.1)/\iA r a (b+t.2.1) l e
section
variable{v x:fY Keyed}{b e:Nat}{l y:fL<|Nat×Nat×Nat}
def iA.le(h:iA r v b l e):b+l.length<=e:=by
 induction l generalizing b with
 |nil=>exact fg h
 |cons t l a=>have:=a h.2.2.2;have:=h.2.1;rw[aI];omega
def xc:iA r v b (l++y) e↔∃m,iA r v b l m/\iA r v m y e:=by
 induction l generalizing b with
 |nil=>exact⟨λh=>⟨b,rfl,h⟩,λ⟨m,c,a⟩=>by cases c;exact a⟩
 |cons t l i=>exact⟨λ⟨c,a,f,d⟩=>let⟨m,p,q⟩:=i.mp d;⟨m,⟨c,a,f,p⟩,q⟩,λ⟨m,⟨c,a,f,d⟩,q⟩=>⟨c,a,f,i.mpr ⟨m,d,q⟩⟩⟩
def Seg.cg{lo a:Nat}(h:Seg r v lo a)(c:∀k,lo<=k->k<a->x[k]?=v[k]?):Seg r x lo a:=λi j f m d=>by rw[ly<|c i f<|by omega,ly<|c j (by omega) d];exact h i j f m d
def iA.cg(h:iA r v b l e)(c:∀k,b<=k->k<e->x[k]?=v[k]?):iA r x b l e:=by
 induction l generalizing b with
 |nil=>exact h
 |cons t l f=>have:=h.2.2.2.le;exact⟨h.1,h.2.1,h.2.2.1.cg λk d a=>c k d<|by omega,f h.2.2.2 λk d a=>c k (by omega) a⟩
def iA.mod{k:Nat}{f:Nat×Nat×Nat->Nat×Nat×Nat}(hf:∀t,(f t).1=t.1/\(f t).2.1=t.2.1)(h:iA r v b l e):iA r v b (l.modify k f) e:=by
 induction l generalizing b k with
 |nil=>rw[List.modify_nil];exact h
 |cons t l j=>
  obtain⟨i,d,c,a⟩:=h;cases k with
  |zero=>rw[List.modify_zero_cons];refine⟨(hf t).1.trans i,?_⟩;rw[(hf t).2];exact⟨d,c,a⟩
  |succ k=>rw[List.modify_succ_cons];exact⟨i,d,c,j a⟩
end
structure Bs(F:SortKind)(S:Keyed->Prop)(a₀:fY Keyed)(st:SortSt):Prop where
 k:kindOf st=F
 f:failedOf st=none
 pm:(arrOf st).Perm a₀
 al:Al S (arrOf st)
def Bs.mv{a:fY Keyed}{st c:SortSt}{lo:Nat}(h:Bs F S a st)(m:Mv lo st c):Bs F S a c:=⟨m.k.trans h.k,m.f.trans h.f,m.pm.trans h.pm,m.al h.al⟩
def Gk{c:Prop}[Decidable c]{n:Nat}(h:¬n<=1):(if c then n - 2 - 1 else n - 2)+1<n:=by split<;>omega
def GB{c a:Type}{I P:c->a->Prop}{G:Prop}(h:(∀x y,I x y->P x y)->G)(K:∀x y,I x y->P x y):G:=h K
section
variable(C:ny M A E s F S r){f:fY Keyed}
include C
theorem BF{st:SortSt}{i lo:Nat}{Q:f5->SortSt->Prop}(B:Bs F S f st)(k:iA r (arrOf st) 0 (pendingOf st).toList lo)(hl:lo<=f.size)(hi:i+1<(pendingOf st).size)
 (h:∀a,Bs F S f a->(pendingOf a).size+1=(pendingOf st).size->iA r (arrOf a) 0 (pendingOf a).toList lo->(∀k,lo<=k->(arrOf a)[k]?=(arrOf st)[k]?)->Q true a):
 wpS M A E s ((sortPriv%PySem.Builtin.mergeAt) i) Q st:=by
 have Y:=B.pm.size_eq;have N:(pendingOf st).toList.length=(pendingOf st).size:=aJ;obtain⟨l,x,y,t,j,n⟩:∃l x y t,(pendingOf st).toList=l++x::y::t/\l.length=i:=by generalize(pendingOf st).toList=L at N;exact⟨L.take i,L[i]'(by omega),L[i+1]'(by omega),L.drop (i+1+1),by rw[<-bj,<-bj,cq],by rw[bD];omega⟩
 rw[j]at k;obtain⟨m,V,J,I,G,D,z,w,u⟩:=xc.mp k;have g1:(pendingOf st)[i]?=some x:=by rw[<-aO,j,av<|by omega,n,cy];rfl
 have Z:(pendingOf st)[i+1]?=some y:=by rw[<-aO,j,av<|by omega,n,cG];rfl
 obtain⟨o,q,T⟩:=x;obtain⟨sb,p,R⟩:=y;dsimp only at J I G D z w u;subst J;subst D;have U:=u.le;refine Pb C B.k B.al B.f g1 Z (by omega) I z G w λa d P=>?_;have v:Al S (arrOf a):=by have mv:Mv 0 (SortSt.mk' (kindOf st) (arrOf st) (pendingOf a) (gallopOf st)<|failedOf a) a:=⟨d.k,rfl,rfl,d.pm,λk c=>absurd c<|Nat.not_lt_zero k⟩;exact mv.al B.al
 have O:(pendingOf a).toList=l++(o,q+p,T)::t:=by rw[d.p,Array.toList_eraseIdxIfInBounds,Array.toList_setIfInBounds,j,dF _ _<|by omega,n,cy,List.set_cons_zero,List.eraseIdx_append_of_length_le<|by omega,n,cG];rfl
 refine h a ⟨d.k.trans B.k,d.f,d.pm.trans B.pm,v⟩ ?_ ?_ λk c=>d.ot k (.inr<|by omega);·rw[<-aJ,O,<-N,j];simp only[aj,aI];omega
 ·rw[O];exact xc.mpr ⟨o,V.cg λk _ c=>d.ot k<|.inl c,rfl,by show 1<=q+p;omega,by rw[<-Nat.add_assoc];exact P,by show iA _ _ (o+(q+p)) _ _;rw[<-Nat.add_assoc];exact u.cg λk c _=>d.ot k<|.inr c⟩
theorem Pe{st:SortSt}{Q:Unit->SortSt->Prop}(B:Bs F S f st)(p0:pendingOf st=#[])(h:∀a,Bs F S f a->Seg r (arrOf a) 0 f.size->Q () a):
 wpS M A E s (sortPriv%PySem.Builtin.sortRuns) Q st:=by
 refine ak (d7 ?_);have hsz:(arrOf st).size=f.size:=B.pm.size_eq
 refine ak (ck (bw (I:=λ(x:Nat) (c:fU Unit×Nat) a=>c.1=none/\Bs F S f a/\iA r (arrOf a) 0 (pendingOf a).toList c.2/\c.2<=f.size/\x<=c.2)
  (Q:=λc a=>c.1=none/\Bs F S f a/\iA r (arrOf a) 0 (pendingOf a).toList f.size) ?_ ?_ ⟨rfl,B,by rw[p0];rfl,bo _,af _⟩) ?_)
 ·rintro x ⟨o,lo⟩ V _ D ⟨rfl,B,k,hl,F6⟩
  dsimp only at k hl F6⊢;have D:x<(arrOf st).size:=D;show wpS M A E s (if lo≥(arrOf st).size then _ else _) _ _;rw[hsz]at D⊢;by_cases z:lo≥f.size
  ·rw[ae z];have e:lo=f.size:=by omega
   rw[e]at k;exact aw ⟨rfl,B,k⟩
  ·rw[ah z];have hz:=B.pm.size_eq;refine ak (w_count C B.k B.al (by omega) (by omega) λm d P b1 b2 sg=>?_);dsimp only;apply GB (I:=λ(n:Nat) (q:SortSt)=>Bs F S f q/\iA r (arrOf q) 0 (pendingOf q).toList lo/\Seg r (arrOf q) lo (lo+n)/\1<=n/\lo+n<=f.size)
   ·intro K;have N:iA r (arrOf d) 0 (pendingOf d).toList lo:=by
     rw[P.p];exact k.cg λi _ Y=>P.lw i Y
    by_cases w:m<(sortPriv%PySem.Builtin.minRun) f.size f.size 0
    rotate_left
    ·rw[ah w];have T:Bs F S f d/\iA r (arrOf d) 0 (pendingOf d).toList lo/\Seg r (arrOf d) lo (lo+m)/\1<=m/\lo+m<=f.size:=⟨B.mv P,N,sg,b1,by omega⟩;generalize m=n at T⊢;generalize d=oa at T⊢;exact K n oa T
    ·rw[ae w];refine ak (eV<|cZ ⟨rfl,?_⟩);have QQ:=P.sz;refine ak (Pa C (P.k.trans B.k) (P.al B.al) (by omega) (by omega) sg λp m3 O=>?_);exact K _ p ⟨(B.mv P).mv m3,by show iA _ (arrOf p) _ (pendingOf p).toList _;rw[m3.p];exact N.cg λi _ Y=>m3.lw i Y,O,by show 1<=min _ _;omega,by show lo+min _ _<=_;omega⟩
   clear sg P b1 b2 k
   rintro n p ⟨B3,Z,O,n1,n2⟩
   refine ak (d7 ?_);apply jn (I:=λa:SortSt=>Bs F S f a/\iA r (arrOf a) 0 (pendingOf a).toList lo/\Seg r (arrOf a) lo (lo+n))
   ·intro K;cases q:(pendingOf p).back? with
    |none=>have T:Bs F S f p/\iA r (arrOf p) 0 (pendingOf p).toList lo/\Seg r (arrOf p) lo (lo+n):=⟨B3,Z,O⟩;generalize p=oa at T⊢;exact K oa T
    |some t=>
     obtain⟨s1,QW,w1⟩:=t;dsimp only
     refine ak (ck (bw (I:=λ(x:Nat) (c:fU Unit×Unit) a=>c.1=none/\Bs F S f a/\iA r (arrOf a) 0 (pendingOf a).toList lo/\Seg r (arrOf a) lo (lo+n))
      (Q:=λc a=>c.1=none/\Bs F S f a/\iA r (arrOf a) 0 (pendingOf a).toList lo/\Seg r (arrOf a) lo (lo+n)) ?_ (λ_ _ g=>g) ⟨rfl,B3,Z,O⟩) ?_)
     ·rintro y ⟨o,u⟩ l _ _ ⟨rfl,J,R,G⟩
      refine ak (d7 ?_);by_cases v:(pendingOf l).size>1
      ·obtain⟨t,et⟩:∃t,(pendingOf l)[(pendingOf l).size - 2]?=some t:=⟨_,c8 _ _<|by omega⟩;obtain⟨t1,t2,t3⟩:=t;have e:(if(pendingOf l).size>1 then(pendingOf l)[(pendingOf l).size - 2]? else none)=some (t1,t2,t3):=by rw[ae v,et]
       rw[e];dsimp only;split;·exact aw ⟨rfl,J,R,G⟩
       ·refine ak (BF C J R hl (by show(pendingOf l).size - 2+1<(pendingOf l).size;omega) λBe B5 _ k5 o5=>?_);exact aw ⟨rfl,B5,k5,G.cg λi Y _=>o5 i Y⟩
      ·rw[ah v];exact aw ⟨rfl,J,R,G⟩
     ·rintro ⟨o,u⟩ l ⟨rfl,J,R,G⟩
      refine ak (el<|K _ ⟨⟨J.k,J.f,J.pm,J.al⟩,?_,G⟩);show iA r (arrOf l) 0 ((pendingOf l).modify _ _).toList lo;rw[Array.toList_modify];exact R.mod λt=>⟨rfl,rfl⟩
   rintro l ⟨J,R,G⟩
   refine ak (el<|aw ⟨rfl,⟨J.k,J.f,J.pm,J.al⟩,?_,n2,by show x+1<=lo+n;omega⟩);show iA r (arrOf l) 0 ((pendingOf l).push (lo,n,0)).toList (lo+n);rw[eD];exact xc.mpr ⟨lo,R,rfl,n1,G,rfl⟩
 ·rintro ⟨o,lo⟩ V ⟨rfl,B,k,hl,D⟩
  have D:max 0 (arrOf st).size<=lo:=D;dsimp only at k hl D;have e:lo=f.size:=by omega
  rw[e]at k;exact⟨rfl,B,k⟩
 rintro ⟨o,lo⟩ V ⟨rfl,B1,k1⟩
 have hle:=k1.le;rw[aJ]at hle
 refine ak (ck (bw (I:=λ(x:Nat) (c:fU Unit×Unit) a=>c.1=none/\Bs F S f a/\iA r (arrOf a) 0 (pendingOf a).toList f.size/\(pendingOf a).size+x<=f.size+0)
  (Q:=λc a=>c.1=none/\Bs F S f a/\iA r (arrOf a) 0 (pendingOf a).toList f.size/\(pendingOf a).size<=1) ?_ ?_ ⟨rfl,B1,k1,by omega⟩) ?_)
 ·rintro x ⟨o,u⟩ d _ _ ⟨rfl,U,N,D⟩
  refine ak (d7 ?_);show wpS M A E s (if(pendingOf d).size<=1 then _ else _) _ _;by_cases z:(pendingOf d).size<=1;·rw[ae z];exact aw ⟨rfl,U,N,z⟩
  ·rw[ah z];refine ak (BF C U N (af _) (Gk z) λp B3 p3 Z _=>aw ⟨rfl,B3,Z,by omega⟩)
 ·rintro ⟨o,u⟩ d ⟨rfl,U,N,D⟩
  have D:(pendingOf d).size+max 0 (arrOf st).size<=f.size+0:=D;exact⟨rfl,U,N,by omega⟩
 ·rintro ⟨o,u⟩ d ⟨rfl,U,N,D⟩
  refine aw (h d U ?_);rw[<-aJ]at D;generalize(pendingOf d).toList=L at N D;match L,N,D with
  |[],e,_=>exact λi j _ _ a3=>by rw[<-(show 0=f.size from e)]at a3;omega
  |[t],⟨_,_,g,e⟩,_=>rw[<-(show 0+t.2.1=f.size from e)];exact g
  |_::_::_,_,D=>simp at D
end
end TS
namespace P2
open PySem L2 PySem.Spec PySem.Calls PySem.W
open PyProof.Rows hiding St K
abbrev KP:=Int×fR
def hQ(a b:KP):f5:=if a.1=b.1 then decide (a.2.cps.toList<b.2.cps.toList)else decide (a.1<b.1)
def sI(a:KP):hQ a a=false:=by unfold hQ;rw[ae rfl];exact ax (dw _)
def v3{a b:KP}(d:hQ a b=false)(c:hQ b a=false):a=b:=by
 unfold hQ at d c;by_cases e:a.1=b.1
 ·rw[ae e]at d;rw[ae e.symm]at c;exact Prod.ext e (tw (aW d)<|aW c)
 ·rw[ah e]at d;rw[ah<|b7 e]at c;have:=aW d;have:=aW c;omega
def sJ{a b c:KP}(f:hQ a b=true)(d:hQ b c=true):hQ a c=true:=by
 unfold hQ at*;by_cases e:a.1=b.1
 ·rw[ae e]at f;by_cases h:b.1=c.1
  ·rw[ae h]at d;rw[ae<|e.trans h];exact aE (List.lt_trans (aX f)<|aX d)
  ·rw[ah h]at d;rw[ah<|by omega];exact aE (by have:=aX d;omega)
 ·rw[ah e]at f;have f:=aX f;by_cases h:b.1=c.1;·rw[ah<|by omega];exact aE (by omega)
  ·rw[ah h]at d;have d:=aX d;rw[ah<|by omega];exact aE (by omega)
def zY{a b:KP}(h:hQ a b=true):hQ b a=false:=by
 cases q:hQ b a with
 |false=>rfl
 |true=>have:=sJ h q;rw[sI]at this;cases this
abbrev _root_.lg:=fL KP
def pz(a:lg)(k:KP):Nat:=(a.filter λx=>hQ x k).length
def A0{ks:lg}{a b:KP}(d:a∈ks):decide (pz ks a<pz ks b)=hQ a b:=by
 cases h:hQ a b with
 |true=>exact aE (yS (λx _ c=>sJ c h) d (sI a) h)
 |false=>
  refine ax (fI.mpr<|vd λx _ c=>?_);cases q:hQ b a with
  |true=>exact sJ c q
  |false=>rw[v3 h q];exact c
def jA(h:gc)(u:fN)(k:KP):Prop:=∃a o c n t d r,u=.ref a/\h.get? a=some o/\o.cls=.type "tuple"/\o.data=.seq c n/\c.toList=.int k.1 t::.str k.2 d::r
def jA.keep{u k}(t:jA h u k)(m:∀b o,h.get? b=some o->h'.get? b=some o):jA h' u k:=
 let⟨a,o,c,n,t,d,r,j,i,f⟩:=t;⟨a,o,c,n,t,d,r,j,m a o i,f⟩
def jA.inj{u k c}(x:jA h u k)(y:jA h u c):k=c:=by obtain⟨a,o,w,n,t,A,r,rfl,l,C,j,i⟩:=x;obtain⟨b,p,v,m,u,z,q,e,f,D,d,s⟩:=y;cases e;rw[l]at f;cases f;rw[j]at d;cases d;rw[i]at s;cases k;cases c;simp_all
section
variable{prog:gy}{w:gs}{A:gz}{E:gE}{s:fS}{c fin:f5}{Q:f5->fS->Prop}
def Es{u:fN}{Q:f5->fS->Prop}(h:Q true s):wpAny (model prog w) A (eqBool u u) Q E s:=by unfold eqBool;refine cb ?_;rw[ae<|by simp];exact aa (cZ<|aG h)
theorem zT:∀(r:gq) (i:Nat),Q fin s->KatLex prog w A c fin Q (r.zip r) i s
 |[],i,h=>kat_nil h
 |v::r,i,h=>by rw[bJ];exact kat_cons (Es<|kat_yes<|zT r (i+1) h)
def Fv{u v k d}(x:jA s.heap u k)(y:jA s.heap v d)(I:k=d->u=v)(h:Q (hQ k d) s):wpAny (model prog w) A (keyLt' (tuples' c) u v) Q E s:=by
 obtain⟨a,o,z,n,t,M,r,rfl,F,N,D,C⟩:=x;obtain⟨b,p,J,m,u,L,q,rfl,j,O,i,f⟩:=y;refine kat_lt F D j i ?_;rw[C,f,bJ,bJ];refine kat_cons (eN ?_);by_cases e:k.1=d.1
 ·rw[show(k.1==d.1)=true by simpa using e];refine kat_yes (kat_cons<|eO ?_);by_cases l:k.2=d.2
  ·have G:k=d:=Prod.ext e l;cases I G;rw[F]at j;cases j;rw[D]at i;cases i;rw[C]at f;obtain⟨_,f⟩:=List.cons.inj f;obtain⟨_,f⟩:=List.cons.inj f;subst f;rw[show decide (k.2=d.2)=true by simpa using l];refine kat_yes (zT r _ ?_);rw[show decide (z.size<z.size)=false by simp];rw[G,sI]at h;exact h
  ·rw[show decide (k.2=d.2)=false by simpa using l];refine kat_no (Aq ?_);unfold hQ at h
   rwa [ae e]at h
 ·rw[show(k.1==d.1)=false by simpa using e];refine kat_no (Ao ?_);unfold hQ at h
  rwa [ah e]at h
structure Tr where
 u:fN
 v:fN
 x:V
 d:D
 k:KP
def Az{h k:Type}{f:h->k}{l m:fL k}(p:l.Perm m):∀{T:fL h},T.map f=m->∃d:fL h,d.Perm T/\d.map f=l:=by
 induction p with
 |nil=>
  intro T e;cases T with
  |nil=>exact⟨[],.refl _,rfl⟩
  |cons=>cases e
 |cons x _ v=>
  intro T e;cases T with
  |nil=>cases e
  |cons t T=>injection e with e1 e2;obtain⟨d,p,q⟩:=v e2;exact⟨t::d,p.cons t,by rw[ay,q,e1]⟩
 |swap x y l=>
  intro T e;match T,e with
  |a::b::T,e=>injection e with e1 e2;injection e2 with e2 e3;exact⟨b::a::T,.swap a b T,by rw[ay,ay,e1,e2,e3]⟩
 |trans _ _ j i=>intro T e;obtain⟨C,u,o⟩:=i e;obtain⟨z,r,n⟩:=j o;exact⟨z,r.trans u,n⟩
open Classical in
def qx(h:gc)(u:fN):KP:=if e:∃k,jA h u k then e.choose else(0,Str.empty)
def vK{h u k}(x:jA h u k):qx h u=k:=by have e:∃k,jA h u k:=⟨k,x⟩;unfold qx;rw[dif_pos e];exact jA.inj e.choose_spec x
def xY(T:fL Tr)(z:∀t∈T,jA s.heap t.u t.k)(nd:(T.map (·.k)).Nodup)(h2:2<=T.length):
    ∀B:gz,wpAny (model prog w) B (keyKind' (T.map (·.u)).toArray) (λκ k=>k=s/\wpAny (model prog w) B ((sortRuns').run (SortSt.mk' κ ((T.map (·.u)).toArray.zip (T.map (·.v)).toArray) #[] 7 none)) (λr M=>M=s/\failedOf r.2=none/\
     ∃d:fL Tr,d.Perm T/\(arrOf r.2).map (·.2)=(d.map (·.v)).toArray/\(arrOf r.2).map (·.1)=(d.map (·.u)).toArray/\(d.map (·.k)).Pairwise (λa b=>hQ a b=true)) (λ_ _=>False) s) (λ_ _=>False) s:=by
 intro B;have kt:∀T:fL Tr,(∀t∈T,jA s.heap t.u t.k)->∃fs,KatTups s.heap (T.map (·.u)) fs/\fs.length=T.length/\∀v∈fs,∃i t,v=.int i t:=by
  intro T;induction T with
  |nil=>intro _;exact⟨[],KatTups.nil,rfl,λv hv=>nomatch hv⟩
  |cons t T ih=>
   intro z;obtain⟨fs,Z,f2,Y⟩:=ih λx P=>z x (.tail _ P);obtain⟨a,o,xs,n,t1,t2,r,h1,h2,h3,h4,h5⟩:=z t (.head _);refine⟨.int t.k.1 t1::fs,?_,by simp[f2],λv hv=>?_⟩
   ·rw[ay,h1];refine KatTups.cons h2 h3 h4 ?_ Z;rw[<-aO,h5];rfl
   ·rcases aH.mp hv with rfl|hv;·exact⟨_,_,rfl⟩
    ·exact Y v hv
 obtain⟨fs,Z,f2,Y⟩:=kt T z;refine kat_kind (T:=.type "int") Z (by omega) (λv hv=>?_) (by rfl) ⟨rfl,?_⟩;·obtain⟨i,t,rfl⟩:=Y v hv;exact .now
 have ez:((T.map (·.u)).toArray.zip (T.map (·.v)).toArray)=(T.map λt=>(t.u,t.v)).toArray:=by apply cf.mp;simp only[eU,List.zip_map',bS]
 rw[ez];have hS:∀p:Keyed,p∈T.map (λt=>(t.u,t.v))->∃t∈T,t.u=p.1/\t.v=p.2:=λp F=>by obtain⟨t,u,rfl⟩:=bx.mp F;exact⟨t,u,rfl,rfl⟩
 have J:∀t∈T,∀k∈T,t.k=k.k->t=k:=by intro t u k l e;obtain⟨i,I,rfl⟩:=fG.mp u;obtain⟨j,G,rfl⟩:=fG.mp l;have:i=j:=(eQ (xs:=T.map (·.k)) (h₀:=by simpa using I) (h₁:=by simpa using G) nd).mp (by simpa using e);subst this;rfl
 have C:TS.ny (model prog w) B (λ_ _=>False) s (tuples' true) (λp=>p∈T.map (λt=>(t.u,t.v))) (λp=>pz (T.map (·.k))<|qx s.heap p.1):=by
  intro x y st Q P hy hk R;obtain⟨t,u,e1,e2⟩:=hS x P;obtain⟨k,l,L,QB⟩:=hS y hy;have k1:=z t u;have k2:=z k l;have R:Q (some<|hQ t.k k.k) st:=by rw[<-A0 (ks:=T.map (·.k)) (bx.mpr ⟨t,u,rfl⟩),<-vK k1,<-vK k2,e1,L];exact R
  show wpS _ _ _ _ (lt' x y) Q st;rw[lt'_eq];refine ak (d7 ?_);rw[hk,<-e1,<-L];refine ak (eV<|wpAny_attempt<|Fv k1 k2 (λe=>by rw[J t u k l e]) ⟨rfl,?_⟩);exact aw R
 have B0:TS.Bs (tuples' true) (λp=>p∈T.map (λt=>(t.u,t.v))) (T.map λt=>(t.u,t.v)).toArray (SortSt.mk' (tuples' true) (T.map λt=>(t.u,t.v)).toArray #[] 7 none):=⟨rfl,rfl,Array.Perm.refl _,λi p F=>by have F:(T.map λt=>(t.u,t.v)).toArray[i]?=some p:=F;rw[<-aO]at F;exact cx F⟩
 refine aU (TS.Pe C B0 rfl (Q:=λ_ h=>failedOf h=none/\∃d:fL Tr,d.Perm T/\(arrOf h).map (·.2)=(d.map (·.v)).toArray/\(arrOf h).map (·.1)=(d.map (·.u)).toArray/\(d.map (·.k)).Pairwise (λa b=>hQ a b=true)) λh B1 sg=>⟨B1.f,?_⟩) (λr k q=>q) λ_ _ x=>x;obtain⟨d,D,N⟩:=Az (f:=λt:Tr=>(t.u,t.v)) (bz.mp B1.pm) (T:=T) rfl;have hl:(arrOf h).size=T.length:=by rw[B1.pm.size_eq];simp
 refine⟨d,D,?_,?_,?_⟩;·apply cf.mp;rw[dI,<-N,bS];rfl
 ·apply cf.mp;rw[dI,<-N,bS];rfl
 ·refine bQ.mpr λi j I G V=>?_;rw[ar]at I G;rw[dJ,dJ];have m1:d[i]∈T:=D.mem_iff.mp (cH I);have m2:d[j]∈T:=D.mem_iff.mp (cH G);have gr:∀m (U:m<d.length),TS.rk (λp=>pz (T.map (·.k))<|qx s.heap p.1) (arrOf h) m=pz (T.map (·.k)) d[m].k:=λm U=>by
   unfold TS.rk;rw[<-aO,<-N,aF,aL U];show pz _ (qx s.heap d[m].u)=_;rw[vK<|z _<|D.mem_iff.mp<|cH U]
  have le:=sg i j (bo _) (bI V) (by have:=D.length_eq;simp;omega);rw[gr i I,gr j G]at le;have nb:hQ d[j].k d[i].k=false:=by rw[<-A0 (bx.mpr ⟨_,m2,rfl⟩)];exact ax (fI.mpr le)
  cases q:hQ d[i].k d[j].k with
  |true=>rfl
  |false=>have e:=v3 q nb;have O:(d.map (·.k)).Nodup:=(D.map _).symm.nodup nd;have:=(eQ (xs:=d.map (·.k)) (i:=i) (j:=j) (h₀:=by simpa using I) (h₁:=by simpa using G) O).mp (by simpa using e);omega
end
def oY(x:KP×D):fL (KP×D)->fL (KP×D)
 |[]=>[x]
 |y::r=>if hQ y.1 x.1=true then y::oY x r else x::y::r
def pB(l:fL<|KP×D):fL (KP×D):=l.foldr oY []
theorem vE(x):∀r,(oY x r).Perm (x::r)
 |[]=>.refl _
 |y::r=>by
  unfold oY;split;·exact((vE x r).cons y).trans (.swap x y r)
  ·exact .refl _
theorem tx:∀l,(pB l).Perm l
 |[]=>.refl _
 |d::r=>(vE d<|pB r).trans ((tx r).cons d)
def ov(l:fL<|KP×D):Prop:=l.Pairwise λa b=>hQ a.1 b.1=true
theorem zw{x}:∀{r},(∀y∈r,y.1≠x.1)->ov r->ov (oY x r)
 |[],_,_=>cE ..
 |y::r,i,h=>by
  obtain⟨j,l⟩:=aV.mp h;unfold oY;split
  ·rename_i lt;refine aV.mpr ⟨λz a=>?_,zw (λd k=>i d<|.tail _ k) l⟩;rcases aH.mp ((vE x r).mem_iff.mp a)with rfl|a;·exact lt
   ·exact j z a
  ·rename_i lt;have c:hQ y.1 x.1=false:=by simpa using lt
   have f:hQ x.1 y.1=true:=by
    cases q:hQ x.1 y.1 with
    |true=>rfl
    |false=>exact absurd (v3 c q) (i y<|.head _)
   refine aV.mpr ⟨λz a=>?_,h⟩;rcases aH.mp a with rfl|a;·exact f
   ·exact sJ f (j z a)
theorem w4:∀{l},(l.map (·.1)).Nodup->ov (pB l)
 |[],_=>.nil
 |d::r,h=>by rw[ay,bB]at h;exact zw (λy a e=>h.1<|bx.mpr ⟨y,(tx r).mem_iff.mp a,e⟩) (w4 h.2)
def Nd{a b:fL<|KP×D}(h:a.Perm b)(f:ov a)(d:ov b):a=b:=
 df (λx y _ _ i c=>by rw[zY i]at c;cases c) f d h
def NU{l a}(p:a.Perm l)(h:ov a):pB l=a:=by refine Nd ((tx l).trans p.symm) (w4 ?_) h;refine(p.map _).nodup ?_;refine bG.mpr (h.imp λ{x y} h e=>?_);rw[e,sI]at h;cases h
def kk:D->fU KP
 |.tup (.int i::.str x::_)=>some (i,x)
 |_=>none
abbrev _root_.qe:=D->fU KP
def j5(a:qe):fL D->fU (fL KP)
 |[]=>some []
 |d::r=>match a d,j5 a r with
  |some k,some c=>some (k::c)
  |_,_=>none
def jV(a:lg)(c:gx):fL D:=(pB<|a.zip c).map Prod.snd
def k4(c:qe):D->R (fL D)
 |.lst ds=>(match j5 c ds with
  |some a=>if a.Nodup then .ok (jV a ds)else .bad
  |none=>.bad)
 |_=>.bad
def vM{a}{d:D}{r:gx}{c}(h:j5 a (d::r)=some c):∃k l,c=k::l/\a d=some k/\j5 a r=some l:=by
 unfold j5 at h;split at h;·rename_i k l i f;cases h;exact⟨k,l,rfl,i,f⟩
 ·cases h
def Ft{d:D}{k}(h:kk d=some k):∃r,d=.tup (.int k.1::.str k.2::r):=by
 unfold kk at h;split at h;·cases h;exact⟨_,rfl⟩
 ·cases h
section
variable{X:Cx}{E:XK}{e:f6}{A:TE}{f:gf}{C m:Pos}{al:gL}{H:Hp}{j:gp}{y:L2.St}{s:fS}
def zf(I:Inv X j y H s){a:fO}{i:Int}{x:fR}{r:fL V}(h:jC X.K H a<|.int i::.str x::r):jA s.heap (.ref a) (i,x):=by
 obtain⟨l,q,⟨o,v,u,n,p⟩,_⟩:=I.tuple h;cases q with
 |cons k q=>
  cases q with
  |cons d q=>obtain⟨t,rfl⟩:=k;obtain⟨c,rfl⟩:=d;exact⟨a,o,_,n,t,c,_,rfl,v,u,p,rfl⟩
structure ro(K:fZ)(al:gL)(H:Hp)(t:Tr):Prop where
 v:RelV t.x t.v
 d:Rep K al H t.x t.d
def OL(I:Inv X j y H s):∀{p:gx} {n:fL V} {o:gq} {w:lg},fX X.K al H n p->Vals n o->j5 kk p=some w->
    ∃T:fL Tr,T.map (·.u)=o/\T.map (·.v)=o/\T.map (·.x)=n/\T.map (λt=>(t.k,t.d))=w.zip p/\T.map (·.k)=w/\(∀t∈T,jA s.heap t.u t.k)/\∀t∈T,ro X.K al H t:=by
 intro p;induction p with
 |nil=>intro n o w r v h;cases r;cases v;cases h;exact⟨[],rfl,rfl,rfl,rfl,rfl,λ_ h=>(nomatch h),λ_ h=>(nomatch h)⟩
 |cons d p G=>
  intro n o w r v h;cases r with
  |cons a b=>
   cases v with
   |cons hv J=>
    obtain⟨k,l,rfl,M,L⟩:=vM h;obtain⟨T,Z,Y,U,R,Q,P,O⟩:=G b J L;rename_i x n u o;refine⟨⟨u,u,x,d,k⟩::T,by rw[ay,Z],by rw[ay,Y],by rw[ay,U],by rw[ay,R,bJ],by rw[ay,Q],λt i=>?_,λt i=>?_⟩
    ·rcases aH.mp i with rfl|i
     ·obtain⟨q,rfl⟩:=Ft M;obtain⟨c,ws,rfl,N,F⟩:=a.l5;obtain rfl:u=.ref c:=hv;cases F with
      |cons F z=>
       cases z with
       |cons z g4=>cases F;cases z;exact zf I N
     ·exact P t i
    ·rcases aH.mp i with rfl|i;·exact⟨hv,a⟩
     ·exact O t i
def Br{T c:fL Tr}{h:lg}{k:gx}(p:c.Perm T)(o:∀t∈T,ro X.K al H t)(e:T.map (λt=>(t.k,t.d))=h.zip k)(w:(c.map (·.k)).Pairwise (λa b=>hQ a b=true)):
    Vals (c.map (·.x)) (c.map (·.v))/\fX X.K al H (c.map (·.x)) (jV h k):=by
 have d:∀t∈c,ro X.K al H t:=λt i=>o t (p.mem_iff.mp i);have l:pB (h.zip k)=c.map (λt=>(t.k,t.d)):=by refine NU (by rw[<-e];exact p.map _) ?_;exact bG.mpr (bG.mp w)
 unfold jV;rw[l,bS];clear l w p e o;induction c with
 |nil=>exact⟨.nil,.nil⟩
 |cons t c n=>obtain⟨a,b⟩:=n λt i=>d t (.tail _ i);exact⟨.cons (d t<|.head _).v a,.cons (d t<|.head _).d b⟩
def Ju(he:PE X e A)(hg:Gl X "sorted")(hm:X.mg "sorted"=none)
 (hs:X.se e [])(hpl:X.bk m []):
   PE X (.Call (.Name "sorted" C) [e] [] m) (λy H Q=>A y H λx0 i=>∃x,[x0]=[x]/\∃l L n al o,x=.ref l/\iF X.K i l L/\fX X.K al i L n/\j5 kk n=some o/\o.Nodup/\∀p c,i p=none->fX X.K al i c (jV o n)->Q (.ref p) (upd i p<|.lst c)):=by
  intro j s y H Q I h;refine cj (mn I hg hm uI ?_ (by decide) (by decide));have uh:PA X [e] (tH A tI):=mU he mV hs;refine cB (gi (uh m j s y H (λN i=>∃x,N=[x]/\∃(l:fO) (L:fL V) (n:gx) (al:gL) (o:lg),x=.ref l/\iF X.K i l L/\fX X.K al i L n/\j5 kk n=some o/\o.Nodup/\∀p c,i p=none->fX X.K al i c (jV o n)->Q (.ref p) (upd i p<|.lst c)) I h) λus J F0=>?_) hs hpl;obtain⟨N,i,U,r1,q1⟩:=F0;obtain⟨x,rfl,l,L,n,al,o,rfl,hl,Z,F,hn,q⟩:=q1;obtain⟨u,rfl,ru⟩:=vals1 r1;obtain rfl:u=Value.ref l:=ru;obtain⟨z,Y,pl,hz⟩:=U.list hl;have hle:=Y.length;have O:=Z.length;obtain⟨T,e1,e2,e3,e4,e5,e6,e7⟩:=OL U Z Y F;have P:∀(out:lL) (c:fL V),out.size=z.length->Vals c out.toList->fX X.K al i c (jV o n)->∃v H',Inv X j y H' {J with heap:=sortedAll J.heap z out}/\RelV v (.ref<|J.heap.objs.size+1)/\Q v H':=λout c ho R M=>by
   obtain⟨ep,he⟩:=sortedAll_at J.heap z out;have lw:c.length<=sizeLine:=by have:=R.length;simp only[aJ]at this;simp_all
   have I2:Inv X j y (upd i (J.heap.objs.size+1)<|.lst c) {J with heap:=sortedAll J.heap z out}:=
    U.laid (t':=J.toks) (λb u e=>sortedAll_old e) (cJ _) (show iy X.prog X.w _ _ _ (.lst c)from⟨lw,out.toList,ep,R,by rw[dP];exact he⟩)
   exact⟨.ref _,_,I2,rfl,q _ c (U.hok.fresh<|cJ _) M⟩
  refine Ba (G:=λout=>∃c,Vals c out.toList/\fX X.K al i c (jV o n)) pl.isList (by simp_all) (λh2=>⟨L,by simpa using Y,?_⟩) (λh2 t kp B=>?_) λout ho hG=>?_
  ·have:jV o n=n:=by
    match n,O,F with
    |[],_,F=>cases F;rfl
    |[d],_,F=>obtain⟨k,l,rfl,_,h⟩:=vM F;cases h;rfl
    |_::_::r,w,_=>simp at w;omega
   rw[this];exact Z
  ·have:=xY (prog:=X.prog) (w:=X.w) (s:=t) T (λx hx=>(e6 x hx).keep kp) (by rw[e5];exact hn) (by rw[<-e1]at h2;simpa using h2) B;rw[e1,e2]at this;refine aU this (λκ t' F=>⟨F.1,aU F.2 (λr N7 M=>⟨M.1,M.2.1,?_⟩) λ_ _ x=>x⟩) λ_ _ x=>x;obtain⟨T',g1,g2,_,g3⟩:=M.2.2;obtain⟨a,b⟩:=Br g1 e7 e4 g3;rw[g2];refine⟨?_,_,a,b⟩;have:=g1.length_eq;have:T.length=z.length:=by rw[<-e1];simp
   simp;omega
  ·obtain⟨c,R,M⟩:=hG;exact P out c ho R M
def yE(I:Gl X "sorted")(D:X.mg "sorted"=none)(J:DE X E e f)
 (w:X.se e [])(d:X.bk m []):
   DN X E (.Call (.Name "sorted" C) [e] [] m) (λρ=>(f ρ).bind (k4 kk)):=by
  obtain⟨t,p,r⟩:=J;refine⟨_,Ju p I D w d,λ{_ _ al _ _ _ _} s h=>r s<|Aft.mono (Aft.split h) λ{_ i} M a v o=>⟨v,rfl,?_⟩⟩;unfold k4 at a;split at a
  ·rename_i L;split at a
   ·rename_i q G;split at a
    ·rename_i z;obtain⟨l,n,rfl,F,c⟩:=o.lZ;exact⟨l,n,L,al,q,rfl,F,c,G,z,λp k x u=>a i (.refl i) p k x u⟩
    ·exact a.elim
   ·exact a.elim
  ·exact a.elim
end
variable{X:Cx}{F:gp}{M:L2.St}{H:Hp}{s:fS}
def Inv.adopt{a:fO}{o:HO}(I:Inv X F M H s)(f:jO X F H a)(new:iy X.prog X.w (upd H a o) s.heap a o):Inv X F M (upd H a o) s:=by
 have ne:∀b u,H b=some u->b≠a:=λb u e=>iW e f.1;have d:∀b u,H b=some u->upd H a o b=some u:=λb u e=>by rw[gj<|ne b u e];exact e
 refine I.step (g':=s.gens) (d':=s.drawn) (t':=s.toks) (h':=s.heap) (ch:=[a]) (λb k=>?_) (λb o _ _ _ e _=>e) (λb o _ _ _ e _=>⟨o.slots,e⟩) (λb o j _ n=>?_) (λb o _ e=>⟨o,e⟩) (λb i e=>d b _ e) (λb o u e=>d b _ e) (λb l e=>⟨#[],by rw[d b _ e,Array.append_empty]⟩) (λm h=>h) (λb u e=>?_) I.bare
 ·have e:b=a:=by simpa using k
  subst e;exact⟨f.2.2.2.1,f.2.1,f.2.2.2.2.1,f.2.2.2.2.2⟩
 ·rw[gj λz=>j<|by simp[z]];exact n
 ·by_cases z:b=a
  ·subst z;rw[hD]at e;cases e;exact new
  ·rw[gj z]at e;exact(I.hok b u e).ng (λc v _ q=>q) (λc q=>d c _ q) λc i q=>d c _ q
def lH(K:fZ)(al:gL)(H:Hp)(u:fN)(k:KP):Prop:=∃x,RelV x u/\Rep K al H x (.tup [.int k.1,.str k.2])
def lH.up{K:fZ}{al:gL}{H H':Hp}{u k}(h:lH K al H u k)(m:gF K H H'):lH K al H' u k:=let⟨x,c,a⟩:=h;⟨x,c,a.up m⟩
def lH.head{al:gL}{u k}(h:lH X.K al H u k)(I:Inv X F M H s):jA s.heap u k:=by
 obtain⟨x,i,f⟩:=h;obtain⟨c,l,rfl,j,d⟩:=f.l5;obtain rfl:u=.ref c:=i;cases d with
 |cons d a=>
  cases a with
  |cons a m=>cases d;cases a;exact zf I j
inductive j0(K:W.Frag)(al:Addr->Prop)(H:Hp):List Value->List KP->Prop
 |nil:j0 K al H [] []
 |cons {u:Value} {k:KP} {us:List Value} {ks:List KP}:lH K al H u k->j0 K al H us ks->j0 K al H (u::us) (k::ks)
def j0.up{K:fZ}{al:gL}{H H':Hp}{c d}(h:j0 K al H c d)(m:gF K H H'):j0 K al H' c d:=by
 induction h with
 |nil=>exact .nil
 |cons a _ f=>exact .cons (a.up m) f
def j0.snoc{K:fZ}{al:gL}{H:Hp}{c d u k}(h:j0 K al H c d)(x:lH K al H u k):j0 K al H (c++[u]) (d++[k]):=by
 induction h with
 |nil=>exact .cons x .nil
 |cons a _ f=>exact .cons a f
def j0.len{K:fZ}{al:gL}{H:Hp}{a c}(h:j0 K al H a c):a.length=c.length:=by
 induction h with
 |nil=>rfl
 |cons _ _ d=>simp_all
def OM{al:gL}(I:Inv X F M H s){n:gq}{l:lg}(h:j0 X.K al H n l):∀{j:fL V} {c:gq} {i:gx},fX X.K al H j i->Vals j c->i.length=l.length->
    ∃T:fL Tr,T.map (·.u)=n/\T.map (·.v)=c/\T.map (·.x)=j/\T.map (λt=>(t.k,t.d))=l.zip i/\T.map (·.k)=l/\(∀t∈T,jA s.heap t.u t.k)/\∀t∈T,ro X.K al H t:=by
 induction h with
 |nil=>
  intro j c i r v m;cases r with
  |cons=>cases m
  |nil=>cases v;exact⟨[],rfl,rfl,rfl,rfl,rfl,λ_ h=>(nomatch h),λ_ h=>(nomatch h)⟩
 |cons a _ z=>
  intro j c i r v m;cases r with
  |nil=>cases m
  |cons y q=>
   cases v with
   |cons p o=>
    obtain⟨T,O,N,L,J,G,C,A⟩:=z q o (by simpa using m);rename_i u k n l _ x d _ i w _;refine⟨⟨u,w,x,d,k⟩::T,by rw[ay,O],by rw[ay,N],by rw[ay,L],by rw[ay,J,bJ],by rw[ay,G],λt f=>?_,λt f=>?_⟩
    ·rcases aH.mp f with rfl|f;·exact a.head I
     ·exact C t f
    ·rcases aH.mp f with rfl|f;·exact⟨p,y⟩
     ·exact A t f
variable{f l a:fO}{L:fL V}{J:gx}{N:Hp}{al:gL}{ks:lg}
def GS{c:gq}{n:Nat}{P:PySem.Fin->fS->Prop}{E:gE}{A:gz}(I0:Inv X F M N s)(fa:jO X F N a)(ha:s.heap.get? a=some (seqObj "list" c.toArray n))(rv:fX X.K al N L J)(vv:Vals L c)(hz:c.length<=sizeLine)(hl:J.length=ks.length)(nd:ks.Nodup)
    (turn:∀(i:Nat) (v:V) (u:fN) (k:KP) (y:gp) (s:fS) (H:Hp),L[i]?=some v->RelV v u->ks[i]?=some k->gF X.K N H->Inv X y M H s->
      wpAny (model X.prog X.w) A (call (.ref f) [u]) (λr d=>∃H',lH X.K al H' r k/\gF X.K H H'/\Inv X y M H' d) (λ_ _=>False) s)
    (h:∀H' d ws,gF X.K N H'->H' a=none->fX X.K al H' ws (jV ks J)->Inv X F M (upd H' a<|.lst ws) d->P (.done<|.ret .none) d):
    wpAny (model X.prog X.w) A (ksk_tree a (.ref f) false) P E s:=by
 have FT:a<s.heap.objs.size:=Heap.lt_size ha;have hle:=vv.length;have QL:=rv.length;have s1:=da s.heap a (Obj.mapSeq λ_=>(#[]:fY fN));obtain⟨e1,zp⟩:∃e1,(s.heap.update a (Obj.mapSeq λ_=>(#[]:fY fN))).get? a=some (seqObj "list" #[] e1):=⟨_,dY ha λ_=>#[]⟩;have I1:=I0.turned (t':=s.toks) (it:=a) (λb o p e=>(s1.2 b p).trans e) fa.1 fa.2.1 fa.2.2.2.1 fa.2.2.2.2.1 fa.2.2.2.2.2;unfold ksk_tree;refine aa (d6 ha rfl ?_);refine aa (cR ha rfl ?_ (by rw[az];exact hz) (bo _));refine aa (eA zp rfl ?_);refine aa (wpAny_newTuple ?_ (by simpa using hz));refine aa (eI ?_ (bo _));refine cb ?_;have U:((s.heap.update a<|Obj.mapSeq λ_=>(#[]:fY fN)).push (seqObj "tuple" c.toArray 0)).objs.size=s.heap.objs.size+1:=by rw[size_push',c6]
 have I2:Inv X F M N {s with heap:=((s.heap.update a<|Obj.mapSeq λ_=>(#[]:fY fN)).push (seqObj "tuple" c.toArray 0)).push (seqObj "list" #[] 0)}:=I1.kept (t':=s.toks) λb o e=>ag _ (ag _ e);have g1:(((s.heap.update a<|Obj.mapSeq λ_=>(#[]:fY fN)).push (seqObj "tuple" c.toArray 0)).push (seqObj "list" #[] 0)).get? a=some (seqObj "list" #[] e1):=ag _ (ag _ zp);have g2:(((s.heap.update a<|Obj.mapSeq λ_=>(#[]:fY fN)).push (seqObj "tuple" c.toArray 0)).push (seqObj "list" #[] 0)).get? ((s.heap.update a<|Obj.mapSeq λ_=>(#[]:fY fN)).push (seqObj "tuple" c.toArray 0)).objs.size=some (seqObj "list" #[] 0):=aQ _ rfl;have zj:((s.heap.update a<|Obj.mapSeq λ_=>(#[]:fY fN)).push (seqObj "tuple" c.toArray 0)).objs.size≠a:=by rw[U];exact dq (cX FT)
 have fk:jO X F N ((s.heap.update a<|Obj.mapSeq λ_=>(#[]:fY fN)).push (seqObj "tuple" c.toArray 0)).objs.size:=I0.nP (by rw[U];exact cJ _) (I0.hok.fresh<|by rw[U];exact cJ _);generalize((s.heap.update a<|Obj.mapSeq λ_=>(#[]:fY fN)).push (seqObj "tuple" c.toArray 0)).objs.size=kS at*;generalize((s.heap.update a<|Obj.mapSeq λ_=>(#[]:fY fN)).push (seqObj "tuple" c.toArray 0)).push (seqObj "list" #[] 0)=hh at*;have g1:({s with heap:=hh}:fS).heap.get? a=_:=g1;have g2:({s with heap:=hh}:fS).heap.get? kS=_:=g2;show wpAny _ _ _ _ _ {s with heap:=hh};generalize({s with heap:=hh}:fS)=sB at*;unfold ksk_rest;refine aa (cZ ?_)
 first
  |rw[List.forIn_toArray]
  |(rw[<-Array.forIn_toList];simp only[List.toList_toArray])
  |rw[<-Array.forIn_toList]
 refine aa (ksk_fold (λi d=>∃H C e,gF X.K N H/\Inv X F M H d/\jO X F H a/\jO X F H kS/\d.heap.get? a=some (seqObj "list" #[] e1)/\d.heap.get? kS=some (seqObj "list" C e)/\j0 X.K al H C.toList (ks.take i)) c 0 sB
  ⟨N,#[],0,.refl _,I2,fa,fk,g1,g2,by simpa using j0.nil⟩ ?step ?done)
 case step=>
  rintro j x d hx ⟨H,C,e,sm,I,G,O,k1,k2,m⟩
  simp only[d8]at m⊢;have hj:j<c.length:=(au.mp hx).1;obtain⟨k,zk⟩:∃k,ks[j]?=some k:=⟨_,aL<|by omega⟩;have hv:L[j]?=some L[j]:=aL (by omega);obtain⟨u0,e0,rx⟩:=vv.get hv;rw[hx]at e0;cases e0;have QR:C.size<=j:=by have h1:=m.len;rw[aJ,bD]at h1;omega
  have I3:=I.pinned (fp:=[a,kS]) (λb p=>by
   simp only[aH,c5,fJ]at p;rcases p with rfl|rfl;· exact G
   · exact O) (λb p=>by
   simp only[aH,c5,fJ]at p;rcases p with rfl|rfl;· exact⟨_,k1,λv z=>nomatch z⟩
   · exact⟨_,k2,λv z=>nomatch z⟩)
  refine aa (wpAny_attempt<|aU (turn j _ x k _ _ H hv rx zk sm I3) (λv Q he=>?_) λ_ _ hF=>hF.elim);obtain⟨H2,kv,A9,I4⟩:=he;try dsimp only
  have pa:=I4.pin (a,_) (aM _<|aM _<|o7 (by simp) k1);have pk:=I4.pin (kS,_) (aM _<|aM _<|o7 (by simp) k2);have s2:=da Q.heap kS (Obj.mapSeq (·.push v));obtain⟨Z,Y⟩:∃Z,(Q.heap.update kS (Obj.mapSeq (·.push v))).get? kS=some (seqObj "list" (C.push v) Z):=⟨_,dY pk.1 (·.push v)⟩;have Ex:jO X F H2 a:=⟨pa.2.1,G.2⟩;have q:jO X F H2 kS:=⟨pk.2.1,O.2⟩;have ek:ks.take (j+1)=ks.take j++[k]:=by rw[List.take_add_one,zk];simp
  have ea:(C.push v).toList=C.toList++[v]:=by simp
  refine aa (cR pk.1 rfl ?_ (by omega) (aC (fg<|Array.size_push ..)<|by omega));exact aG ⟨rfl,H2,C.push v,Z,sm.trans A9,I4.qQ.turned (t':=Q.toks) (it:=kS) (λb o p e=>(s2.2 b p).trans e) q.1 q.2.1 q.2.2.2.1 q.2.2.2.2.1 q.2.2.2.2.2,Ex,q,(s2.2 a zj.symm).trans pa.1,Y,by rw[ea,ek];exact(m.up A9).snoc kv⟩
 case done=>
  rintro d ⟨H,C,e,sm,I,G,O,k1,k2,m⟩
  have m:j0 X.K al H C.toList ks:=by rw[bF<|by omega]at m;exact m
  have FJ:=m.len;rw[aJ]at FJ;try dsimp only
  refine aa (d6 k2 rfl ?_);obtain⟨T,rS,e2,e3,e4,e5,e6,e7⟩:=OM I m (rv.up sm) vv (by omega);have lT:T.length=c.length:=by rw[<-e2];simp
  have fin:∀(st:SortSt) (T':fL Tr),failedOf st=none->T'.Perm T->(arrOf st).map (·.2)=(T'.map (·.v)).toArray->(T'.map (·.k)).Pairwise (λa b=>hQ a b=true)->wpAny (model X.prog X.w) A (ksk_tail a false e1 (.ref kS) st) P E d:=λst T' hf pT ho pw=>by
   obtain⟨o1,o2⟩:=Br pT e7 e4 pw;have lO:((arrOf st).map (·.2)).size=c.length:=by rw[ho];have:=pT.length_eq;simp;omega
   have sk:=da d.heap kS (Obj.mapSeq λ_=>(#[]:fY fN));have R:(d.heap.update kS<|Obj.mapSeq λ_=>(#[]:fY fN)).get? a=some (seqObj "list" #[] e1):=(sk.2 a zj.symm).trans k1;have sa:=da (d.heap.update kS<|Obj.mapSeq λ_=>(#[]:fY fN)) a (Obj.mapSeq λ_=>(arrOf st).map (·.2));obtain⟨Z,Y⟩:∃Z,((d.heap.update kS (Obj.mapSeq λ_=>(#[]:fY fN))).update a (Obj.mapSeq λ_=>(arrOf st).map (·.2))).get? a=some (seqObj "list" ((arrOf st).map (·.2)) Z):=⟨_,dY R λ_=>(arrOf st).map (·.2)⟩;unfold ksk_tail;try dsimp only
   refine aa (cR k2 rfl ?_ (by omega) (bo _));refine aa (wpAny_letGo ?_);refine aa (eA R rfl ?_);simp only[bR,bU];refine aa (cR R rfl ?_ (bo _) (by omega));rw[hf];simp only[eC,bR,bU];have J1:=I.turned (t':=d.toks) (it:=kS) (λb o p e=>(sk.2 b p).trans e) O.1 O.2.1 O.2.2.2.1 O.2.2.2.2.1 O.2.2.2.2.2;have J2:=J1.turned (t':=d.toks) (it:=a) (λb o p e=>(sa.2 b p).trans e) G.1 G.2.1 G.2.2.2.1 G.2.2.2.2.1 G.2.2.2.2.2;refine aG (h H _ _ sm G.1 o2<|Inv.adopt J2 G ?_);have lw:=o1.length;have QU:=pT.length_eq;exact⟨by simp;omega,T'.map (·.v),Z,o1,by rw[<-ho];exact Y⟩
  unfold ksk_end;try dsimp only
  simp only[bR,bU];by_cases h2:c.toArray.size<2
  ·rw[ae h2,ae h2];refine aa (aG ?_);rw[StateT.run_pure];refine aa (aG ?_);try dsimp only
   rw[az]at h2;refine fin _ T rfl (.refl _) ?_ ?_
   ·show(C.zip c.toArray).map (·.2)=_;apply cf.mp;rw[dI];simp only[eU];rw[<-List.unzip_snd,List.unzip_zip<|by simp;omega,e2]
   ·rw[e5];match ks,hl with
    |[],_=>exact .nil
    |[k],_=>exact cE ..
    |_::_::r,w=>simp at w;omega
  ·rw[ah h2,ah h2];rw[az]at h2;have:=xY (prog:=X.prog) (w:=X.w) (s:=d) T e6 (by rw[e5];exact nd) (by omega) A;rw[rS,e2,dP]at this;refine aa (aU this (λκ t m=>?_) λ_ _ x=>x.elim);obtain⟨rfl,m⟩:=m;refine aa (aU m (λr t hr=>?_) λ_ _ x=>x.elim);obtain⟨rfl,hf,T',g1,g2,_,g3⟩:=hr;obtain⟨⟨⟩,st⟩:=r;exact fin st T' hf g1 g2 g3
end P2
namespace P2
open PySem L2 PySem.Spec PySem.Calls
open PyProof.Rows hiding St
variable{X:Cx}{M:L2.St}{K:gp}{f l:fO}{F:fL V}{C:gx}{O:Hp}{al:gL}{B:lg}{s:fS}
def GR{Q E:gE}(z:Inv X K M O s)(Y:iF X.K O l F)(I:fX X.K al O F C)(T:C.length=B.length)(N:B.Nodup)
    (t:∀(i:Nat) (v:V) (u:fN) (k:KP) (c:gp) (s:fS) (H:Hp),F[i]?=some v->RelV v u->B[i]?=some k->gF X.K O H->Inv X c M H s->
      wpAny (model X.prog X.w) X.A.in1.in1 (call (.ref f) [u]) (λr n=>∃H',lH X.K al H' r k/\gF X.K H H'/\Inv X c M H' n) (λ_ _=>False) s)
    (h:∀p H' n x,gF X.K O H'->H' p=none->fX X.K al H' x (jV B C)->Inv X K M (upd H' p<|.lst x) n->Q (.ref p) n):
    wpAny (model X.prog X.w) X.A (call (.builtin "sorted") [.ref l] [(Str.ofString "key",.ref f)]) Q E s:=by
 obtain⟨a,A,L,y⟩:=z.list Y;have U:=A.length;have y:a.length<=sizeLine:=by omega
 refine call_function_entry_kw kind_sorted plain_sorted entry_sorted (ksk_s1 _ _) ?_;unfold Builtin.«sorted»;refine aa (m:=checkCount "sorted" 1 1 _) (aG ?_);refine aa (collect_list L.isList ?_ y);refine aa (eI ?_ y);have d:((s.heap.push<|seqObj "list" #[] 0).update s.heap.objs.size (Obj.mapSeq (· ++a.toArray))).objs.size=s.heap.objs.size+1:=by rw[c6,size_push']
 have w:(((s.heap.push<|seqObj "list" #[] 0).update s.heap.objs.size (Obj.mapSeq (· ++a.toArray))).push (seqObj "list" a.toArray 0)).get? (s.heap.objs.size+1)=some (seqObj "list" a.toArray 0):=by rw[<-d];exact aQ _ rfl
 have keep:∀b o,s.heap.get? b=some o->(((s.heap.push<|seqObj "list" #[] 0).update s.heap.objs.size (Obj.mapSeq (· ++a.toArray))).push (seqObj "list" a.toArray 0)).get? b=some o:=λb o q=>by have j:b<s.heap.objs.size:=Heap.lt_size q;rw[du _ _ _<|by rw[d];exact aZ (cX j),d4 _ _ _ _<|aZ j,du _ _ _<|aZ j];exact q
 show wpAny _ _ _ _ _ {s with heap:=((s.heap.push<|seqObj "list" #[] 0).update s.heap.objs.size (Obj.mapSeq (· ++a.toArray))).push (seqObj "list" a.toArray 0)};rw[d];have Z:jO X K O (s.heap.objs.size+1):=z.nP (cJ _) (z.hok.fresh<|cJ _);have I1:=z.kept (t':=s.toks) keep;refine aa (cb<|wpAny_call_entry_kw slot_list_sort ⟨_,w,rfl⟩ entry_list_sort ?body (ksk_l1 _ _))
 case body=>show wpAny (model X.prog X.w) X.A.in1.in1 (Builtin.«list.sort» ⟨[.ref<|s.heap.objs.size+1],[(Str.ofString "key",.ref f)]⟩) _ _ _;rw[ksk_t1];refine GS I1 Z w I A y T N t λH' n x G R P J=>⟨_,rfl,?_⟩;exact aG ⟨_,rfl,h _ H' n x G R P J⟩
def keyOf(g:gf)(n:Nat)(d:D):fU KP:=match g (gY n [d])with
 |.ok (.tup [.int i,.str x])=>some (i,x)
 |_=>none
def GH{g:gf}{n d k}(h:keyOf g n d=some k):g (gY n [d])=.ok (.tup [.int k.1,.str k.2]):=by
 unfold keyOf at h;split at h;·rename_i e;cases h;exact e
 ·cases h
theorem vN{c:qe}:∀{C:gx} {B:lg},j5 c C=some B->C.length=B.length/\∀(i:Nat) d k,C[i]?=some d->B[i]?=some k->c d=some k
 |[],B,h=>by cases h;exact⟨rfl,λi d k e=>by simp at e⟩
 |d::C,B,h=>by
  obtain⟨k,l,rfl,n,m⟩:=vM h;obtain⟨p,o⟩:=vN m;refine⟨by simp[p],λi q j a b=>?_⟩;cases i with
  |zero=>cases a;cases b;exact n
  |succ i=>exact o i q j (by simpa using a) (by simpa using b)
variable{E:XK}{k:Nat}{p:fR}{U g:gf}{e y:f6}{T p0 p2 Y:Pos}{x qual:fR}{c P:fO}{t:Arguments}{j:Scope}{N:gu}
def GZ{f:fO}{pm:fN}{M:L2.St}(S:lF N [p] j)
    (o:∀(n:fN) (A:gz) (m:iK) (s:fS) (H:Hp) (E:XK),g8 k (gW (gJ X.prog X.w) X.prog X.w X.K X.mg X.base N qual j f n A m s H E).A->DE (gW (gJ X.prog X.w) X.prog X.w X.K X.mg X.base N qual j f n A m s H E) E y g)
    (q:∀(n rL:fN) (R:gq),R.length=[p].length->bindArgs (W.kla_fn "<lambda>" qual t y j [] pm n rL) ⟨R,[]⟩=pure ([p].zip R))
    (hr:g8 (k+3) X.A){al:gL}{O:Hp}(L:mC O f qual t y j pm){C:gx}{F:fL V}{B:lg}(hk:j5 (keyOf g N.length) C=some B)(rv:fX X.K al O F C)(fr:∀a,O a=none->al a)(tt:iG X.K O):
    ∀(i:Nat) (v:V) (u:fN) (k:KP) (h:gp) (s:fS) (H:Hp),F[i]?=some v->RelV v u->B[i]?=some k->gF X.K O H->Inv X h M H s->
     wpAny (model X.prog X.w) X.A.in1.in1 (call (.ref f) [u]) (λr J=>∃H',lH X.K al H' r k/\gF X.K H H'/\Inv X h M H' J) (λ_ _=>False) s:=by
 intro i v u k h s H hv rl FI G I;obtain⟨d,hd,rd⟩:=rv.get hv;have kd:=GH ((vN hk).2 i d k hd FI);have r2:Vals [v] [u]:=.cons rl .nil;refine wpAny_call (eX (GX (Q:=λw H'=>Rep X.K al H' w (.tup [.int k.1,.str k.2])/\gF X.K H H') (E:=λ_ _ _=>False) S (L.up G) o q hr.in1.in1 I.yK.in1.in1 r2 ?_) λr J hq=>?_)
 ·refine⟨rfl,G.tt tt,al,[d],λa ha=>fr a<|G.free ha,.cons (rd.up G) .nil,?_⟩;dsimp only at kd⊢;rw[kd];exact λH' J w Z=>⟨Z,J⟩
 ·cases r with
  |error ex=>obtain⟨_,_,_,_,_,_,_,_,_,_,_,_,z⟩:=hq;exact z
  |ok fl=>
   cases fl with
   |ret w=>obtain⟨v2,H2,I2,Nl,e2,s2⟩:=I.after hq;exact⟨H2,⟨v2,Nl,e2⟩,s2,I2⟩
   |_=>exact False.elim hq
def DQ(S:lF N [p] j)
    (G:∀(f:fO) (n:fN) (A:gz) (m:iK) (s:fS) (H:Hp) (E:XK),g8 k (gW (gJ X.prog X.w) X.prog X.w X.K X.mg X.base N qual j f n A m s H E).A->DE (gW (gJ X.prog X.w) X.prog X.w X.K X.mg X.base N qual j f n A m s H E) E y g)
    (bm:BM X.mg X.base)(hi:nS X.K x c P=true)(w:X.env.code=.ref c)
    (hr:g8 (k+3) X.A)(FC:Gl X "sorted")(hmx:X.mg "sorted"=none)(he:DE X E e U)
    (hq:autoParam (X.env.qual++"<lambda>"=qual) aZ0)(hx:autoParam (x++".<locals>.<lambda>"=qual) aZ0)(hdef:autoParam (defaultsOf t X.env=([],[])) aZ0)(hcl:autoParam (closureFor j X.env=pure []) aZ0)
    (R:∀(pm n rL:fN) (us:gq),us.length=[p].length->bindArgs (W.kla_fn "<lambda>" qual t y j [] pm n rL) ⟨us,[]⟩=pure ([p].zip us):=by intro pm n rL us hu;obtain⟨u,rfl⟩:=List.length_eq_one_iff.mp hu;rfl)
    (hs:autoParam (X.se e []) aZ0)(hst:autoParam (backTo T (starEach [e] X.env)=(false,eval e X.env)::backTo T (starEach [] X.env)) aZ0)(q:autoParam ((backTo T<|starEach [e] X.env).any (·.1)=false) aZ0):
    DN X E (.Call (.Name "sorted" p0) [e] [⟨some<|Str.ofString "key",.Lambda t y j Y,p2⟩] T) (λρ=>(U ρ).bind (k4<|keyOf g N.length)):=by
 obtain⟨ta,pa,ra⟩:=he
 refine⟨λM H Q=>ta M H λx0 Z=>∃x,[x0]=[x]/\iG X.K Z/\∀f d,gF X.K Z d->mC d f qual t y j ((X.mg "__name__").getD .none)->∃al l F C B,x=.ref l/\iF X.K d l F/\fX X.K al d F C/\(∀a,d a=none->al a)/\iG X.K d/\j5 (keyOf g N.length) C=some B/\B.Nodup/\
  ∀p i o,gF X.K d i->i p=none->fX X.K al i o (jV B C)->Q (.ref p) (upd i p (.lst o)),λK s M H Q I h=>?_,λ{_ _ al H M _ Q} s h=>?_⟩
 ·refine cj (mn I FC hmx uI ?_ (by decide) (by decide));refine callWith_kw ?_ hst q;have uh:PA X [e] (tH ta tI):=mU pa mV hs
  refine gi (uh T K s M H (λF Z=>∃x,F=[x]/\iG X.K Z/\∀f d,gF X.K Z d->mC d f qual t y j ((X.mg "__name__").getD .none)->∃al l F C B,x=.ref l/\iF X.K d l F/\fX X.K al d F C/\(∀a,d a=none->al a)/\iG X.K d/\j5 (keyOf g N.length) C=some B/\B.Nodup/\
   ∀p i o,gF X.K d i->i p=none->fX X.K al i o (jV B C)->Q (.ref p) (upd i p (.lst o))) I h) λus s1 ⟨Q4,Z,I1,r1,q1⟩=>?_
  obtain⟨x,rfl,t1,q1⟩:=q1;obtain⟨u,rfl,ru⟩:=vals1 r1;refine kws_cons (GV I1 t1 bm hi w hq hx hdef hcl λf d s2 sm I2 L=>?_);refine kws_nil ?_;obtain⟨al,l,F,C,B,rfl,hl,rv,fr,tt,hk,nd,q3⟩:=q1 f d sm L;obtain rfl:u=Value.ref l:=ru;exact GR I2 hl rv (vN hk).1 nd (GZ S (G f) (R _) hr L hk rv fr tt) λp i s3 o NM hp hw J=>⟨.ref p,_,J,rfl,q3 p i o NM hp hw⟩
 ·refine ra s (Aft.mono (Aft.split h) λs1 h1 v rv=>⟨v,rfl,(s.grow s1).tt,λf d sL L=>?_⟩);have r:=Aft.up h1 sL;unfold k4 at r;split at r
  ·rename_i C;split at r
   ·rename_i B hk;split at r
    ·rename_i z;obtain⟨l,F,rfl,hl,Nn⟩:=(rv.up sL).lZ;exact⟨al,l,F,C,B,rfl,hl,Nn,((s.grow s1).grow sL).fresh,((s.grow s1).grow sL).tt,hk,z,λp i o s3 hp hw=>r i s3 p o hp hw⟩
    ·exact r.elim
   ·exact r.elim
  ·exact r.elim
end P2
namespace L2
open PySem PySem.Spec PyProof.Rows
def q7(lo c:Int)(n:Nat):It:=⟨λi _=>i<n,λi H x H'=>H'=H/\x=.int (lo+i*c),λi _=>n<=i⟩
def OW{P:gy}{w:gs}{K:PySem.W.Frag}{G:f6}(d:fO)(lo c:Int)(n:Nat):Turn P w K G (q7 lo c n) [d] d (λi h=>IsRangeIter h d (lo+(i:Nat)*c) ((n:Int) - (i:Nat)) c) where
 mem:=by simp
 obj:=λi h st b f=>by
  have e:b=d:=by simpa using f
  subst e;exact⟨_,st,λv z=>by have F:Data.fields _=Data.cell v:=z;cases F⟩
 keep:=λi h l st k=>k d (by simp) _ st
 item:=by intro X r m u q i a s σ H E I hf st p;subst r m u;obtain⟨D,C,L,A,y,x⟩:=hf d (by simp);have W:=Walks.range (prog:=X.prog) (w:=X.w) (I.ok.hd q) d lo c n;refine W.item i s _ _ p st λv l tk hv j J=>?_;obtain⟨t,rfl⟩:=hv;have N:Inv X a σ H {s with heap:=l,toks:=tk}:=I.turned (λb o f e=>J b o (by simpa using f) e) D C A y x;exact⟨_,rfl,oX (s:={s with heap:=l,toks:=tk}) (n:="range_iterator") j rfl rfl (by decide) ⟨.int<|lo+i*c,H,N,⟨t,rfl⟩,⟨rfl,rfl⟩,j,λb f=>(hf b f).1⟩⟩
 done:=by intro X r m u q i a s σ H E I hf st p;subst r m u;obtain⟨D,C,L,A,y,x⟩:=hf d (by simp);exact wpAny_pyNext_range_end (I.ok.hd q) st (by have:n<=i:=p;omega) λl M=>⟨rfl,I.turned (t':=s.toks) (λb o f e=>M b o f e) D C A y x⟩
 self:=λ_ _ _ _ _ st h=>wpAny_pyIter_rangeiter st h
def lr(lo a c:Int):Nat:=(Builtin.Range.rangeSize lo a c).toNat
variable{X:Cx}{f:f6}
def NN{lo d c:Int}(n: -(2^60)<=lo)(m:lo<2^60)(l: -(2^60)<=d)(k:d<2^60)(i:0<c)(j:c<2^60):Builtin.Range.small lo d c=true/\0<=Builtin.Range.rangeSize lo d c:=by
 have h:0<=Builtin.Range.rangeSize lo d c/\Builtin.Range.rangeSize lo d c<=2^61:=by
  unfold Builtin.Range.rangeSize;rw[ae i];split
  ·have a:=Int.ediv_nonneg (a:=d - lo - 1) (b:=c) (by omega) (by omega);have b:=Int.ediv_le_self (a:=d - lo - 1) c (by omega);omega
  ·omega
 refine⟨?_,h.1⟩;unfold Builtin.Range.small Builtin.Range.rangeFitsLong;simp only[aK,bN,aY,i,cz];refine⟨⟨⟨⟨?_,?_⟩,?_⟩,?_⟩,.inr ?_⟩<;>omega
def M5{d:gp}{σ:St}{H:Hp}{s:fS}{R:It->Hp->Prop}{E:gE}{lo a c:Int}{t u v:Tok}{tk:Nat}(I:Inv X d σ H s)(r: -(2^60)<=lo)(p:lo<2^60)(n: -(2^60)<=a)(m:a<2^60)(l:0<c)(k:c<2^60)
    (q:R (q7 lo c<|lr lo a c) H):wpAny (model X.prog X.w) X.A (pyIter<|.ref s.heap.objs.size) (PIE X d σ f R) E {s with heap:=s.heap.push {cls:=.type "range",data:=.fields #[.int lo t,.int a u,.int c v]},toks:=tk}:=by
 obtain⟨i,y⟩:=NN r p n m l k;refine wpAny_pyIter_range (IsRange.new ..) i ?_;have h:Inv X d σ H {s with heap:=s.heap.push {cls:=.type "range",data:=.fields #[.int lo t,.int a u,.int c v]},toks:=tk}:=I.kept λb o e=>ag _ e
 refine⟨(s.heap.push {cls:=.type "range",data:=.fields #[.int lo t,.int a u,.int c v]}).objs.size,[(s.heap.push {cls:=.type "range",data:=.fields #[.int lo t,.int a u,.int c v]}).objs.size],_,_,H,rfl,
  h.kept (t':=tk) λb o e=>ag _ e,OW _ lo c (lr lo a c),?_,λb j=>?_,q⟩
 ·have x:lo+((0:Nat):Int)*c=lo:=by simp
  have w:((lr lo a c:Nat):Int) - ((0:Nat):Int)=Builtin.Range.rangeSize lo a c:=by unfold lr;omega
  show IsRangeIter _ _ (lo+((0:Nat):Int)*c) (((lr lo a c:Nat):Int) - ((0:Nat):Int)) c;rw[x,w];exact aQ _ rfl
 ·have e:b=(s.heap.push {cls:=.type "range",data:=.fields #[.int lo t,.int a u,.int c v]}).objs.size:=by simpa using j
  subst e;exact h.nP (af _) (h.hok.fresh<|af _)
def Ga(d:TA):TI:=λσ H R=>d σ H λa h=>∃i j c:Int,a=[.int i,.int j,.int c]/\(-(2^60)<=i/\i<2^60/\ -(2^60)<=j/\j<2^60/\0<c/\c<2^60)/\R (q7 i c<|lr i j c) h
def JG{a b c:f6}{v:TA}{p pos:Pos}(L:Gl X "range")(J:X.mg "range"=none)(M:PA X [a,b,c] v)(G:starEach [a,b,c] X.env=[(false,eval a X.env),(false,eval b X.env),(false,eval c X.env)])(m:starEach [b,c] X.env=[(false,eval b X.env),(false,eval c X.env)]):
    PI X f (.Call (.Name "range" p) [a,b,c] [] pos) (Ga v):=by
 intro l s σ H R I h;refine Call_ (mn I L J boot_range (b8 (gi (M pos l s σ H _ I h) λP T ⟨O,U,N,x,u⟩=>?_) (by rw[G,m]) (by rw[m];rfl)) (by decide) (by decide));obtain⟨i,j,c,e,⟨u,F,D,C,A,z⟩,q⟩:=u;subst e;cases x with
 |cons r d=>
  cases d with
  |cons y d=>
   cases d with
   |cons o d=>cases d;obtain⟨t,rfl⟩:=r;obtain⟨Q,rfl⟩:=y;obtain⟨w,rfl⟩:=o;exact call_range_3 (by omega) (M5 N u F D C A z q) (Or.inl<|eH<|fK ((Nat.log2_lt (n:=c.natAbs) (k:=60)<|by omega).mpr (by omega))<|by decide)
end L2
namespace P2
open PySem L2 PySem.Spec PySem.Calls
open PyProof.Rows hiding St K
def qO(lo c:Int)(n:Nat):fL D:=(List.range n).map λ(k:Nat)=>D.int (lo+(k:Int)*c)
variable{X:Cx}{E:XK}{I:f6}{l p:Pos}{K:fZ}{al:gL}{H:Hp}
def Pl{lo c n}:Wk K al H (q7 lo c n) (qO lo c n):=by
 intro f H' x fr;refine⟨λi d h=>?_,λi h=>?_⟩
 ·unfold qO at h;rw[aF]at h;by_cases a:i<n
  ·rw[List.getElem?_range a]at h;cases h;exact⟨a,λy j z=>⟨z.1,by rw[z.2];exact .int _⟩⟩
  ·simp_all
 ·unfold qO at h;show n<=i;simpa using h
def wQ(a:gx):R (fL D):=match a with
 |[.int i,.int j,.int c]=>if -(2^60)<=i/\i<2^60/\ -(2^60)<=j/\j<2^60/\0<c/\c<2^60 then .ok (qO i c<|lr i j c)else .bad
 |_=>.bad
def DH{a b c:f6}{fs:ip}(y:Gl X "range")(x:X.mg "range"=none)(A:DA X E [a,b,c] fs)(w:starEach [a,b,c] X.env=[(false,eval a X.env),(false,eval b X.env),(false,eval c X.env)])(m:starEach [b,c] X.env=[(false,eval b X.env),(false,eval c X.env)]):
    DI X E I (.Call (.Name "range" p) [a,b,c] [] l) (λρ=>(fs ρ).bind wQ):=by
 obtain⟨t,q,r,_⟩:=A;refine⟨_,JG y x q w m,λs h=>r s<|Aft.mono (Aft.split h) λ{_ n} F d C o=>?_⟩;unfold wQ at d;split at d
 ·rename_i i j c;cases o with
  |cons v k=>
   cases k with
   |cons k f=>
    cases f with
    |cons f u=>
     cases u;cases v;cases k;cases f;split at d
     ·rename_i z;exact⟨i,j,c,rfl,z,d n (.refl n) _ Pl⟩
     ·exact d.elim
 ·exact d.elim
def tP(f:gf)(fo:gU):gQ->f7->RX f5:=λρ S=>(jf (f<|ig ρ) S).bind λd h=>(fo ρ h).bind λz c=>match z,lX d with
 |.loc n,some k=>(match c[n]? with
  |some (.dk a)=>.ok (valZ a k).isSome c
  |_=>.bad)
 |_,_=>.bad
variable{b:Nat}{o k e:f6}{fo f:gU}{C:gf}
def Qo(hu:X.A.units+64<cLine)(P:DE X E k C)(M:ZE X E o fo)(O:behindInMarks .In o=false):ZT X E (.Compare k [.In] [o] l) (tP C fo):=by
 obtain⟨to,L,J⟩:=M;obtain⟨tk,pk,rk⟩:=P;refine⟨_,JW (Jc (by omega) pk L) O,λs h=>rk s.rs<|Aft.mono (gg.toAft s<|gg.split h) λ{d H1} D Q u G=>J (s.grow D)<|gg.mono (gg.split Q) λ{_ t m V _} y Z Y i v F=>?_⟩;split at i
 ·rename_i n j r;split at i
  ·rename_i c q;obtain⟨a,N,rfl⟩:=F;have T:=vL G r;subst T;obtain⟨x,R,A⟩:=y.cell N q;refine⟨a,jM x j,rfl,.k R,?_⟩;have e:(jM x j).isSome=(valZ c j).isSome:=by
    cases w:valZ c j with
    |none=>rw[A.none w];rfl
    |some z=>obtain⟨v',U,_⟩:=A.val w;rw[U];rfl
   rw[e];exact⟨_,rfl,i t m V y .refl .refl⟩
  ·exact i.elim
 ·exact i.elim
def qT(i:Nat)(f:gU):gS:=λρ S=>match ρ[i]? with
 |some (some (.loc n))=>(match S[n]? with
  |some (.li _)=>toZ (f ρ S) λz c=>(match z,c[n]? with
   |.d (.lst a),some (.li zs)=>if zs.length+a.length<=sizeLine then .nx ρ (c.set n<|.li<|zs++a.map .d)else .bad
   |_,_=>.bad)
  |_=>.bad)
 |_=>.bad
def Qj(i){d:Pos}(he:ZE X E e f)
 (hN:autoParam (X.N[i]?=some x) aZ0)(hv:autoParam (lM X.env.scope x) aZ4)(hd:autoParam (i8 x) aZ1)
 (Q:autoParam ((x==("__classdict__":fR))=false) aZ1)
 (A:autoParam (attributeBase (.Name x ji) "extend" X.env (eval (.Name x ji) X.env)=eval (.Name x ji) X.env) aZ0)
 (J:autoParam (((backTo jx (starEach [e] X.env)).all (λx=>!x.1)&&(backToKw jx (keywordEach [] X.env)).all (λx=>x.1.isSome)
 &&decide ([e].length+([]:fL Keyword).length+(if([]:fL Keyword).isEmpty then 0 else 1)<30))=true) aZ0)
 (y:autoParam ((d.endLine==jx.line)=true) aZ0)(Y:autoParam (X.se e []) aZ0)(j:autoParam ((backTo jx<|starEach [] X.env).any (·.1)=false) aZ0)
 (P:autoParam (swapsWith (.Call (.Attribute (.Name x ji) "extend" d) [e] [] jx) none l.line X.env=pure false) aZ0):
   ZS X E b (.Expr (.Call (.Attribute (.Name x ji) "extend" d) [e] [] jx) l) (qT i f):=by
  obtain⟨t,p,r⟩:=he;refine⟨_,td (wx cF eJ PySem.F.type_list_extend HH (nX hN hv hd Q) (mU p mV Y) A J y Y j) P,λR s h=>?_⟩;unfold qT at h;split at h
  ·rename_i n q;split at h
   ·rename_i Q5 q0;obtain⟨v,e1,a,Z,rfl⟩:=s.vr i _ q;obtain⟨vs,e2,e3⟩:=s.cell Z q0;refine⟨_,e1,.inl ⟨rfl,vs,.inl<|.inl e2⟩,r s<|gg.mono (hC.kJ h) λ{z D _ U _} N x1 y1 F u O=>?_⟩;split at F
    ·rename_i T V q1;have m:=y1 n a Z;obtain⟨L,g2,g3⟩:=N.cell m q1;have O:Rep X.K D U u (.lst T):=O;obtain⟨c,M,rfl,hc,G⟩:=O.lZ;by_cases w:V.length+T.length<=sizeLine
     ·rw[ae w]at F;have x2:Xt D U D (upd U a (.lst (L++M))):=λb o _ R eb=>⟨R,by rw[gj λz=>N.st.na n a m (by rw[<-z];exact R)];exact eb⟩;obtain⟨s2,x3⟩:=N.write m (o:=.lst (L++M)) (c:=.li (V++T.map .d)) kq (λq w=>by unfold iX at w;cases w) ⟨_,hD,hP.mv x2 .refl (g3.append (.ofD G))⟩ nofun;exact⟨a,c,L,M,rfl,rfl,g2,hc,by rw[g3.length,G.length];exact w,F _ _ _ _ x3 s2⟩
     ·rw[ah w]at F;exact F.elim
    ·exact F.elim
   ·exact h.elim
  ·exact h.elim
def nO(j:Nat)(a:iM)(fr:gf)(S:f7):fL D->gQ->iY
 |[],ρ=>.nx ρ S
 |d::r,ρ=>if j<ρ.length then(match a (vw S (ρ.set j (iE d)))with
  |.ok true=>(match fr (ig (ρ.set j (iE d)))with
   |.ok x=>.rt (.d x) S
   |_=>.bad)
  |.ok false=>nO j a fr S r (ρ.set j<|iE d)
  |_=>.bad)else .bad
def qU(i j:Nat)(c:iM)(fr:gf):gS:=λρ S=>match ρ[i]? with
 |some (some (.loc n))=>(match S[n]? with
  |some (.li a)=>(match kg a with
   |some d=>if i≠j then nO j c fr S d ρ else .bad
   |none=>.bad)
  |_=>.bad)
 |_=>.bad
variable{c r:f6}{A:iM}{fr:gf}{F M L J:Pos}{x y:fR}
def Qk(i j:Nat)(hp:PassesOwn (model X.prog X.w) X.A X.env X.xe)(hc:X.calm=true)(hN:X.N.Nodup)(hj:X.N[j]?=some y)(hy:Loc X.env.scope y)(ht:DT X E c A)(hr:DE X E r fr)
 (hi:X.N[i]?=some x)(hv:lM X.env.scope x)(hd:i8 x)
 (hcd:(x==("__classdict__":fR))=false)(hf:X.fn y=true\/X.env.scope.names.lookup y=some .local)
 (hs:∀z,foldedSetIterable (.Name x F) X.env z=pure z):
   ZS X E b (.For (.Name y M) (.Name x F) [.If c [.Return (some r) L] [] J] [] l) (qU i j A fr):=by
  obtain⟨tc,pc,rc⟩:=ht;obtain⟨tr,pr,rr⟩:=hr;refine⟨_,wB hp hc (AA<|nX hi hv hd hcd) (wz hN hj hy hf) (tf<|wC pc (tf<|wD pr) wH) hs,λ{B al lo H σ ρ S D} hb s h=>?_⟩;unfold qU at h;split at h
  ·rename_i n q;split at h
   ·rename_i zs q0;split at h
    ·rename_i N qd;split at h
     ·rename_i ij;have:=oD qd;subst this;obtain⟨v,e1,a,hn,rfl⟩:=s.vr i _ q;obtain⟨vs,g1,g2⟩:=s.cell hn q0;have gl:=g2.length;rw[ar]at gl;refine⟨_,e1,a,rfl,⟨vs,.inl<|.inl g1⟩,λk m O T=>∃u,RZ X.K B al lo T O u S/\gF X.K H T/\hC X.K B E D al T (nO j A fr S (N.drop k) u)/\m=N.length - k,⟨_,ρ,s,.refl _,h,rfl⟩,?_⟩
      rintro k m O T ⟨u,Z,sm,t,rfl⟩
      obtain⟨w,k1,k2⟩:=Z.cell hn q0;by_cases hk:k<N.length
      ·right;have kl:=k2.length;rw[ar]at kl;have ev:w[k]?=some w[k]:=aL (by omega);obtain⟨x0,ex,rx⟩:=k2.get (i:=k) (z:=.d N[k]) (by rw[aF,aL hk];rfl);rw[bj hk]at t;refine⟨⟨w,x0,.inl<|.inl k1,ex⟩,λQ H'=>∃G,RZ X.K B al lo H' Q G S/\gF X.K H H'/\hC X.K B E D al H' (nO j A fr S (N.drop<|k+1) G),λQ H' ⟨G,z1,z2,z3⟩=>⟨N.length - (k+1),by omega,G,z1,z2,z3,rfl⟩,λx1 H3 U=>?_⟩;obtain⟨rfl,U⟩:=U;have e5:=U w (.inl<|.inl k1);rw[ex]at e5;cases e5;unfold nO at t;split at t
       ·rename_i jl;have s3:=Z.set jl rx;show tc _ _ _;refine rc s3.tu ?_;cases qc:A (vw S<|u.set j<|some<|.d N[k])with
        |ok bb=>
         rw[qc]at t;intro H4 P;have Y:=s3.grow P;cases bb with
         |true=>
          rw[ae rfl];dsimp only at t;show tr _ _ _;refine rr Y.rs ?_;cases qr:fr (ig<|u.set j<|some<|.d N[k])with
          |ok d=>rw[qr]at t;exact λH5 V v5 Nm=>t al lo H5 v5 (Y.grow V).toEZ Nm
          |_=>rw[qr]at t;exact t.elim
         |false=>rw[ah<|by decide];exact⟨_,Y,(sm.trans P),hC.ext t<|.of P⟩
        |_=>rw[qc]at t;exact t.elim
       ·exact t.elim
      ·left;rw[bu<|by omega]at t;have kl:=k2.length;rw[ar]at kl;exact⟨⟨w,.inl<|.inl k1,by omega⟩,t al lo T O .refl Z⟩
     ·exact h.elim
    ·exact h.elim
   ·exact h.elim
  ·exact h.elim
end P2
namespace P2
open PySem L2
noncomputable def rK(sc:Scope)(a:Env)(x:fR)(c d:gu):f5:=decide (sc.kind=.function)&&sc.names.all (λy=>decide (y.2≠.cell)&&(decide (y.2≠.local)||decide (sc.names.lookup y.1=some .local)))&&
 (relabel sc a).names.all (λy=>decide (y.2≠.cell)&&decide (y.2≠.free)||decide (y.1∈d))&&c.all (λy=>decide ((relabel sc a).names.lookup y=some .cell)||decide ((relabel sc a).names.lookup y=some .free))&&decide ((relabel sc a).names.lookup x=some .local)&&decide (x∉c)
theorem vT:∀{cl:qa},x∈cl.map (·.1)->∃c,cl.lookup x=some c
 |p::cl,h=>by
  unfold List.lookup;cases q:x==p.1 with
  |true=>exact⟨_,rfl⟩
  |false=>
   rcases aH.mp h with z|z;·rw[z,beq_self_eq_true]at q;cases q
   ·exact vT z
variable{X:Cx}{E:XK}{i m:f6}{l:iL}{f:Scope}{s t:Pos}{x:fR}{j:gu}{cl:qa}{F:jQ}
def Dd(d:cl.map (λp=>X.env.cells.lookup p.1)=cl.map λp=>some p.2)(h:rK f X.env x j (cl.map (·.1))=true):
    f.kind=.function/\(nV f)/\(o6 f)/\(∀x c,cl.lookup x=some c->X.env.cells.lookup x=some c)/\
    (∀x,((relabel f X.env).names.lookup x=some .cell\/(relabel f X.env).names.lookup x=some .free)->∃c,cl.lookup x=some c)/\(∀x∈j,(relabel f X.env).names.lookup x=some .cell\/(relabel f X.env).names.lookup x=some .free)/\(relabel f X.env).names.lookup x=some .local/\x∉j:=by
 simp only[rK,aK,bN,cD,aY]at h;obtain⟨⟨⟨⟨⟨v,o⟩,k⟩,u⟩,r⟩,q⟩:=h;refine⟨v,λy a=>(o y a).1,λy a z=>(o y a).2.resolve_left λn=>n z,λy c e=>List.map_inj_left.mp d (y,c)<|br e,λy e=>?_,u,r,q⟩;rcases e with e|e;·exact vT ((k _<|br e).resolve_left λn=>n.1 rfl)
 ·exact vT ((k _<|br e).resolve_left λn=>n.2 rfl)
variable{v:ip}{B:iM}{A:gf}
def yG(u:DI X E (.Name x t) i v)(hf:∀n d o C,nA (X.comp f (x::j) cl n d o C) l B)(w:∀n d o C,DE (X.comp f (x::j) cl n d o C) (λ_ _ _=>False) m A)
 (a:autoParam (closureFor f X.env=pure cl) aZ0)(c:kz X cl j F:=by first|exact .nil|exact .cons rfl (.inl rfl) rfl .nil|exact .cons rfl (.inl rfl) rfl (.cons rfl (.inl rfl) rfl .nil)|exact .cons rfl (.inl rfl) rfl (.cons rfl (.inl rfl) rfl<|.cons rfl (.inl rfl) rfl .nil)|exact .cons rfl (.inl rfl) rfl (.cons rfl (.inl rfl) rfl<|.cons rfl (.inl rfl) rfl<|.cons rfl (.inl rfl) rfl<|.cons rfl (.inl rfl) rfl .nil))(h:autoParam (cl.map (λp=>X.env.cells.lookup p.1)=cl.map λp=>some p.2) aZ0)(k:j.Nodup:=by decide+kernel)
 (z:rK f X.env x j (cl.map (·.1))=true:=by kernel_rfl)(y:autoParam (X.calm=true) aZ0)(r:autoParam (∀x,foldedSetIterable i X.env x=pure x) aZ2):nC X E (.ListComp m [⟨.Name x t,i,l,0⟩] f s) (iZ v 1 F (gV 0) B A):=by obtain⟨O,N,M,L,J,I,q,G⟩:=Dd h z;exact yF (Nt:=[x]) y u (λ_ _ _ _=>kU 0 (bB.mpr ⟨G,k⟩) rfl (.inl q)<|.inr q) (by simp) hf w a O N M c rfl L J I r
def DP(r:DI X E (.Name x t) i v)(hf:∀n d o C,nA (X.comp f (x::j) cl n d o C) l B)(u:∀n d o C,DE (X.comp f (x::j) cl n d o C) (λ_ _ _=>False) m A)
 (a:autoParam (closureFor f X.env=pure cl) aZ0)(c:kz X cl j F:=by first|exact .nil|exact .cons rfl (.inl rfl) rfl .nil|exact .cons rfl (.inl rfl) rfl (.cons rfl (.inl rfl) rfl .nil)|exact .cons rfl (.inl rfl) rfl (.cons rfl (.inl rfl) rfl<|.cons rfl (.inl rfl) rfl .nil)|exact .cons rfl (.inl rfl) rfl (.cons rfl (.inl rfl) rfl<|.cons rfl (.inl rfl) rfl<|.cons rfl (.inl rfl) rfl<|.cons rfl (.inl rfl) rfl .nil))(h:autoParam (cl.map (λp=>X.env.cells.lookup p.1)=cl.map λp=>some p.2) aZ0)(k:j.Nodup:=by decide+kernel)
 (y:rK f X.env x j (cl.map (·.1))=true:=by kernel_rfl)(w:autoParam (X.calm=true) aZ0)(q:autoParam (∀x,foldedSetIterable i X.env x=pure x) aZ2):DN X E (.ListComp m [⟨.Name x t,i,l,0⟩] f s) (iZ v 1 F (gV 0) B A):=(yG r hf u a c h k y w q).dn
variable{H:gQ->f7->RX (fL D)}{J:oz}{I:gU}
end P2
namespace md
open PySem L2 P2 WP WM
def at_(i:Nat):Stmt:=PySem.Challenge.pw_weather_k51_fills.main.body.getD i (.Pass ⟨0,0,0,0⟩)
def oW(a:Ad)(c:gk):gK:=(g7 (iR 4 (gP 0 0))
    (g7 (iR 5 (gP 0 1))
    (g7 (iR 6 (gP 1 1))
    (g7 (mY (b1 tB (d2 lU (d2 jW (dV 6) (dV 5)) (dV 3))) (jz (gZ (λρ=>(fW ρ).bind ie))) mZ)
    (jz (gZ (iZ (λρ=>((fM (d2 gM (dV 5) (dV 2)) (fM (dV 6) (fM (dV 2) fW))) ρ).bind wQ) 1 [6,0,4,1,5] (gV 0) (λ_=>.ok true) (dA i0 (fM (dV 3) (fM (dV 0) (fM (dA c (fM (dV 0) (fM (dV 2) (fM (dV 4) fW)))) (fM (dV 5) (fM (dV 1) fW)))))))))))))
def oF(a:Ad)(c:gk):gS:=(gh (gH 6 (zD (gP 5 0)))
    (gh (iw (tP (dV 6) (zV 4)) (qT 3 (zF c (gm (tO (zV 4) (dV 6)) (gm (zD (dV 5)) (gm (zD (dV 1)) (gm (zD (dV 2)) hZ)))))) jk)
    (qS (zV 4) (dV 6) (zD (dV 5)))))
def rZ(a:Ad)(c:gk)(b:Nat):gS:=(gh (gH 3 (oi (λρ=>(fW ρ).bind ie)))
    (gh (gH 4 BN)
    (gh (lD (λρ=>((dV 0) ρ).bind jo) (hV 5) (oF a c))
    (jY (tQ (λρ=>((dV 3) ρ).bind (k4 (keyOf (dA i0 (fM (gP 0 1) (fM (gP 0 0) fW))) 1))))))))
def oG(a:Ad)(c:gk):gK:=(g7 (iR 12 (d2 hK (d2 hK (gP 9 0) (d2 jW (dV 8) (dV 11))) (gP 10 1)))
    (g7 (iR 12 (d2 gM (dV 12) (d2 hK (d2 hK (gP 10 0) (dV 11)) (gP 9 1))))
    (g7 (iR 13 (dA c (fM (dV 12) (fM (d2 hK (d2 hK (dV 8) (gP 9 1)) (gP 10 1)) fW))))
    (g7 (mX 4 (dA i0 (fM (d2 gM (d2 gD (d2 gD (dV 6) (d2 jW (dV 7) (fQ 1))) (fQ 1)) (dV 11)) (fM (dV 5) (fM (dV 13) (fM (d2 gD (d2 gD (dV 6) (d2 jW (dV 7) (fQ 1))) (fQ 1)) (fM (d2 gD (d2 gD (dV 6) (dV 7)) (fQ 1)) fW)))))))
    (iR 11 (d2 gM (dV 11) (dV 2)))))))
def oH(a:Ad)(c:gk):gK:=(g7 (iR 8 (d2 jW (d2 gD (d2 gD (dV 6) (dV 7)) (fQ 1)) (d2 gD (d2 gD (dV 6) (d2 jW (dV 7) (fQ 1))) (fQ 1))))
    (g7 (pA 9 10 (fM (d2 gD (d2 gD (dV 6) (d2 jW (dV 7) (fQ 1))) (fQ 2)) (fM (d2 gD (d2 gD (dV 6) (dV 7)) (fQ 2)) fW)))
    (g7 (iR 11 (dV 2))
    (jX (mL (b1 tB (uQ kX sD (dV 2) (dV 8) (dV 3))) (b1 tB (d2 kX (dV 11) (dV 8)))) (oG a c) oJ))))
def oI(a:Ad)(c:gk):gK:=(g7 (iR 6 (gZ (iZ (λρ=>((dV 0) ρ).bind jo) 1 [5] (gV 0) (b1 tB (d2 iN (gP 0 0) (dV 1))) (dV 0))))
    (qK (λρ=>((fM (fQ 1) (fM (dA jr (fM (dV 6) fW)) fW)) ρ).bind nY) (gV 7) (oH a c)))
def vq(a:Ad)(c:gk):gK:=(g7 (wV 4 (λρ=>(fW ρ).bind ie))
    (g7 (qK (λρ=>((dV 1) ρ).bind jo) (gV 5) (oI a c))
    (λρ=>(jz (gZ (iZ (λρ=>((gZ (λρ=>((dV 4) ρ).bind (k4 kk))) ρ).bind jo) 5 [] (gT 5 (gC (gV 0) (gC (gV 1) (gC (gV 2) (gC (gV 3) (gC (gV 4) gN)))))) (λ_=>.ok true) (dA i0 (fM (dV 1) (fM (dV 0) (fM (dV 2) (fM (dV 3) (fM (dV 4) fW))))))))) (oT 4 ρ))))
def vj(a:Ad)(c f i:gk)(h d:ix)(b:Nat):gS:=(gh (gH 1 (zD (gZ (iZ (λρ=>((fM (dC (.int 3)) fW) ρ).bind mx) 1 [0] (gV 0) (λ_=>.ok true) (dA f (fM (dA c (fM (dV 1) (fM (dC (.int 0)) fW))) (fM (dV 0) fW)))))))
    (gh (gH 2 (zZ h (gm (zD (dV 0)) (gm (zD (dC (.int 4))) (gm (zD (dC (.int 60))) (gm (zD (dV 1)) hZ))))))
    (gh (gH 3 (zD (d2 gM (dC (.int 1)) (d2 gA (dA c (fM (dV 0) (fM (dC (.int 2)) fW))) (dC (.int 40))))))
    (gh (iw (zB (b1 tB (d2 iN (d2 gA (d2 hJ (dA c (fM (dV 0) (fM (dC (.int 2)) fW))) (dC (.int 40))) (dC (.int 3))) (dC (.int 1))))) (gH 3 (zD (d2 gM (dC (.int 1)) (d2 gA (d2 hJ (dA c (fM (dV 0) (fM (dC (.int 2)) fW))) (dC (.int 120))) (dC (.int 1000)))))) jk)
    (gh (gH 4 (zD (d2 gM (dV 3) (d2 gA (dA c (fM (dV 0) (fM (dC (.int 3)) fW))) (d2 gM (d2 hK (dC (.int 19)) (dV 3)) (dC (.int 1)))))))
    (gh (iw (zB (b1 tB (d2 iN (d2 gA (d2 hJ (dA c (fM (dV 0) (fM (dC (.int 2)) fW))) (dC (.int 9))) (dC (.int 6))) (dC (.int 1))))) (gh (gH 2 (zD (oO nc (dV 2) (λ_=>.ok none) (λρ=>((dC (.int 6)) ρ).bind pI))))
    (gH 4 (zD (d2 hK (dC (.int 100)) (dV 3))))) jk)
    (gh (gH 5 (zD (dA vS (fM (dV 2) fW))))
    (gh (gH 6 (zZ d (gm (zD (dV 5)) (gm (zD (dV 3)) (gm (zD (dV 4)) hZ)))))
    (gh (iw (ku (lP (b1 tB (d2 kY (dV 5) (dV 2))) (me (b1 tT (dA (km a.lp) (fM (dV 6) (fM (dC (.ty "list")) fW))))))) (jY (zD (dC (.bl false)))) jk)
    (gh (qU 6 7 (lP (me (b1 tT (dA (km a.lp) (fM (dV 7) (fM (dC (.ty "tuple")) fW))))) (lP (b1 tB (d2 mS (dA jr (fM (dV 7) fW)) (dC (.int 5)))) (me (b1 tT (dA (km a.lp) (fM (d2 gD (dV 7) (dC (.int 2))) (fM (dC (.ty "tuple")) fW))))))) (dC (.bl false)))
    (gh (gH 8 (zD (dA i (fM (dV 2) (fM (dV 1) (fM (dV 3) (fM (dV 4) fW)))))))
    (gh (iw (ku (b1 tB (d2 kY (dV 6) (dV 8)))) (jY (zD (dC (.bl false)))) jk)
    (gh (tM (zV 6))
    (gh (gH 6 (zZ d (gm (zD (dV 5)) (gm (zD (dV 3)) (gm (zD (dV 4)) hZ)))))
    (gh (iw (ku (b1 tB (d2 kY (dV 6) (dV 8)))) (jY (zD (dC (.bl false)))) jk)
    (gh (pN b 6 (gH 9 (zD (gZ (λρ=>((d2 oK (gZ (iZ (λρ=>((dV 2) ρ).bind jo) 1 [] (gV 0) (λ_=>.ok true) (dA i0 (fM (d2 gD (dV 0) (dC (.int 1))) (fM (d2 gD (dV 0) (dC (.int 0))) (fM (d2 gD (dV 0) (dC (.int 2))) fW)))))) (gZ (iZ (λρ=>((dV 6) ρ).bind jo) 1 [] (gV 0) (λ_=>.ok true) (dA i0 (fM (d2 gD (dV 0) (dC (.int 1))) (fM (d2 gD (dV 0) (dC (.int 0))) (fM (d2 gD (dV 0) (dC (.int 2))) fW))))))) ρ).bind (k4 kk))))))
    (gh (iw (zB (b1 tB (d2 lU (dA jr (fM (dV 9) fW)) (dC (.int 200))))) (jY (zD (dC (.bl true)))) jk)
    (jY (z2 oP (pP (zZ d (gm (zD (gZ (iZ (λρ=>((dV 9) ρ).bind jo) 3 [] (gT 3 (gC (gV 0) (gC (gV 1) (gC (gV 2) gN)))) (λ_=>.ok true) (dA i0 (fM (dV 1) (fM (dV 0) (fM (dV 2) fW))))))) (gm (zD (dV 3)) (gm (zD (dV 4)) hZ))))) (zD (gZ (λρ=>(fW ρ).bind ie))))))))))))))))))))))
end md
namespace P2
open PySem
mutual
def jT:D->f5
 |.non=>true
 |.int _=>true
 |.str z=>PyData.strOk z
 |.tup ds=>jJ ds
 |.lst ds=>jJ ds
 |_=>false
def jJ:fL D->f5
 |[]=>true
 |d::r=>jT d&&jJ r
end
mutual
def kH:D->Nat
 |.tup ds=>mQ ds+1
 |.lst ds=>mQ ds+1
 |_=>0
def mQ:fL D->Nat
 |[]=>0
 |d::r=>max (kH d) (mQ r)
end
mutual
theorem wI:∀{d},jT d=true->∃p,j7 d=some p/\PyData.canLay0 p=true/\p.depth<=kH d
 |.non,_=>⟨.none,rfl,by simp[PyData.canLay0],by simp[PyData.depth]⟩
 |.int i,_=>⟨.int i,rfl,by simp[PyData.canLay0],by simp[PyData.depth]⟩
 |.str z,h=>⟨.str z,rfl,by have j:PyData.strOk z=true:=h;simpa [PyData.canLay0]using j,by simp[PyData.depth]⟩
 |.tup ds,h=>by obtain⟨a,f,c,k⟩:=wJ (show jJ ds=true from h);exact⟨.tuple a,by show(js ds).map PyData.tuple=_;rw[f];rfl,by simpa [PyData.canLay0]using c,by simp only[PyData.depth,kH];walk_at "l"⟩
 |.lst ds,h=>by obtain⟨a,f,c,k⟩:=wJ (show jJ ds=true from h);exact⟨.list a,by show(js ds).map PyData.list=_;rw[f];rfl,by simpa [PyData.canLay0]using c,by simp only[PyData.depth,kH];walk_at "l"⟩
 |.bl _,h=>by cases h
 |.ty _,h=>by cases h
 |.ref _,h=>by cases h
 |.exc _ _ _,h=>by cases h
theorem wJ:∀{f},jJ f=true->∃a,js f=some a/\PyData.canLayAll0 a=true/\PyData.depthAll a<=mQ f
 |[],_=>⟨[],rfl,by simp[PyData.canLayAll0],by simp[PyData.depthAll]⟩
 |d::r,h=>by
  have c:(jT d&&jJ r)=true:=h;rw[aK]at c;obtain⟨p,l,k,n⟩:=wI c.1;obtain⟨a,j,i,m⟩:=wJ c.2;refine⟨p::a,?_,?_,?_⟩
  ·show(j7 d).bind (λp=>(js r).map (p:: ·))=_;rw[l,j];rfl
  ·simp[PyData.canLayAll0,k,i]
  ·simp only[PyData.depthAll,mQ];grind
end
def pe(h:j7 (.tup ds)=some p):∃a,p=.tuple a/\js ds=some a:=by obtain⟨a,d,c⟩:=aA.mp (show(js ds).map PyData.tuple=some p from h);exact⟨a,c.symm,d⟩
def pd(h:j7 (.lst ds)=some p):∃a,p=.list a/\js ds=some a:=by obtain⟨a,d,c⟩:=aA.mp (show(js ds).map PyData.list=some p from h);exact⟨a,c.symm,d⟩
mutual
theorem yM:∀{a b} {p q},jT a=true->jT b=true->j7 a=some p->j7 b=some q->(PyData.eqv p q=true↔a=b)
 |a,b,p,q,j,d,f,eq=>by
  cases a with
  |non=>
   cases f;cases b with
   |non=>cases eq;simp[PyData.eqv]
   |int i=>cases eq;simp[PyData.eqv]
   |str i=>cases eq;simp[PyData.eqv]
   |tup r=>obtain⟨c,rfl,_⟩:=pe eq;simp[PyData.eqv]
   |lst r=>obtain⟨c,rfl,_⟩:=pd eq;simp[PyData.eqv]
   |_=>cases d
  |int i=>
   cases f;cases b with
   |non=>cases eq;simp[PyData.eqv]
   |int i=>cases eq;simp[PyData.eqv]
   |str i=>cases eq;simp[PyData.eqv]
   |tup r=>obtain⟨c,rfl,_⟩:=pe eq;simp[PyData.eqv]
   |lst r=>obtain⟨c,rfl,_⟩:=pd eq;simp[PyData.eqv]
   |_=>cases d
  |str i=>
   cases f;cases b with
   |non=>cases eq;simp[PyData.eqv]
   |int i=>cases eq;simp[PyData.eqv]
   |str i=>cases eq;simp[PyData.eqv]
   |tup r=>obtain⟨c,rfl,_⟩:=pe eq;simp[PyData.eqv]
   |lst r=>obtain⟨c,rfl,_⟩:=pd eq;simp[PyData.eqv]
   |_=>cases d
  |tup m=>
   obtain⟨c,rfl,l⟩:=pe f;cases b with
   |non=>cases eq;simp[PyData.eqv]
   |int i=>cases eq;simp[PyData.eqv]
   |str i=>cases eq;simp[PyData.eqv]
   |tup r=>obtain⟨h,rfl,k⟩:=pe eq;have:=va (show jJ m=true from j) (show jJ r=true from d) l k;simp only[PyData.eqv,this,D.tup.injEq]
   |lst r=>obtain⟨h,rfl,_⟩:=pd eq;simp[PyData.eqv]
   |_=>cases d
  |lst m=>
   obtain⟨c,rfl,l⟩:=pd f;cases b with
   |non=>cases eq;simp[PyData.eqv]
   |int i=>cases eq;simp[PyData.eqv]
   |str i=>cases eq;simp[PyData.eqv]
   |tup r=>obtain⟨h,rfl,_⟩:=pe eq;simp[PyData.eqv]
   |lst r=>obtain⟨h,rfl,k⟩:=pd eq;have:=va (show jJ m=true from j) (show jJ r=true from d) l k;simp only[PyData.eqv,this,D.lst.injEq]
   |_=>cases d
  |_=>cases j
 termination_by a=>sizeOf a
theorem va:∀{a b} {p q},jJ a=true->jJ b=true->js a=some p->js b=some q->(PyData.eqvAll p q=true↔a=b)
 |[],[],p,q,_,_,i,eq=>by cases i;cases eq;simp[PyData.eqvAll]
 |[],d::r,p,q,_,_,i,eq=>by cases i;obtain⟨x,_,h⟩:=aT.mp (show(j7 d).bind (λp=>(js r).map (p:: ·))=some q from eq);obtain⟨j,_,rfl⟩:=aA.mp h;simp[PyData.eqvAll]
 |d::r,[],p,q,_,_,i,eq=>by cases eq;obtain⟨x,_,h⟩:=aT.mp (show(j7 d).bind (λp=>(js r).map (p:: ·))=some p from i);obtain⟨j,_,rfl⟩:=aA.mp h;simp[PyData.eqvAll]
 |d::r,e::s,p,q,v,u,i,eq=>by have f:(jT d&&jJ r)=true:=v;have c:(jT e&&jJ s)=true:=u;rw[aK]at f c;obtain⟨x,n,h⟩:=aT.mp (show(j7 d).bind (λp=>(js r).map (p:: ·))=some p from i);obtain⟨j,m,rfl⟩:=aA.mp h;obtain⟨y,l,w⟩:=aT.mp (show(j7 e).bind (λp=>(js s).map (p:: ·))=some q from eq);obtain⟨z,k,rfl⟩:=aA.mp w;have t:=yM f.1 c.1 n l;have o:=va f.2 c.2 m k;simp only[PyData.eqvAll,aK,t,o,List.cons.injEq]
 termination_by a=>sizeOf a
end
def yL(h:jT a=true)(f:jT b=true)(n:kH a<=60)(m:kH b<=60):∃r,mh a b=some r/\(r=true↔a=b):=by obtain⟨p,d,j,l⟩:=wI h;obtain⟨q,c,i,k⟩:=wI f;refine⟨PyData.eqv p q,?_,yM h f d c⟩;unfold mh;rw[d,c];show(if(SeqAt.shaped p&&SeqAt.shaped q)=true then some (PyData.eqv p q)else none)=_;rw[ae];simp only[SeqAt.shaped,aK,aY];exact⟨⟨j,by lia⟩,i,by lia⟩
def ne_self(c:jT a=true)(d:kH a<=60):kY a a=.ok (.bl false):=by obtain⟨r,e,h⟩:=yL c c d d;unfold kY;rw[e,h.mpr rfl];rfl
def eq_self(c:jT a=true)(d:kH a<=60):oP a a=.ok (.bl true):=by obtain⟨r,e,h⟩:=yL c c d d;unfold oP;rw[e,h.mpr rfl]
end P2
namespace FM
def g(a b:Int):Int:=(Int.gcd a b:Int)
def zc{a:Int}(c:0<=a):g a 0=a:=by unfold g;rw[Int.gcd_zero_right];lia
def zb{a b:Int}(d:0<=a)(c:0<b):g b (a%b)=g a b:=by
 unfold g
 congr 1
 obtain⟨m,rfl⟩:=bh d;obtain⟨n,rfl⟩:=bh (cM c);show Nat.gcd n ((m:Int)%(n:Int)).natAbs=Nat.gcd m n;rw[show((m:Int)%(n:Int)).natAbs=m%n from by lia];rw[Nat.gcd_comm m n,Nat.gcd_rec n m,Nat.gcd_comm]
def y4(a b:Int):g (if a<0 then -a else a) (if b<0 then -b else b)=g a b:=by
 unfold g
 congr 1
 unfold Int.gcd
 congr 1
 ·split<;>simp
 ·split<;>simp
def za{a b:Int}(c:b≠0):0<g a b:=by unfold g;have h:=Int.gcd_pos_of_ne_zero_right a c;simp_all
def y6(a b:Int):g a b∣a:=Int.gcd_dvd_left ..
def y7(a b:Int):g a b∣b:=Int.gcd_dvd_right ..
def dv(t b:Int):Int:=if b<0 then -(g t b)else g t b
def top(t b:Int):Int:=t.fdiv (dv t b)
def bot(t b:Int):Int:=b.fdiv (dv t b)
def nN{t b:Int}(c:b≠0):dv t b≠0:=by have:=za (a:=t) c;unfold dv;split<;>lia
def yR{a d q:Int}(c:d≠0)(h:a=d*q):a.fdiv d=q:=by subst h;rw[Int.mul_comm];exact Int.mul_fdiv_cancel q c
theorem split{t b:Int}(f:b≠0):t=dv t b*top t b/\b=dv t b*bot t b:=by
 have d:=nN (t:=t) f;have i:dv t b∣t:=by
  unfold dv;split;·exact Int.neg_dvd.mpr (y6 t b)
  ·exact y6 t b
 have h:dv t b∣b:=by
  unfold dv;split;·exact Int.neg_dvd.mpr (y7 t b)
  ·exact y7 t b
 obtain⟨p,c⟩:=i;obtain⟨q,a⟩:=h;constructor
 ·show t=dv t b*t.fdiv (dv t b);rw[yR d c];exact c
 ·show b=dv t b*b.fdiv (dv t b);rw[yR d a];exact a
structure lI(p q:Int):Prop where
 pos:0<q
 one:Int.gcd p q=1
def lY{t b:Int}(c:b≠0):lI (top t b) (bot t b):=by
 obtain⟨l,i⟩:=split (t:=t) c;have m:=nN (t:=t) c;have j:=za (a:=t) c;have f:(dv t b).natAbs=Int.gcd t b:=by unfold dv g;split<;>omega
 refine⟨?_,?_⟩
 ·rcases Int.lt_trichotomy b 0 with h|h|h
  ·have e:dv t b= -(g t b):=by unfold dv;rw[ae h]
   rw[e]at i;refine Int.lt_of_not_ge λd=>?_;have:0<= -(g t b)*bot t b:=by have:=Int.mul_nonneg_of_nonpos_of_nonpos (show -(g t b)<=0 by omega) d;exact this
   omega
  ·exact absurd h c
  ·have e:dv t b=g t b:=by unfold dv;rw[ah<|by omega]
   rw[e]at i;refine Int.lt_of_not_ge λd=>?_;have:g t b*bot t b<=0:=Int.mul_nonpos_of_nonneg_of_nonpos (cM j) d;omega
 ·have e:Int.gcd (dv t b*top t b) (dv t b*bot t b)=(dv t b).natAbs*Int.gcd (top t b) (bot t b):=Int.gcd_mul_left ..;rw[<-l,<-i,f]at e;have k:0<Int.gcd t b:=by unfold g at j;omega
  exact(Nat.eq_of_mul_eq_mul_left k<|by rw[Nat.mul_one];exact e).symm
def qm{t b:Int}(a:b≠0):top t b*b=t*bot t b:=by
 obtain⟨d,c⟩:=split (t:=t) a;have h:top t b*b=top t b*(dv t b*bot t b):=by rw[<-c]
 have f:t*bot t b=(dv t b*top t b)*bot t b:=by rw[<-d]
 rw[h,f];rw[<-Int.mul_assoc,Int.mul_comm<|top t b]
def yo{a b c:Int}(h:Int.gcd a b=1)(d:a∣b*c):a∣c:=by
 have f:Nat.Coprime a.natAbs b.natAbs:=h;have i:a.natAbs∣b.natAbs*c.natAbs:=by rw[<-eu];exact fx.mpr d
 exact fx.mp (f.dvd_of_dvd_mul_left i)
def Hd{p q d c:Int}(a:lI p q)(b:lI d c)(h:p*c=d*q):p=d/\q=c:=by
 obtain⟨i,k⟩:=a;obtain⟨f,j⟩:=b;have d1:q∣c:=by
  have:q∣p*c:=by rw[h];exact Int.dvd_mul_left ..
  exact yo (by rw[Int.gcd_comm];exact k) this
 have d2:c∣q:=by
  have:c∣d*q:=by rw[<-h];exact Int.dvd_mul_left ..
  exact yo (by rw[Int.gcd_comm];exact j) this
 have e:q=c:=Int.dvd_antisymm (cM i) (cM f) d1 d2;subst e;exact⟨c0 (by lia) h,rfl⟩
def Eg(t b:Int):(dv t b).natAbs=Int.gcd t b:=by unfold dv g;split<;>simp
def Eh{t b:Int}(a:b≠0):(dv t b).natAbs<=b.natAbs:=by rw[Eg];exact Nat.le_of_dvd (by simp_all) (Nat.gcd_dvd_right ..)
end FM
namespace T2
open PySem PySem.NumText TM
structure Ok(t b:Int):Prop where
 low:FM.lI t b
 ht:t.natAbs<10^60
 hb:b.natAbs<10^60
def Bp(t:Int){b:Int}(c:b≠0):(FM.top t b).natAbs<=t.natAbs/\(FM.bot t b).natAbs<=b.natAbs:=by
 obtain⟨f,d⟩:=FM.split (t:=t) c;have j:=FM.nN (t:=t) c;have a:1<=(FM.dv t b).natAbs:=by omega
 have i:t.natAbs=(FM.dv t b).natAbs*(FM.top t b).natAbs:=by rw[<-eu,<-f]
 have h:b.natAbs=(FM.dv t b).natAbs*(FM.bot t b).natAbs:=by rw[<-eu,<-d]
 rw[i,h];exact⟨fj _ a,fj _ a⟩
end T2
namespace TR
open PySem PySem.NumText TM T2
noncomputable def GG:fL (fL Nat):=[[109,97,114,107],[102,105,108,108],[104,101,114,101],[98,97,99,107],[111,110],[97,116],[97,103,111],[117,110,116,105,108],[97,98,115],[97,110,100],[111,114],[110,111,116]]
def Hg(c:Nat):f5:=decide (97<=c)&&decide (c<=122)
noncomputable def Pp(m:jQ):f5:=decide (m≠[])&&decide (m.length<=8)&&m.all Hg&&!decide (m∈GG)
structure Ok(m:jQ)(t u:Nat)(n:Int):Prop where
 m:Pp m=true
 t:t<=1000000000
 u:u<=1000000000
 n:n.natAbs<10^60
end TR
set_option exponentiation.threshold 500
namespace P2
open PySem L2
def LZ:wV i f ρ=toS (f ρ) λa=>if i<ρ.length then .nx (ρ.set i<|.ow a)else .bad:=rfl
def L0{fs}:pA i j fs ρ=toS (fs ρ) λa=>match a with
 |[d1,d2]=>if i<ρ.length/\j<ρ.length then .nx ((ρ.set i<|.sh d1).set j (.sh d2))else .bad
 |_=>.bad:=rfl
def Km:mX 3 f (s0::s1::s2::.ow ds::r)=toS (f<|s0::s1::s2::.ow ds::r) λd=>if ds.length<sizeLine then .nx (s0::s1::s2::.ow (ds++[d])::r)else .bad:=rfl
def Kn:mX 4 f (s0::s1::s2::s3::.ow ds::r)=toS (f<|s0::s1::s2::s3::.ow ds::r) λd=>if ds.length<sizeLine then .nx (s0::s1::s2::s3::.ow (ds++[d])::r)else .bad:=rfl
def K8:oT 3 (s0::s1::s2::.ow ds::r)=s0::s1::s2::gR ds::r:=rfl
def K9:oT 4 (s0::s1::s2::s3::.ow ds::r)=s0::s1::s2::s3::gR ds::r:=rfl
def LH:HD [.int i,.int j]=.ok (.int<|if j<i then j else i):=rfl
def AN(c:0<=j)(a:j<1000000):mx [.int j]=.ok (kZ 0 j.toNat):=by
 show(if -(2^62)<=j/\j<2^62 then R.ok (kZ 0 j.toNat)else .bad)=_
 grind
end P2
set_option hygiene false in
local macro_rules|`(tactic|walk_at "d")=>do let l:="P2.AL,P2.KA,P2.Kz,P2.Ms,P2.Mt,P2.Mr,P2.L8,P2.L9,P2.Ma,P2.L7,P2.AO,P2.Mw,P2.Mx,P2.My,P2.Mu,P2.Mz,P2.K2,P2.K1,P2.K3,P2.LQ,P2.LS,P2.LR,P2.L4,P2.LY,P2.L3,P2.LV,P2.L5,P2.LX,P2.KI,P2.KC,P2.KD,P2.Ku,P2.Kv,P2.Kw,P2.Ky,P2.Kx,P2.KH,P2.KS,P2.KR,P2.KQ,P2.KN,P2.KG,P2.Ke,P2.Kd,P2.Ks,P2.KO,P2.KU,P2.KJ,P2.LW,P2.LZ,P2.L0,P2.Km,P2.Kn,P2.K8,P2.K9,P2.LH,P2.AN,P2.Mq,P2.La,P2.Mj,P2.Ml,P2.Mm,P2.Mo,P2.Mn,P2.Mp,P2.Kg,P2.Mi,P2.ph,P2.j8,P2.LF,P2.LA,P2.Lc,P2.Lb,P2.LP,P2.AM,P2.KZ,P2.KY,P2.LN,P2.LO,P2.Le,P2.Ls,P2.Lv,P2.Lu,P2.Me,P2.Mf,P2.LU,P2.LC,P2.LB,P2.LD,P2.Kf,P2.LG,P2.Lf,P2.Kk,P2.Kl,P2.Mh,P2.MO,P2.Ld,P2.K5,P2.qI,P2.Ki,P2.LJ,P2.Ko,P2.Kr,P2.Kq,P2.K6,P2.Lz,P2.Ly,P2.Lh,P2.Lg,P2.Lj,P2.Lk,P2.Li,P2.Mb,P2.Mc,P2.Ll,P2.Lp,P2.Lm,P2.Lq,P2.Ln,P2.Lr,P2.MA,P2.MB,P2.MG,P2.MH,P2.MI,P2.MJ,P2.MK,P2.ML,P2.MM,P2.MN,P2.MC,P2.MD,P2.ME,P2.MF,P2.gY,ay,b9,aI,fw,cy,Nat.reduceAdd,Nat.reduceSub,List.replicate_zero,List.replicate_succ,aP,cQ,dH,List.set_cons_zero,List.set_cons_succ,cz,bU,Nat.reduceLT,Nat.zero_lt_succ,Bool.not_true,Bool.not_false,bR,reduceIte,eG,c7,Int.reduceLT,Int.reduceEq,Int.reduceNeg,Int.reducePow,Int.reduceSub,Int.reduceAdd,Int.reduceMul,aR".splitOn ","|>.toArray.map fun x=>Lean.mkIdent x.toName;`(tactic|try simp(disch:=first|assumption|decide|exact ai rfl)only[$[$l:ident],*])
namespace WP
open PySem L2 P2 TM T2 PySem.NumText
variable{a:Ad}
def Hz(i:Int):gX (y9 a<|gY 1 [.int i])=.ok (.bl true):=by rfl
theorem BD:∀(n:Nat) (x y:Int) (s2:Sl),0<=x->0<=y->y<n->
 ∃s,jX (b1 tB<|d2 mS (dV 1)<|fQ 0) (uy a) n [fV x,fV y,s2]=.nx [fV<|FM.g x y,fV 0,s]
 |0,x,y,s2,c,f,h=>by lia
 |n+1,x,y,s2,c,f,h=>by
  rw[tq];by_cases z:y=0
  ·subst z;refine⟨s2,?_⟩;walk_at "d"
   rw[FM.zc c]
  ·have d:0<y:=by lia
   have i:=bK x d;obtain⟨s,e⟩:=BD n y (x%y) (fV<|x%y) f (bO x z) (by lia);refine⟨s,?_⟩;unfold uy;iterate 4 (walk_at "d";try simp only[z,j8 d])
   rw[<-FM.zb c d];exact e
def Hn(x y:Int)(d:0<=x)(c:0<=y)(h:y.natAbs<10^400):gX (vh a<|gY 3 [.int x,.int y])=.ok (.int<|FM.g x y):=by
 obtain⟨s,e⟩:=BD (a:=a) oJ x y .no d c (by lia);unfold vh;walk_at "d"
 rw[e];walk_at "d"
def rR{t b:Int}(c:b≠0)(h:b.natAbs<10^400):(FM.dv t b).natAbs<10^400:=by have:=FM.Eh (t:=t) (b:=b) c;walk_at "l"
abbrev fr(t b:Int):D:=.tup [.int<|FM.top t b,.int<|FM.bot t b]
def Hm{j Fg:gk}(f:∀i:Int,j [.int i]=.ok (.bl true))(k:∀x y:Int,0<=x->0<=y->y.natAbs<10^400->Fg [.int x,.int y]=.ok (.int<|FM.g x y))(t b:Int)(c:b≠0)(h:b.natAbs<10^400):
    gX (vi a j Fg<|gY 3 [.int t,.int b])=.ok (fr t b):=by
 have d:=k (if t<0 then -t else t) (if b<0 then -b else b) (by split<;>lia) (by split<;>grind) (by split<;>simp_all);rw[FM.y4 t b]at d;have d1:=tj (i:=t) (FM.nN (t:=t) (b:=b) c) (rR c h);have d2:=tj (i:=b) (FM.nN (t:=t) (b:=b) c) (rR c h);unfold vi;by_cases b1:b<0
 ·have e:FM.dv t b= -(FM.g t b):=by unfold FM.dv;rw[ae b1]
  rw[ae b1]at d;rw[e]at d1 d2;iterate 8 (walk_at "d";try simp only[f,c,b1,d,d1,d2,c7,eG])
  unfold fr FM.top FM.bot;rw[e]
 ·have e:FM.dv t b=FM.g t b:=by unfold FM.dv;rw[ah b1]
  rw[ah b1]at d;rw[e]at d1 d2;iterate 8 (walk_at "d";try simp only[f,c,b1,d,d1,d2,c7,eG])
  unfold fr FM.top FM.bot;rw[e]
end WP
namespace CK
def EL{x y d a:Int}(f:y≠0)(c:a≠0)(h:x*a=d*y):FM.top x y=FM.top d a/\FM.bot x y=FM.bot d a:=by
 have j:=FM.qm (t:=x) f;have i:=FM.qm (t:=d) c;refine FM.Hd (FM.lY f) (FM.lY c) ?_;have e:(FM.top x y*FM.bot d a)*(y*a)=(FM.top d a*FM.bot x y)*(y*a):=by grind
 exact c0 (bC f c) e
def share{f a j d t c i:Int}(D:FM.lI f a)(L2:FM.lI j d)(h:c<i){k n l o u m:Int}
    (p:k=FM.top (t - c) (i - c)/\n=FM.bot (t - c) (i - c))(q:l=FM.top (j*a - f*d) (d*a)/\o=FM.bot (j*a - f*d) (d*a))
    (r:u=FM.top (k*l) (n*o)/\m=FM.bot (k*l) (n*o)):
    FM.top (f*m+u*a) (a*m)=FM.top (f*(i - t)*d+j*(t - c)*a) ((i - c)*a*d)/\FM.bot (f*m+u*a) (a*m)=FM.bot (f*(i - t)*d+j*(t - c)*a) ((i - c)*a*d):=by
 have y:=D.pos;have x:=L2.pos;have hT:i - c≠0:=by omega
 have v:d*a≠0:=bC (by omega) (by omega);have C:=FM.qm (t:=t - c) hT;have z1:=(FM.lY (t:=t - c) hT).pos;have A:=FM.qm (t:=j*a - f*d) v;have z2:=(FM.lY (t:=j*a - f*d) v).pos;rw[<-p.1,<-p.2]at C;rw[<-p.2]at z1;rw[<-q.1,<-q.2]at A;rw[<-q.2]at z2;have s:n*o≠0:=bC (by omega) (by omega);have z:=FM.qm (t:=k*l) s;have w:=(FM.lY (t:=k*l) s).pos;rw[<-r.1,<-r.2]at z;rw[<-r.2]at w;refine EL (bC (by omega)<|by omega) (bC (bC hT<|by omega)<|by omega) ?_;refine c0 s ?_
 grind
end CK
namespace WP
open PySem L2 P2 TM T2 PySem.NumText
variable{a:Ad}
def Sz(n:Nat)(i:Int):Prop:=i.natAbs<10^n
def Sz.mono{n}{i:Int}(h:Sz m i)(le:m<=n):Sz n i:=ao h (Nat.pow_le_pow_right (by decide) le)
def Sz.mul{n}{i j:Int}(h:Sz m i)(g:Sz n j):Sz (m+n) (i*j):=by unfold Sz at*;rw[eu,Nat.pow_add];exact Nat.mul_lt_mul'' h g
def Sz.sub{n}{i j:Int}(h:Sz n i)(g:Sz n j):Sz (n+1) (i - j):=by unfold Sz at*;have:(10:Nat)^(n+1)=10^n*10:=Nat.pow_succ ..;omega
def Sz.top{n}{t b:Int}(h:Sz n t)(c:b≠0):Sz n (FM.top t b):=Nat.lt_of_le_of_lt (Bp t c).1 h
def Sz.bot{n}{t b:Int}(h:Sz n b)(c:b≠0):Sz n (FM.bot t b):=Nat.lt_of_le_of_lt (Bp t c).2 h
def jL{i j:Int}(h:Sz 190 i)(g:Sz 190 j):hK (.int i) (.int j)=.ok (.int<|i*j):=LL (h.mono<|by decide) (g.mono<|by decide)
abbrev pr(p q:Int):D:=.tup [.int p,.int q]
section
variable{l:gk}(hf:∀t b:Int,b≠0->b.natAbs<10^400->l [.int t,.int b]=.ok (fr t b)){p q x y:Int}(j:Sz 190 p)(h:Sz 190 q)(i:Sz 190 x)(c:Sz 190 y)
include hf j h i c
theorem Ht(v:q≠0)(u:y≠0):gX (vl a l<|gY 2 [pr p q,pr x y])=.ok (fr (p*y+x*q)<|q*y):=by have s:L2.gO [D.int p,D.int q] 0=some (.int p):=rfl;have r:L2.gO [D.int p,D.int q] 1=some (.int q):=rfl;have o:L2.gO [D.int x,D.int y] 0=some (.int x):=rfl;have n:L2.gO [D.int x,D.int y] 1=some (.int y):=rfl;have m:=jL j c;have k:=jL i h;have d:=jL h c;have f:=hf (p*y+x*q) (q*y) (bC v u) ((h.mul c).mono (by decide));unfold vl;iterate 7 (walk_at "d";try simp only[s,r,o,n,m,k,d,f])
theorem Hr(v:q≠0)(u:y≠0):gX (vk a l<|gY 2 [pr p q,pr x y])=.ok (fr (p*y - x*q)<|q*y):=by have s:L2.gO [D.int p,D.int q] 0=some (.int p):=rfl;have r:L2.gO [D.int p,D.int q] 1=some (.int q):=rfl;have o:L2.gO [D.int x,D.int y] 0=some (.int x):=rfl;have n:L2.gO [D.int x,D.int y] 1=some (.int y):=rfl;have m:=jL j c;have k:=jL i h;have d:=jL h c;have f:=hf (p*y - x*q) (q*y) (bC v u) ((h.mul c).mono (by decide));unfold vk;iterate 7 (walk_at "d";try simp only[s,r,o,n,m,k,d,f])
theorem Hw(u:q≠0)(s:y≠0):gX (vn a l<|gY 2 [pr p q,pr x y])=.ok (fr (p*x)<|q*y):=by have r:L2.gO [D.int p,D.int q] 0=some (.int p):=rfl;have o:L2.gO [D.int p,D.int q] 1=some (.int q):=rfl;have n:L2.gO [D.int x,D.int y] 0=some (.int x):=rfl;have m:L2.gO [D.int x,D.int y] 1=some (.int y):=rfl;have k:=jL j i;have d:=jL h c;have f:=hf (p*x) (q*y) (bC u s) ((h.mul c).mono (by decide));unfold vn;iterate 7 (walk_at "d";try simp only[r,o,n,m,k,d,f])
end
structure Ck where
 m:fR
 t:Int
 p:Int
 q:Int
abbrev Ck.d(c:Ck):D:=.tup [.str c.m,.int c.t,pr c.p c.q]
def n7(t c d:Int):Int×Int:=if c=d then(0,1)else(FM.top (t - c)<|d - c,FM.bot (t - c)<|d - c)
def Hv{h:gk}(hf:∀t b:Int,b≠0->b.natAbs<10^400->h [.int t,.int b]=.ok (fr t b))(t c d:Int)(j:Sz 20 c)(i:Sz 20 d):gX (vm a h<|gY 3 [.int t,.int c,.int d])=.ok (pr (n7 t c d).1 (n7 t c d).2):=by
 unfold vm n7;by_cases e:c=d
 ·have f:=hf 0 1 (by decide) (by decide);have k:h [.int 0,.int 1]=.ok (pr 0 1):=by rw[f];rfl
  iterate 5 (walk_at "d";try simp only[e,k,eG])
 ·have f:=hf (t - c) (d - c) (by omega) ((i.sub j).mono (by decide));iterate 5 (walk_at "d";try simp only[e,f,c7])
end WP
namespace WP
open PySem L2 P2 TM T2 PySem.NumText
variable{a:Ad}
def lt_size{n}(h:n<1000000):n<sizeLine:=ao h (by decide)
def CC(c:jw)(k)(h:k<c.length):L2.gO (c.map D.int) (k:Int)=some (.int<|c.getD k 0):=by refine ux ?_;simp_all
def Hj(c:jw)(k:Nat):gX (vp a<|gY 2 [.lst<|c.map .int,.int k])=.ok (.int<|c.getD k 0):=by
 unfold vp;walk_at "d"
 rw[ar];by_cases h:k<c.length
 ·rw[ae<|aE<|by simp_all,CC c k h];walk_at "d"
 ·rw[ah<|by simp;simp_all];walk_at "d"
  simp_all
theorem BE:∀(n:Nat) (x y:Int) (d c:Sl),0<=x->0<=y->y<n->
 jX (b1 tB<|d2 lU (dV 3)<|fQ 0) (uz a) n [d,c,fV x,fV y]=.nx [d,c,fV<|FM.g x y,fV 0]
 |0,x,y,d,c,i,j,h=>by lia
 |n+1,x,y,d,c,i,j,h=>by
  rw[tq];by_cases z:y=0
  ·subst z;walk_at "d"
   rw[FM.zc i]
  ·have f:0<y:=by lia
   have k:=bK x f;have e:=BE n y (x%y) d c j (bO x z) (by lia);unfold uz;iterate 4 (walk_at "d";try simp only[aE f,j8 f,and_self])
   rw[<-FM.zb i f];exact e
def Hq(t b)(d:0<b)(h:b.natAbs<10^400):gX (vt a<|gY 4 [.int t,.int b])=.ok (fr t b):=by
 have e:=BE (a:=a) oJ (if t<0 then -t else t) b (fV t) (fV b) (by split<;>lia) (by walk_at "l") (by lia);have c:FM.g (if t<0 then -t else t) b=FM.dv t b:=by have:=FM.y4 t b;rw[ah<|show¬b<0 by lia]at this;rw[this];unfold FM.dv;rw[ah<|by lia]
 rw[c]at e;have d1:=tj (i:=t) (FM.nN (t:=t) (b:=b)<|by lia) (rR (t:=t) (b:=b) (by lia) h);have d2:=tj (i:=b) (FM.nN (t:=t) (b:=b)<|by lia) (rR (t:=t) (b:=b) (by lia) h);unfold vt;iterate 4 (walk_at "d";try simp only[and_self])
 rw[e];iterate 4 (walk_at "d";try simp only[d1,d2])
 rfl
def sS(d:PyData.strOk x=true)(c:PyData.strOk y=true):PyData.strOk (x++y)=true:=by unfold PyData.strOk at*;rw[<-Array.all_toList]at*;show((oM<|x++y).all _)=true;rw[ye,List.all_append,aK];exact⟨d,c⟩
def len_app{y:fR}:(x++y).length=x.length+y.length:=by rw[vR,ye,aj,<-vR,<-vR]
def CF:∀n:Nat,n<3->∃c,c<128/\L2.gO (Str.ofString "qxz").cps.toList (n:Int)=some c:=by decide
def CD:∀n:Nat,n<26->∃c,c<128/\L2.gO (Str.ofString "abcdefghijklmnopqrstuvwxyz").cps.toList (n:Int)=some c:=by decide
def wm(h:c<128):PyData.strOk ⟨#[c]⟩=true:=by unfold PyData.strOk;simp;walk_at "l"
def Gu(j)(h:0<=j/\j<3):∃c,c<128/\L2.gO (Str.ofString "qxz").cps.toList j=some c:=by obtain⟨n,rfl⟩:=bh h.1;exact CF n (by omega)
def Gq(j)(h:0<=j/\j<26):∃c,c<128/\L2.gO (Str.ofString "abcdefghijklmnopqrstuvwxyz").cps.toList j=some c:=by obtain⟨n,rfl⟩:=bh h.1;exact CD n (by omega)
def lq:(Str.ofString "qxz").length<=sizeLine:=by decide
def la:(Str.ofString "abcdefghijklmnopqrstuvwxyz").length<=sizeLine:=by decide
def M4(n):kZ 0 n=((List.range n).map λ(k:Nat)=>(k:Int)).map D.int:=by unfold kZ;simp
end WP
namespace WM
open PySem L2 P2 WP TM T2 PySem.NumText
variable{a:Ad}
inductive Fq where
 |back|on|ago|OH
inductive Bq where
 |add|sub|lt|eq|and|or
inductive T7 where
 |num(p q:Int)|at(w:Str)|here|far(k:Fq)(n:Int)|times(p q:Int)(t:T7)|abs(t:T7)|not(t:T7)|bin(k:Bq)(l r:T7)
def FY{f:α->D}(h:∀x,ik (f x)=some sg)(L:fL α):ml (L.map f)=true:=by
 cases L with
 |nil=>rfl
 |cons x r=>show((ik<|f x).isSome&&(r.map f).all λe=>ik e==ik (f x))=true;simp_all
inductive Ask where
 |here|back(n:Int)|on(n:Int)|at(w:Str)
def qf(h:f ρ=.ok X):gZ f ρ=.ok (.lst X):=by unfold gZ;rw[h];rfl
variable{a:Ad}
section
variable{j m:gQ}{S S1 l p:f7}{f g h:gU}{i:Nat}{z:Z}{c:oz}{u v:gS}
def hL(e:u j S=.nx m S1):gh u v j S=v m S1:=by unfold gh;rw[e];rfl
def BL(e:u j S=.rt z S1):gh u v j S=.rt z S1:=by unfold gh;rw[e];rfl
def i4(e:f j S=.ok z S1)(d:i<j.length):gH i f j S=.nx (j.set i<|some z) S1:=by unfold gH;rw[e];exact ae d
def y_ret(e:f j S=.ok z S1):jY f j S=.rt z S1:=by unfold jY;rw[e];rfl
def nj(e:c j S=.ok true S1):iw c u v j S=u j S1:=by unfold iw;rw[e];rfl
def xq(e:c j S=.ok false S1):iw c u v j S=v j S1:=by unfold iw;rw[e];rfl
def lE{w}(e:c j S=.ok false S1):gh (iw c u jk) w j S=w j S1:=hL (xq e)
def xp{w}(e:c j S=.ok true S1)(h:u j S1=.rt z l):gh (iw c u jk) w j S=.rt z l:=BL ((nj e).trans h)
def nq(e:j[i]?=some (some z)):zV i j S=.ok z S:=by unfold zV;rw[e]
def gI{q:gf}{d}(e:q (ig j)=.ok d):zD q j S=.ok (.d d) S:=by unfold zD;rw[e];rfl
def l6{q:iM}{d}(e:q (ig j)=.ok d):zB q j S=.ok d S:=by unfold zB;rw[e];rfl
def tR{q:gf}{d}(e:q (vw S j)=.ok d)(h:ko d=true):zR q j S=.ok (.d d) S:=by unfold zR;rw[e];exact ae h
def oj{q:iM}{d}(e:q (vw S j)=.ok d):ku q j S=.ok d S:=by unfold ku;rw[e]
def kL:hZ j S=.ok [] S:=rfl
def hU{r:mH}(e:f j S=.ok z S1)(d:r j S1=.ok zs l):gm f r j S=.ok (z::zs) l:=by unfold gm;rw[e];show((r j S1).bind _)=_;rw[d];rfl
def qV{q:gk}{r:mH}(k:gx){d}(e:r j S=.ok (k.map .d) S1)(n:q k=.ok d):zF q r j S=.ok (.d d) S1:=by
 unfold zF;rw[e];show(match kg (k.map Z.d)with
 |some k=>(jf (q k) S1).bind λd S=>RX.ok (Z.d d) S
 |none=>.bad)=_
 rw[oE];show(jf (q k) S1).bind _=_;rw[n];rfl
def nk{q:mJ}{w}(n:f j S=.ok (.d x) S1)(k:g j S1=.ok (.d y) l)(d:q x y=.ok w):z2 q f g j S=.ok (.d w) l:=by unfold z2;rw[n];show((g j S1).bind _)=_;rw[k];show((jf (q x y) l).bind _)=_;rw[d];rfl
def PU{q:D->R f5}{k}(n:f j S=.ok (.d x) S1)(d:q x=.ok k):pQ q f j S=.ok k S1:=by unfold pQ;rw[n];show jf (q x) S1=_;rw[d];rfl
def nt{F:ix}{r:mH}(e:r j S=.ok zs S1)(d:F zs S1=x):zZ F r j S=x:=by unfold zZ;rw[e];exact d
end
abbrev Env:=Ask->Int×Int×Int
def lo(t b:Int):Int×Int:=(FM.top t b,FM.bot t b)
noncomputable def wv(e:Env):T7->Int×Int
 |.num p q=>lo p q
 |.here=>lo (e .here).2.1 (e .here).2.2
 |.at w=>lo (e<|.at w).2.1 (e<|.at w).2.2
 |.far .back n=>lo (e<|.back n).2.1 (e<|.back n).2.2
 |.far .on n=>lo (e<|.on n).2.1 (e<|.on n).2.2
 |.far .ago n=>lo ((e .here).1 - (e<|.back n).1) 1
 |.far .OH n=>lo ((e<|.on n).1 - (e .here).1) 1
 |.times p q t=>lo (p*(wv e t).1) (q*(wv e t).2)
 |.abs t=>lo ((wv e t).1.natAbs:Int) (wv e t).2
 |.bin .add l r=>lo ((wv e l).1*(wv e r).2+(wv e r).1*(wv e l).2) ((wv e l).2*(wv e r).2)
 |.bin .sub l r=>lo ((wv e l).1*(wv e r).2 - (wv e r).1*(wv e l).2) ((wv e l).2*(wv e r).2)
 |_=>(0,1)
noncomputable def hv(e:Env):T7->f5
 |.bin .lt l r=>decide ((wv e l).1*(wv e r).2<(wv e r).1*(wv e l).2)
 |.bin .eq l r=>decide (wv e l=wv e r)
 |.not t=>!hv e t
 |.bin .and l r=>hv e l&&hv e r
 |.bin .or l r=>hv e l||hv e r
 |_=>false
def Hb{s}{t b:Int}(c:b≠0)(d:Sz s t)(f:Sz r b):Sz s (lo t b).1/\Sz r (lo t b).2/\(lo t b).2≠0:=⟨d.top c,f.bot c,λh=>by have:=(FM.lY (t:=t) c).pos;have i:FM.bot t b=0:=h;simp_all⟩
def Ar:Sz 62 1:=by unfold Sz;decide
variable{a:Ad}
variable{a:Ad}
variable{a:Ad}
section
variable{f:Type}[DecidableEq f]{kvs:fL<|f×Z}{k c:f}{v:Z}
def pJ(x):valZ (x::kvs) k=if x.1=k then some x.2 else valZ kvs k:=by
 unfold valZ
 grind
def O2(x):valZ (kvs++[x]) k=(match valZ kvs k with|some z=>some z|none=>if x.1=k then some x.2 else none):=by
 induction kvs with
 |nil=>exact pJ x
 |cons y r d=>
  rw[dH,pJ,pJ]
  lia
def O3(h:(kvs.any λd=>decide<|d.1=k)=false):valZ kvs k=none:=by
 unfold valZ
 grind
def O4:valZ (jK kvs k v) c=if k=c then some v else valZ kvs c:=by
 unfold jK;cases h:kvs.any λi=>decide (i.1=k)with
 |false=>
  rw[ah aN,O2];by_cases e:k=c;·subst e;rw[O3 h,ae rfl];try rfl
  ·rw[ah e];cases valZ kvs c<;>simp[e]
 |true=>
  rw[ae rfl];by_cases e:k=c
  ·subst e;rw[ae rfl];induction kvs with
   |nil=>cases h
   |cons x r d=>
    rw[ay,pJ]
    grind
  ·rw[ah e];clear h;induction kvs with
   |nil=>rfl
   |cons x r d=>
    rw[ay,pJ,pJ,d]
    lia
def G3:(jK kvs k v).length<=kvs.length+1:=by
 unfold jK
 grind
def Fi{n}(h:((jK kvs k v).any λp=>jI n p.2)=true):(kvs.any λp=>jI n p.2)=true\/jI n v=true:=by
 obtain⟨x,d,q⟩:=List.any_eq_true.mp h;unfold jK at d
 grind
end
abbrev kO(S:f7)(j:Nat):Prop:=S.any (lQ j)=false
def k8(S:f7):Prop:=∀j,S.length<=j->kO S j
def qL(h:kO S j)(d:lQ j c=false):kO (S++[c]) j:=by grind
def m8{n}(h:kO S j)(f:lQ j c=false):kO (S.set n c) j:=
 cY.mpr λx d=>by
  rcases List.mem_or_eq_of_mem_set d with d|d;·exact cY.mp h x d
  ·subst d;rw[f];exact aN
def lj(L:gx)(j):lQ j (.li<|L.map Z.d)=false:=by show(L.map Z.d).any (jI j)=false;rw[List.any_map];exact cY.mpr λ_ _=>nofun
structure Gr(S S':f7):Prop where
 len:S.length<=S'.length
 pre:∀j,j<S.length->S'[j]?=S[j]?
 sf:∀j,j<S.length->kO S j->kO S' j
 bnd:k8 S->k8 S'
def Gr.trans(g:Gr S S1)(h:Gr S1 S2):Gr S S2:=⟨aC g.len h.len,λj c=>(h.pre j<|ao c g.len).trans (g.pre j c),λj c s=>h.sf j (ao c g.len)<|g.sf j c s,λb=>h.bnd<|g.bnd b⟩
def Gr.app(f:∀j,lQ j c=false):Gr S (S++[c]):=⟨by rw[aj];exact Nat.le_add_right ..,λj d=>aB d,λj _ h=>qL h<|f j,λb j d=>qL (b j<|by rw[aj]at d;walk_at "l")<|f j⟩
def Gr.get{S}{n:Nat}(g:Gr S S')(h:S[n]?=some c):S'[n]?=some c:=(g.pre n (au.mp h).1).trans h
def tE{n}(h:n<100000):n<sizeLine:=ao h (by decide)
def r6(S:f7)(c):(S++[c])[S.length]?=some c:=by simp
def v8{S:f7}{n}(h:S[n]?=some c):n<S.length:=(au.mp h).1
section
variable{c:gQ}{S j m l:f7}{f g h:gU}{i n:Nat}{z:Z}{q:gf}
def PH{d k}(h:f c S=.ok (.loc n) S)(o:q (ig c)=.ok d)(p:lX d=some k)(r:S[n]?=some (.dk kvs))(hv:valZ kvs k=some z):tO f q c S=.ok z S:=by
 unfold tO;rw[h];rw[o]
 show(match Z.loc n,lX d with
  |.loc n,some k=>(match S[n]? with
   |some (.dk kvs)=>(match valZ kvs k with
    |some z=>RX.ok z S
    |none=>.bad)
   |_=>.bad)
  |_,_=>.bad)=_
 rw[p];simp_all
def Pr(k:c[i]?=some (f3 n))(p:S[n]?=some (.li zs))(hf:f c S=.ok z j)(o:j[n]?=some (.li BS))(d:BS.length<100000):oh i f c S=.nx c (j.set n<|.li<|BS++[z]):=by
 unfold oh;rw[k]
 show(match S[n]? with
  |some (.li _)=>toZ (f c S) λz j=>(match j[n]? with
   |some (.li zs)=>if zs.length<sizeLine then iY.nx c (j.set n<|.li<|zs++[z])else .bad
   |_=>.bad)
  |_=>.bad)=_
 rw[p];rw[hf]
 show(match j[n]? with
  |some (.li zs)=>if zs.length<sizeLine then iY.nx c (j.set n<|.li<|zs++[z])else .bad
  |_=>.bad)=_
 rw[o];exact ae (tE d)
def pK(o:S[n]?=some (.li<|L.map Z.d)):k7 S (f3 n)=gR L:=by
 show(match S[n]? with
  |some (.li k)=>(match kg k with
   |some d=>Sl.sh (.lst d)
   |none=>.no)
  |_=>.no)=_
 rw[o]
 show(match kg (L.map Z.d)with
  |some d=>Sl.sh (.lst d)
  |none=>.no)=_
 rw[oE]
end
variable{a:Ad}
structure Rd where
 m:fR
 t:Int
 p:Int
 q:Int
def Rd.d(r:Rd):D:=.tup [.str r.m,.int r.t,pr r.p r.q]
def own(c:fL Rd)(m:fR):fL Rd:=c.filter λr=>decide (r.m=m)
def Aw(row r m):own (row++[r]) m=own row m++(if r.m=m then[r]else[]):=by
 unfold own
 grind
abbrev pk(m:fR)(t:Int):fL Key:=[.inr m,.inl t]
variable{a:Ad}
section
abbrev _root_.oA:=fL (Key×Z)
variable{S m:f7}{n j i h:Nat}{M:oA}{P:fL<|fL Key×Z}{lc:fR->fU Nat}{f:fL Rd}{l:ix}
def NB(S:f7)(c c'):(S++[c]).set S.length c'=S++[c']:=by simp
variable{a:Ad}
variable{a:Ad}
abbrev Kt:=Int×fR
variable{r:Rd}{A:fL Ask}{B:fL<|Ask×Rd}
def nR(s:Rd):Kt:=(s.t,s.m)
end
variable{a:Ad}
structure iP(n:Nat)(T T':f7):Prop where
 len:T.length<=T'.length
 pre:∀j,j<n->T'[j]?=T[j]?
 sf:∀j,j<n->kO T j->kO T' j
 bnd:k8 T->k8 T'
def iP.refl(n T):iP n T T:=⟨af _,λ_ _=>rfl,λ_ _ h=>h,λh=>h⟩
def iP.trans{n}(x:iP n T T1)(y:iP n T1 T2):iP n T T2:=⟨aC x.len y.len,λj h=>(y.pre j h).trans (x.pre j h),λj h s=>y.sf j h<|x.sf j h s,λb=>y.bnd<|x.bnd b⟩
def iP.set{n}{T:f7}(k:n<=i)(f:∀j,(j<n\/T.length<=j)->lQ j c=false):iP n T (T.set i c):=⟨by rw[aR];exact af _,λj h=>aq<|by lia,λj h s=>m8 s<|f j<|.inl h,λb j d=>by rw[aR]at d;exact m8 (b j d) (f j<|.inr d)⟩
variable{a:Ad}
structure jB(r:Rd):Prop where
 t:Sz 61 r.t
 low:FM.lI r.p r.q
 p:Sz 62 r.p
 q:Sz 62 r.q
section
variable{S m:f7}{f q s b:Nat}{p:fL Rd}{c left:gx}
def Gr.lw(g:Gr S m)(d:b<=S.length):iP b S m:=⟨g.len,λj h=>g.pre j<|by walk_at "l",λj h=>g.sf j<|by walk_at "l",g.bnd⟩
def iP.NA{L:gx}(h:b<=i):iP b S (S.set i<|.li<|L.map .d):=iP.set h λj _=>lj _ _
variable{A B:gk}{x t z y v:ix}
variable{a:Ad}
variable{l:gQ}
def BK{n g}{L:gx}(h:l[i]?=some (f3 n))(d:S[n]?=some (.li<|L.map .d))(k:b<=n)(j:kO S n):pN b i g l S=g (l.map<|k6 n<|.lst L) (S.set n .no):=by
 unfold pN oU;rw[h];dsimp only;rw[d];dsimp only;rw[oE]
 lia
structure Out(S:f7)(f:Nat)(c:gx):Prop where
 m0:S[0]?=some .mk
 bnd:k8 S
 tt:S[f]?=some (.li<|c.map .d)
 st:kO S f
 o0:0<f
end
variable{a:Ad}
abbrev sc(x b:Int):Cell:=.li [.d<|.int x,.d<|.int b]
abbrev sx(S:f7)(nn:Nat)(x b:Int):f7:=S.set nn (sc x b)
variable{S:f7}{C:Nat}
def Bj(c:C<S.length)(x b):(sx S C x b)[C]?=some (.li<|([.int x,.int b]:fL D).map Z.d):=aD c
def pE(c:C<S.length)(x b)(s):vw (sx S C x b) (f3 C::s)=gR [.int x,.int b]::vw (sx S C x b) s:=by show k7 _ _::_=_;rw[pK<|Bj c x b];rfl
def Bk(c:C<S.length){b}{s}(h:f (f3 C::s) (sx S C x b)=.ok (.d<|.int y) (sx S C x b)):pO 0 (fQ 0) f (f3 C::s) (sx S C x b)=.nx (f3 C::s) (sx S C y b):=by
 unfold pO;rw[h]
 show(match D.int 0,(sx S C x b)[C]? with
  |.int j,some (.li zs)=>(match lW zs.length j with
   |some m=>iY.nx (f3 C::s) ((sx S C x b).set C (.li<|zs.set m<|.d<|.int y))
   |none=>.bad)
  |_,_=>.bad)=_
 rw[Bj c];show iY.nx (f3 C::s) ((sx S C x b).set C (sc y b))=_;simp
def K0(d:0<j)(c:j.natAbs<2^300):hJ (.int i) (.int j)=.ok (.int<|i/j):=by have f:bits j<=300:=bits_le c;rw[wK,ae<|by unfold o9;simp only[aK,aY];lia,eh _<|by walk_at "l"]
def Hs(f:C<S.length)(m x b)(h:0<m)(o:m.natAbs<2^300)(bb):∃r c:Int,0<=r/\r<m/\hY (vu a bb (je 3 [.loc C,.d<|.int m])<|sx S C x b)=.ok (.d<|.int r) (sx S C c b):=by
 have l:=bO x (show m≠0 by lia);have k:=bK x h;unfold vu;show∃r c:Int,0<=r/\r<m/\hY (gh (iw (ku _) _ _) _ [f3 C,fT m,none]<|sx S C x b)=_;by_cases j:b=0
 ·subst j;refine⟨x%m,x/m,l,k,?_⟩;rw[BL (z:=.d<|.int<|x%m) (S1:=sx S C (x/m) 0)];·rfl
  ·rw[nj<|oj (d:=true)<|by rw[pE f];rfl];rw[hL<|i4 (tR (d:=.int<|x%m) (by rw[pE f];show gA (.int x) (.int m)=_;exact j8 h) rfl)<|ai rfl];show gh (pO 0 _ _) _ [f3 C,fT m,fT<|x%m] (sx S C x 0)=_;rw[hL<|Bk f (y:=x/m)<|tR (by rw[pE f];show hJ (.int x) (.int m)=_;exact K0 h o) rfl];exact y_ret (gI rfl)
 ·generalize n:(x%2147483647*48271+1013)%2147483629=c;generalize i:c*69621%2147483587/11%m=r;refine⟨r,c,by rw[<-i];exact bO _ (by lia),by rw[<-i];exact bK _ h,?_⟩;rw[lE (oj (d:=false) (S:=sx S C x b) (by rw[pE f];show(R.ok (decide (b=0)):R f5)=_;rw[ax j]))];rw[hL (Bk f (y:=c) (tR (by
   rw[pE f];show(((((gA (.int x) (.int 2147483647)).bind λy=>hK y (.int 48271)).bind λy=>gM y (.int 1013)).bind λy=>gA y (.int 2147483629)))=_;rw[j8 (by decide)];show(((hK (.int (x%2147483647)) (.int 48271)).bind λy=>gM y (.int 1013)).bind λy=>gA y (.int 2147483629))=_;rw[wL (by decide) (by decide)];show gA (.int (x%2147483647*48271+1013)) (.int 2147483629)=_;rw[j8 (by decide),n]) rfl))]
  rw[y_ret<|tR (d:=.int r) (by rw[pE f];show(((((hK (.int c)<|.int 69621).bind λy=>gA y<|.int 2147483587).bind λy=>hJ y<|.int 11).bind λy=>gA y<|.int m))=_;rw[wL (by decide)<|by decide];show(((gA (.int<|c*69621)<|.int 2147483587).bind λy=>hJ y<|.int 11).bind λy=>gA y<|.int m)=_;rw[j8<|by decide];show((hJ (.int<|c*69621%2147483587)<|.int 11).bind λy=>gA y<|.int m)=_;rw[ph (by decide)<|by decide];show gA (.int<|c*69621%2147483587/11) (.int m)=_;rw[j8 h,i]) rfl]
  rfl
def Pk(d:ix):Prop:=∀{S:f7} {C:Nat},C<S.length->∀m x b:Int,0<m->m.natAbs<2^300->∃r c:Int,0<=r/\r<m/\d [.loc C,.d<|.int m] (sx S C x b)=.ok (.d<|.int r) (sx S C c b)
def Lw(Fl:gk):Prop:=∀t b:Int,0<b->b.natAbs<10^400->Fl [.int t,.int b]=.ok (fr t b)
variable{E I J K:ix}{Fl:gk}{b:Int}{H:gu}{Q:T7->Prop}{n k:Nat}
def I8{m:Int}(d:0<m)(c:m<1000):m.natAbs<2^300:=ao (by omega:m.natAbs<1000) (by decide)
def sY(h:Pk E)(i:C<S.length)(m x:Int)(f:0<m)(o:m<1000):∃r c:Int,0<=r/\r<m/\∀ρ:gQ,ρ[0]?=some (f3 C)->zZ E (gm (zV 0) (gm (zD (fQ m)) hZ)) ρ (sx S C x b)=.ok (.d (.int r)) (sx S C c b):=by obtain⟨r,c,l,j,e⟩:=h i m x b f (I8 f o);exact⟨r,c,l,j,λρ d=>nt (hU (nq d)<|hU (gI rfl) kL) e⟩
def He{t b}(d:0<b)(f:b<1000)(c:t.natAbs<1000):(lo t b).2≠0/\Sz 62 (lo t b).1/\Sz 62 (lo t b).2:=by have h:=Hb (t:=t) (b:=b) (s:=62) (r:=62) (by lia) (ao c<|by decide) (ao (by grind:b.natAbs<1000)<|by decide);simp_all
end WM
namespace WP
open PySem L2 P2 TM T2 PySem.NumText
variable{a:Ad}
def kG(j:Int):Nat:=(L2.gO (Str.ofString "qxz").cps.toList j).getD 0
def ki(j:Int):Nat:=(L2.gO (Str.ofString "abcdefghijklmnopqrstuvwxyz").cps.toList j).getD 0
def yi(j)(h:0<=j/\j<3):kG j<128/\L2.gO (Str.ofString "qxz").cps.toList j=some (kG j):=by obtain⟨c,f,d⟩:=Gu j h;unfold kG;rw[d];exact⟨f,rfl⟩
def C4(j)(h:0<=j/\j<26):ki j<128/\L2.gO (Str.ofString "abcdefghijklmnopqrstuvwxyz").cps.toList j=some (ki j):=by obtain⟨c,f,d⟩:=Gq j h;unfold ki;rw[d];exact⟨f,rfl⟩
def C5(f:0<=i/\i<26)(d:0<=j/\j<26)(h:ki i=ki j):i=j:=by
 have c:∀n:Nat,n<26->ki (n:Int)=97+n:=by decide+kernel
 obtain⟨n,rfl⟩:=bh f.1;obtain⟨m,rfl⟩:=bh d.1;have l:=c n (by lia);have k:=c m (by lia);have:ki (n:Int)=ki (m:Int):=h;simp_all
def more(c:Int)(d:jw)(z:fR):fR:=d.foldl (λz j=>z++⟨#[kG<|c/(3+j)%3]⟩) z
theorem BI(c)(s1 s2 s3 s4):∀d z h,(∀j∈d,0<=j/\j<100)->PyData.strOk z=true->z.length+d.length<=100->
 ∃f,PyData.strOk (more c d z)=true/\(more c d z).length=z.length+d.length/\jy (gV 6) (qh a) (d.map D.int) [fV c,s1,s2,s3,s4,g0 z,h]=.nx [fV c,s1,s2,s3,s4,g0<|more c d z,f]
 |[],z,h,_,l,m=>⟨h,l,by simp[more],rfl⟩
 |j::d,z,h,n,l,m=>by
  have p:=n j (dg ..);rw[aI]at m;obtain⟨r,o⟩:=yi (c/(3+j)%3) (by grind);have v:hJ (.int c) (.int<|3+j)=.ok (.int<|c/(3+j)):=ph (by lia) (by lia);have k:(⟨#[kG<|c/(3+j)%3]⟩:fR).length=1:=rfl;have w:gM (.str z) (.str ⟨#[kG (c/(3+j)%3)]⟩)=.ok (.str (z++⟨#[kG (c/(3+j)%3)]⟩)):=qI (by lia) (by rw[k];decide);obtain⟨f,u,t,s⟩:=BI c s1 s2 s3 s4 d (z++⟨#[kG (c/(3+j)%3)]⟩) (fV j) (λi q=>n i (cw _ q)) (sS l (wm r)) (by rw[len_app,k];lia);refine⟨f,u,by show(more c d (z++_)).length=_;rw[t,len_app,k,aI];lia,?_⟩;rw[ay,K7];walk_at "d"
  have e:qh a [fV c,s1,s2,s3,s4,g0 z,fV j]=.nx [fV c,s1,s2,s3,s4,g0<|z++⟨#[kG<|c/(3+j)%3]⟩,fV j]:=by unfold qh;iterate 4 (walk_at "d";try simp only[v,ae lq,o,w])
  rw[e,AO];exact s
def l0(c:Int):fR:=more c ((List.range (c/312%7).toNat).map λ(k:Nat)=>(k:Int)) (Str.ofString "")
def kr(c st k:Int):fR:=⟨#[ki<|(c+k*st)%26]⟩++⟨#[kG<|k/26%3]⟩
def ka(c st k:Int):fR:=if c/2184%2=1 then l0 c++kr c st k else kr c st k++l0 c
def CG(n:Nat)(h:n<12):∃st:Int,(st%26≠0/\st*2%26≠0)/\0<st/\st<26/\L2.gO [D.int 1,.int 3,.int 5,.int 7,.int 9,.int 11,.int 15,.int 17,.int 19,.int 21,.int 23,.int 25] (n:Int)=some (.int st):=by
 have:n=0\/n=1\/n=2\/n=3\/n=4\/n=5\/n=6\/n=7\/n=8\/n=9\/n=10\/n=11:=by revert n;decide
 rcases this with rfl|rfl|rfl|rfl|rfl|rfl|rfl|rfl|rfl|rfl|rfl|rfl<;>exact⟨_,by decide,by decide,by decide,rfl⟩
def HA(c):∃st:Int,(st%26≠0/\st*2%26≠0)/\∀k:Int,0<=k->k<26->PyData.strOk (ka c st k)=true/\gX (sd a<|gY 7 [.int c,.int k])=.ok (.str<|ka c st k):=by
 obtain⟨n,x⟩:=bh (show 0<=c/26%12 by lia);obtain⟨st,G,C,A,o⟩:=CG n (by lia);refine⟨st,G,λk L J=>?_⟩;have mk:hK (.int k) (.int st)=.ok (.int<|k*st):=wL (by lia) (by walk_at "l");obtain⟨P,t⟩:=C4 ((c+k*st)%26) (by grind);obtain⟨O,s⟩:=yi (k/26%3) (by lia);have w:(⟨#[ki<|(c+k*st)%26]⟩:fR).length=1:=rfl;have v:(⟨#[kG<|k/26%3]⟩:fR).length=1:=rfl;have U:gM (.str ⟨#[ki ((c+k*st)%26)]⟩) (.str ⟨#[kG (k/26%3)]⟩)=.ok (.str (kr c st k)):=qI (by rw[w];decide) (by rw[v];decide);have h:PyData.strOk (kr c st k)=true:=sS (wm P) (wm O);have F:(kr c st k).length=2:=by unfold kr;rw[len_app,w,v]
 obtain⟨d,l⟩:∃d,d=kr c st k:=⟨_,rfl⟩;have f:d=(⟨#[ki<|(c+k*st)%26]⟩:fR)++⟨#[kG<|k/26%3]⟩:=l;rw[<-l]at U h F;have I:0<=c/312%7/\c/312%7<7:=by lia
 have u:mx [.int<|c/312%7]=.ok (kZ 0 (c/312%7).toNat):=AN I.1 (by lia);have T:PyData.strOk (Str.ofString "")=true:=by decide+kernel
 have m:(Str.ofString "").length=0:=by decide
 obtain⟨D,R,Q,y⟩:=BI (a:=a) c (fV k) (g0 (Str.ofString "abcdefghijklmnopqrstuvwxyz")) (fV st) (g0 d) ((List.range (c/312%7).toNat).map λ(k:Nat)=>(k:Int)) (Str.ofString "") .no (λj M=>by
  obtain⟨i,N,rfl⟩:=bx.mp M;have:=dm.mp N
  lia) T (by rw[m,ar,bH];lia)
 rw[<-M4]at y;have Z:(l0 c).length<=7:=by show(more c _ _).length<=7;rw[Q,m,ar,bH];lia
 have p:jy (gV 6) (qh a) (kZ 0 (c/312%7).toNat) [fV c,fV k,g0<|Str.ofString "abcdefghijklmnopqrstuvwxyz",fV st,g0 d,g0<|Str.ofString "",.no]=.nx [fV c,fV k,g0<|Str.ofString "abcdefghijklmnopqrstuvwxyz",fV st,g0 d,g0<|l0 c,D]:=y;have q:PyData.strOk (l0 c)=true:=R;unfold ka;rw[<-l];generalize l0 c=z at*;have Y:gM (.str z) (.str d)=.ok (.str<|z++d):=qI (by walk_at "l") (by lia);have V:gM (.str d) (.str z)=.ok (.str<|d++z):=qI (by lia) (by walk_at "l");by_cases r:c/2184%2=1
 ·rw[ae r];refine⟨sS q h,?_⟩;unfold sd;iterate 6 (walk_at "d";try simp only[x,o,mk,ae lq,ae la,t,s,<-f,u])
  simp only[p];iterate 6 (walk_at "d";try simp only[r,Y,eG])
 ·rw[ah r];refine⟨sS h q,?_⟩;unfold sd;iterate 6 (walk_at "d";try simp only[x,o,mk,ae lq,ae la,t,s,<-f,u])
  simp only[p];iterate 6 (walk_at "d";try simp only[r,V,c7])
def oN(x y:fR):(x++y).cps.toList=x.cps.toList++y.cps.toList:=by show(x.cps++y.cps).toList=_;simp
def xn{st}(m:st%26≠0/\st*2%26≠0)(o:0<=i/\i<3)(n:0<=j/\j<3)(h:i≠j):ka c st i≠ka c st j:=by
 intro w;have e:kr c st i=kr c st j:=by
  unfold ka at w;have inj:∀x y:fR,x.cps=y.cps->x=y:=λx y h=>by cases x;cases y;exact a9 Str.mk h
  split at w
  ·have k:=a9 (λs:fR=>s.cps.toList) w;refine inj _ _ (cf.mp ?_);have f:(l0 c).cps.toList++(kr c st i).cps.toList=(l0 c).cps.toList++(kr c st j).cps.toList:=by rw[<-oN,<-oN];exact k
   exact List.append_cancel_left f
  ·have k:=a9 (λs:fR=>s.cps.toList) w;refine inj _ _ (cf.mp ?_);have f:(kr c st i).cps.toList++(l0 c).cps.toList=(kr c st j).cps.toList++(l0 c).cps.toList:=by rw[<-oN,<-oN];exact k
   exact List.append_cancel_right f
 have l:ki ((c+i*st)%26)=ki ((c+j*st)%26):=by
  have:=a9 (λs:fR=>s.cps.toList[0]?) e;unfold kr at this;try dsimp only at this
  rw[oN,oN]at this;exact Option.some.inj this
 have p:=C5 (by grind) (by grind) l;have d:(i=0\/i=1\/i=2)/\(j=0\/j=1\/j=2):=by lia
 rcases d with⟨rfl|rfl|rfl,rfl|rfl|rfl⟩<;>lia
end WP
namespace WM
open PySem L2 P2 WP TM T2 PySem.NumText
variable{a:Ad}
def Vl(f:ix):Prop:=∀{S:f7} {c:Nat},c<S.length->∀x b:Int,∃p q d:Int,(FM.lI p q/\Sz 62 p/\Sz 62 q)/\f [.loc c] (sx S c x b)=.ok (.d<|pr p q) (sx S c d b)
def zW(p:Int):FM.lI p 1:=⟨by decide,by simp⟩
section
variable{m l:ix}{Fl z:gk}
def Hy(f:Pk m)(J:Lw Fl):Vl (λD S=>hY<|vy a Fl m S.length (je 2 D) S):=by
 intro S s h x b;obtain⟨r,j,T,Q,M⟩:=sY (b:=b) f h 8 x (by decide) (by decide);dsimp only;unfold vy;show∃p q N:Int,_/\hY (gh (gH 1 _) _ [f3 s,none]<|sx S s x b)=_;rw[hL<|i4 (M _ rfl)<|ai rfl];by_cases A:r=7
 ·obtain⟨u,c,P,O,i⟩:=f h (10^60) j b (by decide) (by decide);obtain⟨v,F,o,n,L⟩:=sY (b:=b) f h 2 c (by decide) (by decide);have hv:v=0\/v=1:=by lia
  have k:Sz 62 u:=ao (show u.natAbs<10^60 by lia) (by decide);have G:Sz 62 (1 - 2*v):=ao (show(1 - 2*v).natAbs<10 by omega) (by decide);have I:Sz 62 (u*(1 - 2*v)):=by
   rcases hv with rfl|rfl;·rw[show u*(1 - 2*0)=u by simp];exact k
   ·rw[show u*(1 - 2*1)= -u by simp];unfold Sz;rw[Int.natAbs_neg];exact k
  refine⟨u*(1 - 2*v),1,F,⟨zW _,I,Ar⟩,?_⟩;rw[xp (l6 (d:=true)<|by show(R.ok<|decide<|r=7:R f5)=_;rw[aE A])<|y_ret<|qV [.int<|u*(1 - 2*v),.int 1] (hU (nk (nt (hU (nq rfl)<|hU (gI (d:=.int<|10^60) rfl) kL) i) (nk (gI (d:=.int 1) rfl) (nk (gI (d:=.int 2) rfl) (L _ rfl)<|LM (by decide)<|by decide) (w:=.int<|1 - 2*v) rfl)<|jL (k.mono<|by decide)<|G.mono<|by decide)<|hU (gI (d:=.int 1) rfl) kL) rfl];rfl
 ·rw[lE<|l6 (d:=false)<|by show(R.ok<|decide<|r=7:R f5)=_;rw[ax A]];by_cases C:r=6
  ·obtain⟨v,c,o,n,i⟩:=sY (b:=b) f h 9 j (by decide) (by decide);have y:=He (t:=v - 3) (b:=2) (by decide) (by decide) (by omega);refine⟨_,_,c,⟨FM.lY (t:=v - 3) (b:=2)<|by decide,y.2.1,y.2.2⟩,?_⟩;rw[xp (l6 (d:=true) (by show(R.ok (decide (r=6)):R f5)=_;rw[aE C])) (y_ret (qV [.int (v - 3),.int 2] (hU (nk (i _ rfl) (gI (d:=.int 3) rfl) (w:=.int (v - 3)) rfl) (hU (gI (d:=.int 2) rfl) kL)) (J (v - 3) 2 (by decide) (by decide))))];rfl
  ·rw[lE (l6 (d:=false) (by show(R.ok (decide (r=6)):R f5)=_;rw[ax C]))];obtain⟨v,c,o,n,i⟩:=sY (b:=b) f h 4 j (by decide) (by decide);refine⟨v,1,c,⟨zW _,ao (show v.natAbs<10 by lia)<|by decide,Ar⟩,?_⟩;rw[y_ret<|qV [.int v,.int 1] (hU (i _ rfl)<|hU (gI (d:=.int 1) rfl) kL) rfl];rfl
def Lx(a b:Rd):Prop:=a.t<b.t\/a.t=b.t/\a.m.cps.toList<b.m.cps.toList
def Lx.ne{a b:Rd}(h:Lx a b):nR a≠nR b:=λe=>by
 have d:a.t=b.t:=a9 Prod.fst e;have c:a.m=b.m:=a9 Prod.snd e;rcases h with h|h;·simp_all
 ·rw[c]at h;exact dw _ h.2
structure RowOk(row:fL Rd):Prop where
 ok:∀r∈row,jB r/\PyData.strOk r.m=true
 so:row.Pairwise Lx
 tm:∀r∈row,0<=r.t/\r.t<10000000000
def RowOk.add(h:RowOk row){r:Rd}(n:0<=r.t/\r.t<10000000000)(k:jB r)(j:PyData.strOk r.m=true)(i:∀s∈row,Lx s r):RowOk (row++[r]):=
 ⟨λs c=>by
   rcases bf.mp c with w|w;· exact h.ok s w
   · rw[bg]at w;subst w;exact⟨k,j⟩,bV.mpr ⟨h.so,cE ..,λx f y d=>by rw[bg]at d;subst d;exact i x f⟩,λs c=>by
   rcases bf.mp c with w|w;· exact h.tm s w
   · rw[bg]at w;subst w;exact n⟩
structure RowW(ws:gu)(row:fL Rd):Prop extends RowOk row where
 wd:∀r∈row,r.m∈ws
def RowW.add(h:RowW ws row){r:Rd}(k:0<=r.t/\r.t<10000000000)(j:jB r)(i:PyData.strOk r.m=true)(d:r.m∈ws)(f:∀s∈row,Lx s r):RowW ws (row++[r]):=
 ⟨h.toRowOk.add k j i f,λs c=>by
   rcases bf.mp c with w|w;· exact h.wd s w
   · rw[bg]at w;subst w;exact d⟩
structure Mk(B:f7)(nr nn:Nat)(row:fL Rd):Prop extends Out B nr (row.map Rd.d) where
 hn:nn<B.length
 ne:nr≠nn
 n0:0<nn
section
variable{B:f7}{i f b0:Nat}{c:fL Rd}{ρ:gQ}
def Mk.out(h:Mk B i f c)(x b:Int):Out (sx B f x b) i (c.map Rd.d):=
 ⟨by have:=h.n0;rw[aq<|by walk_at "l"];exact h.m0,λj d=>m8 (h.bnd j<|by rw[aR]at d;exact d)<|lj [.int x,.int b] _,by rw[aq<|b7 h.ne];exact h.tt,m8 h.st<|lj [.int x,.int b] _,h.o0⟩
def iP.sx(d:b0<=f)(x b:Int):iP b0 B (sx B f x b):=iP.set d λj _=>lj [.int x,.int b] j
def xW(hv:Vl l)(h:Mk B i f c)(r:b0<=i)(C:c.length<10000){w:fR}{t:Int}{f1 f2:gf}(u:ρ[4]?=some (f3 i))(s:ρ[7]?=some (f3 f))(A:f1 (ig ρ)=.ok (.str w))(y:f2 (ig ρ)=.ok (.int t))(x b:Int):
    ∃(p q d:Int) (n:f7),(FM.lI p q/\Sz 62 p/\Sz 62 q)/\oh 4 (zF i0<|gm (zD f1)<|gm (zD f2)<|gm (zZ l<|gm (zV 7) hZ) hZ) ρ (sx B f x b)=.nx ρ (sx n f d b)/\Mk n i f (c++[⟨w,t,p,q⟩])/\iP b0 B n:=by
 obtain⟨p,q,d,k,e⟩:=hv h.hn x b;refine⟨p,q,d,B.set i (.li (((c++[(⟨w,t,p,q⟩:Rd)]).map Rd.d).map .d)),k,?_,⟨⟨?_,λj o=>m8 (h.bnd j (by rw[aR]at o;exact o)) (lj _ _),aD (v8 h.tt),m8 h.st (lj _ _),h.o0⟩,by rw[aR];exact h.hn,h.ne,h.n0⟩,iP.NA r⟩
 ·have v:zF i0 (gm (zD f1)<|gm (zD f2)<|gm (zZ l<|gm (zV 7) hZ) hZ) ρ (sx B f x b)=.ok (.d<|Rd.d ⟨w,t,p,q⟩) (sx B f d b):=qV [.str w,.int t,pr p q] (hU (gI A)<|hU (gI y)<|hU (nt (hU (nq s) kL) e) kL) rfl;rw[Pr u (h.out x b).tt v (h.out d b).tt (by rw[ar,ar];walk_at "l")];rw[List.set_comm _ _<|b7 h.ne,bZ,bZ];rfl
 ·have:=h.o0;rw[aq<|by walk_at "l"];exact h.m0
end
end
variable{a:Ad}
abbrev xP(L:gu):Prop:=L.Pairwise λx y=>x.cps.toList<y.cps.toList
def NY(c:gu)(h:c.length<64)(l:c.Nodup):∃L:fL fR,L.Perm c/\xP L/\qN (.lst<|c.map D.str)=.ok (L.map D.str):=by
 let bk:D->fR:=λd=>match d with|.str x=>x|_=>Str.ofString ""
 have o:ml (c.map D.str)=true:=FY (λ_=>rfl) c;have j:((jU<|c.map D.str).map bk).Perm c:=by
  have:=(n9<|c.map D.str).map bk
  grind
 refine⟨(jU<|c.map D.str).map bk,j,?_,?_⟩
 ·have k:=wY (s:=[1]) (ds:=c.map D.str) λd i=>by obtain⟨w,_,rfl⟩:=bx.mp i;rfl
  have f:=j.nodup_iff.mpr l;refine bG.mpr (eK (λ{x y} n m q=>?_)<|k.and<|bG.mp f);obtain⟨u,_,rfl⟩:=bx.mp ((n9 _).mem_iff.mp n);obtain⟨v,_,rfl⟩:=bx.mp ((n9 _).mem_iff.mp m);by_cases z:u.cps.toList<v.cps.toList;·exact z
  ·exact absurd (tw z<|aW q.1) q.2
 ·show(if ml (c.map D.str)=true/\(c.map D.str).length<64 then R.ok (jU<|c.map D.str)else .bad)=_;rw[ae ⟨o,by rw[ar];exact h⟩,bS]
  congr 1
  refine((List.map_congr_left λd i=>?_).trans (List.map_id' _)).symm;obtain⟨w,_,rfl⟩:=bx.mp ((n9 _).mem_iff.mp i);rfl
structure W3(ws:gu):Prop where
 ok:∀w∈ws,PyData.strOk w=true
 nd:ws.Nodup
 len:ws.length=3
def Bo{t:Int}(d:0<=t)(c:t<10000000000):Sz 61 t:=ao (show t.natAbs<10000000000 by lia) (by decide)
variable{Zp H:ix}{Fc:gk}{F E b0:Nat}{C:gu}
def Gy(W:W3 C)(c:Int):∃w∈C,((gA (.int c)<|.int 3).bind λi=>gD (.lst<|C.map D.str) i)=.ok (.str w):=by
 have k:=bO c (show(3:Int)≠0 by decide);obtain⟨j,h⟩:=bh k;have f:j<C.length:=by rw[W.len];lia
 refine⟨C[j],cH _,?_⟩;rw[j8<|by decide,h];show(match L2.gO (C.map D.str) (j:Int)with|some d=>R.ok d|none=>.bad)=_;rw[L2.ux<|show(C.map D.str)[j]?=some (.str C[j])by rw[aF,aL f];rfl]
abbrev _root_.jg:=fU Z
theorem nine(hv:Vl H)(W:W3 C)(U:b0<=F)(o n m:jg)(c b:Int)(l i f:jg):∀(j:gx) (T:Int) (row:fL Rd) (B:f7) (x:Int) (A:jg),Mk B F E row->RowW C row->(∀r∈row,r.t<T)->0<=T->T+j.length<10000000000->row.length+j.length<9000->
 ∃(v:Int) (d:fL Rd) (z:f7) (I:Int) (J:jg),jE (hV 9) (nG a Fc Zp H) j [o,n,m,f9<|C.map D.str,f3 F,fT T,fT c,f3 E,l,A,i,f] (sx B E x b)
  =.nx [o,n,m,f9<|C.map D.str,f3 F,fT v,fT c,f3 E,l,J,i,f] (sx z E I b)/\Mk z F E d/\RowW C d/\(∀r∈d,r.t<v)/\T<=v/\v<=T+j.length/\d.length=row.length+j.length/\iP b0 B z
 |[],T,row,B,x,A,h,y,G,O,V,Q=>⟨T,row,B,x,A,rfl,h,y,G,cK _,by simp,rfl,.refl _ _⟩
 |k::j,T,row,B,x,A,h,y,G,O,V,Q=>by
  rw[aI]at V Q;obtain⟨w,R,ew⟩:=Gy W c;obtain⟨p,q,P,Y,u,e1,h2,l1⟩:=xW (b0:=b0) (ρ:=[o,n,m,f9 (C.map D.str),f3 F,fT T,fT c,f3 E,l,iE k,i,f]) (w:=w) (t:=T) (f1:=d2 gD (dV 3) (d2 gA (dV 6) (fQ 3))) (f2:=dV 5) hv h U (by lia) rfl rfl ew rfl x b;have N:RowW C (row++[⟨w,T,p,q⟩]):=y.add ⟨O,(show T<10000000000 by lia)⟩ ⟨Bo O<|show T<10000000000 by lia,u.1,u.2.1,u.2.2⟩ (W.ok w R) R λs hs=>.inl (G s hs);obtain⟨v,d,z,I,J,e2,h3,M,L,g1,g2,g3,l2⟩:=nine hv W U o n m c b l i f j (T+1) (row++[⟨w,T,p,q⟩]) Y P (iE k) h2 N (λr y=>by
   rcases bf.mp y with w'|w';· have:=G r w';lia
   · rw[bg]at w';subst w';show T<T+1;lia) (by lia) (by lia) (by rw[aj];simp;lia)
  refine⟨v,d,z,I,J,?_,h3,M,L,by walk_at "l",by rw[aI];lia,by rw[g3,aj,aI];simp;lia,l1.trans l2⟩;have st:nG a Fc Zp H [o,n,m,f9<|C.map D.str,f3 F,fT T,fT c,f3 E,l,iE k,i,f] (sx B E x b)=.nx [o,n,m,f9<|C.map D.str,f3 F,fT<|T+1,fT c,f3 E,l,iE k,i,f] (sx Y E P b):=by unfold nG;rw[hL e1];rfl
  show pH (nG a Fc Zp H [o,n,m,f9<|C.map D.str,f3 F,fT T,fT c,f3 E,l,iE k,i,f]<|sx B E x b) (jE (hV 9) (nG a Fc Zp H) j)=_;rw[st];exact e2
theorem three(hv:Vl H)(W:W3 C)(hb:b0<=F)(A y u o:jg)(T:Int)(U:0<=T)(R:T<10000000000)(n:jg)(b:Int)(m l d:jg):∀(L:gu) (row:fL Rd) (B:f7) (x:Int) (f:jg),Mk B F E row->RowW C row->(∀w∈L,w∈C)->xP L->(∀r∈row,r.t<=T)->(∀r∈row,r.t=T->∀w∈L,r.m.cps.toList<w.cps.toList)->row.length+L.length<9000->
 ∃(c:fL Rd) (I:f7) (M:Int) (i:jg),jE (hV 11) (qi a Fc Zp H) (L.map D.str) [A,y,u,o,f3 F,fT T,n,f3 E,m,l,d,f] (sx B E x b)
  =.nx [A,y,u,o,f3 F,fT T,n,f3 E,m,l,d,i] (sx I E M b)/\Mk I F E c/\RowW C c/\(∀r∈c,r.t<=T)/\c.length=row.length+L.length/\iP b0 B I
 |[],row,B,x,f,h,j,_,_,J,_,_=>⟨row,B,x,f,rfl,h,j,J,rfl,.refl _ _⟩
 |w::L,row,B,x,f,h,j,Q,hd,J,Y,hz=>by
  rw[aI]at hz;obtain⟨p,q,x1,B1,k,e1,h2,l1⟩:=xW (b0:=b0) (ρ:=[A,y,u,o,f3 F,fT T,n,f3 E,m,l,d,iE (.str w)]) (w:=w) (t:=T) (f1:=dV 11) (f2:=dV 5) hv h hb (by lia) rfl rfl rfl rfl x b;have G:=aV.mp hd;have P:RowW C (row++[⟨w,T,p,q⟩]):=j.add ⟨U,R⟩ ⟨Bo U R,k.1,k.2.1,k.2.2⟩ (W.ok w<|Q w<|.head _) (Q w<|.head _) λs V=>(Int.lt_or_eq_of_le<|J s V).imp id λe=>⟨e,Y s V e w<|.head _⟩;obtain⟨c,I,M,i,e2,h3,O,N,g3,l2⟩:=three hv W hb A y u o T U R n b m l d L (row++[⟨w,T,p,q⟩]) B1 x1 (iE (.str w)) h2 P (λv hv=>Q v (.tail _ hv)) G.2 (λr j=>by
   rcases bf.mp j with w'|w';· exact J r w'
   · rw[bg]at w';subst w';exact cK _) (λr j e=>by
   rcases bf.mp j with w'|w';· exact λv z=>Y r w' e v (.tail _ z)
   · rw[bg]at w';subst w';exact G.1) (by rw[aj];simp;lia)
  refine⟨c,I,M,i,?_,h3,O,N,by rw[g3,aj,aI];simp;lia,l1.trans l2⟩;show pH (qi a Fc Zp H [A,y,u,o,f3 F,fT T,n,f3 E,m,l,d,iE<|.str w]<|sx B E x b) (jE (hV 11) (qi a Fc Zp H)<|L.map D.str)=_;rw[show qi a Fc Zp H [A,y,u,o,f3 F,fT T,n,f3 E,m,l,d,iE<|.str w] (sx B E x b)=_ from e1];exact e2
def NO(W:W3 C)(r:Int)(m:0<=r)(o:r<12):∃(j:jw) (L:gu),L.Nodup/\(∀w∈L,w∈C)/\L.length<=3/\
    gD (.lst [.lst [.int 0],.lst [.int 0],.lst [.int 0],.lst [.int 1],.lst [.int 0,.int 1],.lst [.int 0,.int 1,.int 2],.lst [.int 2],.lst [.int 0,.int 2],.lst [.int 1,.int 2],.lst [.int 1],.lst [.int 0],.lst [.int 0,.int 1]]) (.int r)=.ok (.lst<|j.map D.int)/\j.map (λi=>gD (.lst<|C.map D.str)<|.int i)=L.map λw=>R.ok (D.str w):=by
 have n:∃u v w,C=[u,v,w]:=by
  have l:=W.len;match C,l with
  |[u,v,w],_=>simp
 obtain⟨u,v,w,rfl⟩:=n;have d:=W.nd;simp only[bB,aH,c5,fJ,not_or]at d;obtain⟨⟨c,h⟩,f,_⟩:=d;obtain⟨r,rfl⟩:=bh m;have k:r=0\/r=1\/r=2\/r=3\/r=4\/r=5\/r=6\/r=7\/r=8\/r=9\/r=10\/r=11:=by lia
 rcases k with rfl|rfl|rfl|rfl|rfl|rfl|rfl|rfl|rfl|rfl|rfl|rfl;·exact⟨[0],[u],by simp,by simp,by simp,rfl,rfl⟩
 ·exact⟨[0],[u],by simp,by simp,by simp,rfl,rfl⟩
 ·exact⟨[0],[u],by simp,by simp,by simp,rfl,rfl⟩
 ·exact⟨[1],[v],by simp,by simp,by simp,rfl,rfl⟩
 ·exact⟨[0,1],[u,v],by simp[c],by simp,by simp,rfl,rfl⟩
 ·exact⟨[0,1,2],[u,v,w],by simp[c,h,f],by simp,by simp,rfl,rfl⟩
 ·exact⟨[2],[w],by simp,by simp,by simp,rfl,rfl⟩
 ·exact⟨[0,2],[u,w],by simp[h],by simp,by simp,rfl,rfl⟩
 ·exact⟨[1,2],[v,w],by simp[f],by simp,by simp,rfl,rfl⟩
 ·exact⟨[1],[v],by simp,by simp,by simp,rfl,rfl⟩
 ·exact⟨[0],[u],by simp,by simp,by simp,rfl,rfl⟩
 ·exact⟨[0,1],[u,v],by simp[c],by simp,by simp,rfl,rfl⟩
variable{a:Ad}
variable{S:f7}{A:fL Rd}
def xo(e:fi (ig ρ)=.ok ds):lD fi h gb ρ S=jE h gb ds ρ S:=by unfold lD;rw[e];rfl
def sX(f:Pk Zp)(h:E<S.length)(i)(m x b)(l:0<m)(n:m<10000):∃r c:Int,0<=r/\r<m/\∀ρ:gQ,ρ[i]?=some (f3 E)->zZ Zp (gm (zV i) (gm (zD (fQ m)) hZ)) ρ (sx S E x b)=.ok (.d (.int r)) (sx S E c b):=by obtain⟨r,c,k,j,e⟩:=f h m x b l (ao (by grind:m.natAbs<10000)<|by decide);exact⟨r,c,k,j,λρ d=>nt (hU (nq d)<|hU (gI rfl) kL) e⟩
abbrev Cl(Fc:gk):Prop:=∀(ns:jw) (k:Nat),Fc [.lst<|ns.map .int,.int k]=.ok (.int<|ns.getD k 0)
def Nh(hp:Pk Zp)(hv:Vl H)(hc:Cl Fc)(W:W3 C)(hb:b0<=F)(m:jw)(s1)(f T c:Int)(h:Out S F<|A.map Rd.d)(J:RowW C A)(ht:∀r∈A,r.t<=T)(h0:0<=T)(h1:T<9000000000)(hz:A.length<=5000)(s7 s8 s9 jt i9):
    (f<A.length/\mK a Fc Zp H [f9<|m.map .int,s1,fT f,f9<|C.map D.str,f3 F,fT T,fT c,s7,s8,s9,jt,i9] S=.bk [f9<|m.map .int,s1,fT f,f9<|C.map D.str,f3 F,fT T,fT c,s7,s8,s9,jt,i9] S)
    \/(A.length<=f/\∃(O:Int) (n:fL Rd) (S':f7) (t7 z o G s:jg),mK a Fc Zp H [f9 (m.map .int),s1,fT f,f9 (C.map D.str),f3 F,fT T,fT c,s7,s8,s9,jt,i9] S=.nx [f9 (m.map .int),s1,fT f,f9 (C.map D.str),f3 F,fT O,fT c,t7,z,o,G,s] S'
     /\Out S' F (n.map Rd.d)/\RowW C n/\(∀r∈n,r.t<=O)/\T<=O/\O<=T+4000/\n.length<=A.length+12/\iP b0 S S'):=by
 have V:∀k:f5,decide (f<(A.length:Int))=k->ku (b1 tB<|d2 lU (dA jr<|fM (dV 4) fW)<|dV 2) [f9<|m.map .int,s1,fT f,f9<|C.map D.str,f3 F,fT T,fT c,s7,s8,s9,jt,i9] S=.ok k S:=λk hk=>by refine oj ?_;show(b1 tB<|d2 lU (dA jr<|fM (dV 4) fW)<|dV 2) [_,_,fV f,_,k7 S<|f3 F,_,_,_,_,_,_,_]=_;rw[pK h.tt];show R.ok (decide<|f<(((A.map Rd.d).length:Nat):Int))=_;rw[ar,hk]
 unfold mK;by_cases hm:f<(A.length:Int)
 ·left;refine⟨hm,?_⟩;unfold gh;rw[nj<|V true<|aE hm];rfl
 right;refine⟨by simp_all,?_⟩;rw[lE<|V false<|ax hm];generalize hbb:m.getD 0 0/7%2=b;have e7:oi (λρ=>((fM (dV 6)<|fM (d2 gA (d2 hJ (dA Fc<|fM (dV 0)<|fM (fQ 0) fW)<|fQ 7)<|fQ 2) fW) ρ).bind ie) [f9<|m.map .int,s1,fT f,f9<|C.map D.str,f3 F,fT T,fT c,s7,s8,s9,jt,i9] S=.ok (.loc S.length) (S++[sc c b]):=by show(jf ((((((Fc [.lst<|m.map .int,.int (0:Nat)]).bind λx=>hJ x<|.int 7).bind λy=>gA y<|.int 2).bind λy=>R.ok [y]).bind λQ=>R.ok<|D.int c::Q).bind ie) S).bind _=_;rw[hc m 0];show(jf ((((((hJ (.int<|m.getD 0 0)<|.int 7).bind λy=>gA y<|.int 2).bind λy=>R.ok [y]).bind λQ=>R.ok<|D.int c::Q).bind ie)) S).bind _=_;rw[ph (by decide)<|by decide];show(jf (((((gA (.int<|m.getD 0 0/7)<|.int 2).bind λy=>R.ok [y]).bind λQ=>R.ok<|D.int c::Q).bind ie)) S).bind _=_;rw[j8<|by decide,hbb];rfl
 rw[hL<|i4 e7<|ai rfl];have FW:=v8 h.tt;have gB:Gr S (S++[sc c b]):=Gr.app λj=>lj [.int c,.int b] j;have hn:S.length<(S++[sc c b]).length:=by rw[aj];exact eT _
 have mB:Mk (S++[sc c b]) F S.length A:=⟨⟨gB.get h.m0,gB.bnd h.bnd,gB.get h.tt,gB.sf _ FW h.st,h.o0⟩,hn,by walk_at "l",by have:=h.o0;lia⟩;have lB:iP b0 S (S++[sc c b]):=gB.lw (by lia);have eB:S++[sc c b]=sx (S++[sc c b]) S.length c b:=(NB S _ _).symm;generalize S++[sc c b]=B at*;generalize S.length=E at*;rw[eB];obtain⟨I,x1,QZ,Q0,e4⟩:=sX hp hn 7 4 c b (by decide) (by decide);show∃(O:Int) (n:fL Rd) (S':f7) (t7 z o G s:jg),gh _ _ [f9<|m.map .int,s1,fT f,f9<|C.map D.str,f3 F,fT T,fT c,f3 E,s8,s9,jt,i9] (sx B E c b)=_/\_;rw[hL<|i4 (nk (gI (d:=.int<|T+1) rfl) (e4 _ rfl) (w:=.int<|T+1+I) rfl)<|ai rfl];obtain⟨r9,x2,Q1,Q2,e9⟩:=sX hp hn 7 9 x1 b (by decide) (by decide);have far:∃(t U:Int),T+1<=t/\t<=T+3900/\iw (pQ tB<|z2 iN (zZ Zp<|gm (zV 7)<|gm (zD<|fQ 9) hZ)<|zD<|fQ 1) (gH 5<|z2 gM (zD<|dV 5)<|zZ Zp<|gm (zV 7)<|gm (zD<|fQ 3000) hZ) jk [f9<|m.map .int,s1,fT f,f9<|C.map D.str,f3 F,fT<|T+1+I,fT c,f3 E,s8,s9,jt,i9] (sx B E x1 b)=.nx [f9<|m.map .int,s1,fT f,f9<|C.map D.str,f3 F,fT t,fT c,f3 E,s8,s9,jt,i9] (sx B E U b):=by
  have o:pQ tB (z2 iN (zZ Zp<|gm (zV 7)<|gm (zD<|fQ 9) hZ)<|zD<|fQ 1) [f9<|m.map .int,s1,fT f,f9<|C.map D.str,f3 F,fT<|T+1+I,fT c,f3 E,s8,s9,jt,i9] (sx B E x1 b)=.ok (decide<|r9=1) (sx B E x2 b):=PU (nk (e9 _ rfl) (gI (d:=.int 1) rfl) (w:=.bl<|decide<|r9=1) rfl) rfl;by_cases h9:r9=1
  ·rw[aE h9]at o;obtain⟨r3,U,QX,QY,e3⟩:=sX hp hn 7 3000 x2 b (by decide) (by decide);refine⟨T+1+I+r3,U,by omega,by omega,?_⟩;rw[nj o,i4 (nk (gI (d:=.int<|T+1+I) rfl) (e3 _ rfl) (w:=.int<|T+1+I+r3) rfl)<|ai rfl];rfl
  ·rw[ax h9]at o;exact⟨T+1+I,x2,by omega,by omega,(xq o).trans rfl⟩
 obtain⟨t,U,Qu,Qv,ef⟩:=far;show∃(O:Int) (n:fL Rd) (S':f7) (t7 z o G s:jg),gh _ _ [f9<|m.map .int,s1,fT f,f9<|C.map D.str,f3 F,fT<|T+1+I,fT c,f3 E,s8,s9,jt,i9] (sx B E x1 b)=_/\_;rw[hL ef];obtain⟨q,N,MQ,MR,e8⟩:=sX hp hn 7 12 U b (by decide) (by decide);rw[hL<|i4 (e8 _ rfl)<|ai rfl];show∃(O:Int) (n:fL Rd) (S':f7) (t7 z o G s:jg),gh _ _ [f9<|m.map .int,s1,fT f,f9<|C.map D.str,f3 F,fT t,fT c,f3 E,fT q,s9,jt,i9] (sx B E N b)=_/\_;have zt:∀r∈A,r.t<t:=λr J=>by have:=ht r J;omega
 have HM:∃(u:Int) (l:fL Rd) (M:f7) (P:Int) (o:jg),iw (ku<|mL (b1 tB<|d2 iN (dV 8)<|fQ 11)<|b1 tB<|d2 kX (dA jr<|fM (dV 4) fW)<|fQ 50) (lD (λρ=>((fM (fQ 9) fW) ρ).bind mx) (hV 9)<|nG a Fc Zp H) jk [f9<|m.map .int,s1,fT f,f9<|C.map D.str,f3 F,fT t,fT c,f3 E,fT q,s9,jt,i9] (sx B E N b)
  =.nx [f9<|m.map .int,s1,fT f,f9<|C.map D.str,f3 F,fT u,fT c,f3 E,fT q,o,jt,i9] (sx M E P b)/\Mk M F E l/\RowW C l/\(∀r∈l,r.t<u)/\t<=u/\u<=t+9/\l.length<=A.length+9/\iP b0 B M:=by
  have z:ku (mL (b1 tB<|d2 iN (dV 8)<|fQ 11)<|b1 tB<|d2 kX (dA jr<|fM (dV 4) fW)<|fQ 50) [f9<|m.map .int,s1,fT f,f9<|C.map D.str,f3 F,fT t,fT c,f3 E,fT q,s9,jt,i9] (sx B E N b)=.ok (decide (q=11)&&decide ((A.length:Int)<50)) (sx B E N b):=by refine oj ?_;show(mL (b1 tB<|d2 iN (dV 8)<|fQ 11)<|b1 tB<|d2 kX (dA jr<|fM (dV 4) fW)<|fQ 50) [_,_,_,_,k7 _<|f3 F,_,_,_,fV q,_,_,_]=_;rw[pK (mB.out N b).tt];show(if decide (q=11)=true then R.ok (decide<|(((A.map Rd.d).length:Nat):Int)<50)else R.ok false)=_;rw[ar];cases decide (q=11)<;>rfl
  cases hk:(decide (q=11)&&decide ((A.length:Int)<50))with
  |false=>rw[hk]at z;exact⟨t,A,B,N,s9,(xq z).trans rfl,mB,J,zt,cK _,by omega,by omega,.refl _ _⟩
  |true=>rw[hk]at z;obtain⟨u,l,M,P,o,e5,m3,r3,l3,g1,g2,g3,g4⟩:=nine (a:=a) (Fc:=Fc) (Zp:=Zp) hv W hb (f9 (m.map .int)) s1 (fT f) c b (fT q) jt i9 (kZ 0 9) t A B N s9 mB J zt (by omega) (show t+9<10000000000 by omega) (show A.length+9<9000 by omega);exact⟨u,l,M,P,o,(nj z).trans e5,m3,r3,l3,g1,g2,fg g3,g4⟩
 obtain⟨u,l,M,P,o,en,m3,F1,zu,Qw,Qx,QK,l3⟩:=HM;rw[hL en];obtain⟨p,L,E3,hL2,QH,Eo,rT⟩:=NO W q MQ MR;rw[hL<|i4 (gI (d:=.lst<|p.map D.int) Eo)<|ai rfl];obtain⟨L',pL,uL,eL⟩:=NY L (by omega) E3;have it:((gZ<|λρ=>((gZ<|iZ (λρ=>((dV 10) ρ).bind jo) 1 [3] (gV 0) (λ_=>.ok true)<|d2 gD (dV 1)<|dV 0) ρ).bind qN) (ig [f9<|m.map .int,s1,fT f,f9<|C.map D.str,f3 F,fT u,fT c,f3 E,fT q,o,f9<|p.map D.int,i9])).bind jo=.ok (L'.map D.str):=by
  have cp:∀(p:jw) (L:gu),p.map (λi=>gD (.lst<|C.map D.str)<|.int i)=L.map (λw=>R.ok<|D.str w)->kj (gV 0) (λ_=>R.ok true) (d2 gD (dV 1)<|dV 0) [.no,gR<|C.map D.str] (p.map D.int)=some (L.map D.str):=by
   intro p;induction p with
   |nil=>intro L h;cases L with|nil=>rfl|cons _ _=>cases h
   |cons i p ih=>
    intro L h;cases L with
    |nil=>cases h
    |cons w L=>rw[ay,ay,List.cons.injEq]at h;rw[ay,ay];unfold kj;show((nW<|gD (.lst<|C.map D.str)<|.int i).bind λv=>(kj (gV 0) (λ_=>R.ok true) (d2 gD (dV 1)<|dV 0) [.no,gR<|C.map D.str]<|p.map D.int).bind λvs=>some<|v::vs)=_;rw[h.1,ih L h.2];rfl
  have QT:p.length<=3:=by have:=a9 List.length rT;rw[ar,ar]at this;omega
  have hd:iZ (λρ=>((dV 10) ρ).bind jo) 1 [3] (gV 0) (λ_=>.ok true) (d2 gD (dV 1)<|dV 0) (ig [f9<|m.map .int,s1,fT f,f9<|C.map D.str,f3 F,fT u,fT c,f3 E,fT q,o,f9<|p.map D.int,i9])=.ok (L.map D.str):=by show(if(p.map D.int).length<=sizeLine then qE (kj (gV 0) (λ_=>R.ok true) (d2 gD (dV 1)<|dV 0) [.no,gR<|C.map D.str]<|p.map D.int)else .bad)=_;rw[ae<|by rw[ar];exact bI (tE<|by omega),cp p L rT];rfl
  rw[qf (X:=L'.map D.str)<|by rw[qf hd];exact eL];rfl
 obtain⟨Y,B4,x6,s,Ep,m4,F2,F3,FK,l4⟩:=three (a:=a) (Fc:=Fc) (Zp:=Zp) hv W hb (f9 (m.map .int)) s1 (fT f) (f9 (C.map D.str)) u (by omega) (by omega) (fT c) b (fT q) o (f9 (p.map D.int)) L' l M P i9 m3 F1 (λw hw=>hL2 w (pL.mem_iff.mp hw)) uL (λr J=>by have:=zu r J;omega) (λr J e=>by have:=zu r J;omega) (by rw[pL.length_eq];omega);refine⟨u,Y,sx B4 E x6 b,f3 E,fT q,o,f9 (p.map D.int),s,?_,m4.out x6 b,F2,F3,by omega,by omega,by rw[FK,pL.length_eq];omega,((lB.trans l3).trans l4).trans (iP.sx (by omega) x6 b)⟩;show lD _ _ _ [f9<|m.map .int,s1,fT f,f9<|C.map D.str,f3 F,fT u,fT c,f3 E,fT q,o,f9<|p.map D.int,i9] (sx M E P b)=_;exact(xo it).trans Ep
theorem A3(N:Pk Zp)(hv:Vl H)(O:Cl Fc)(W:W3 C)(P:b0<=F)(o:jw)(s1)(most)(hm:most<=1000):∀(p:jw) (T:Int) (A:fL Rd) (S:f7) (q l k j f d:jg),Out S F (A.map Rd.d)->RowW C A->(∀r∈A,r.t<=T)->0<=T->T+p.length*4000<9000000000->(A.length:Int)<=most+12->
 ∃(i:fL Rd) (S':f7) (t5 t6 z y w n m:jg),jE (hV 6) (mK a Fc Zp H) (p.map D.int) [f9<|o.map .int,s1,fT most,f9<|C.map D.str,f3 F,fT T,q,l,k,j,f,d] S
  =.nx [f9<|o.map .int,s1,fT most,f9<|C.map D.str,f3 F,t5,t6,z,y,w,n,m] S'/\Out S' F (i.map Rd.d)/\RowW C i/\(i.length:Int)<=most+12/\iP b0 S S'
 |[],T,A,S,q,l,k,j,f,d,h,t,_,_,_,M=>⟨A,S,_,q,l,k,j,f,d,rfl,h,t,M,.refl _ _⟩
 |c::p,T,A,S,q,l,k,j,f,d,h,t,ht,h0,Q,M=>by
  rw[aI]at Q;have st:∀x:iY,pH (mK a Fc Zp H [f9<|o.map .int,s1,fT most,f9<|C.map D.str,f3 F,fT T,fT c,l,k,j,f,d] S) (jE (hV 6) (mK a Fc Zp H)<|p.map D.int)=x->jE (hV 6) (mK a Fc Zp H) ((c::p).map D.int) [f9<|o.map .int,s1,fT most,f9<|C.map D.str,f3 F,fT T,q,l,k,j,f,d] S=x:=λx hx=>hx;rcases Nh (b0:=b0) (a:=a) N hv O W P o s1 most T c h t ht h0 (by lia) (by lia) l k j f d with⟨_,e⟩|⟨hle,T',i,S',z,y,w,n,m,e,h',J,G,g1,g2,g3,l1⟩;·exact⟨A,S,_,_,l,k,j,f,d,st _ (by rw[e];rfl),h,t,M,.refl _ _⟩
  ·obtain⟨s,S2,u5,Y,V,U,R,v,u,e2,h2,I,L,l2⟩:=A3 N hv O W P o s1 most hm p T' i S' (fT c) z y w n m h' J G (by walk_at "l") (by push_cast at Q;lia) (by lia);exact⟨s,S2,u5,Y,V,U,R,v,u,st _ (by rw[e];exact e2),h2,I,L,l1.trans l2⟩
def Dg(f)(c:fL α)(lo hi):∃d:fL α,cutD (c.map f) lo hi=d.map f/\d.length<=c.length:=by
 unfold cutD;refine⟨?_,?_,?_⟩
 rotate_left
 ·rw[ar,<-List.map_drop,<-List.map_take]
 ·rw[bD,cc];lia
def Hu(z:Pk Zp)(hv:Vl H)(o:Cl Fc)(W:W3 C)(f:jw)(G:f.length<=63)(first c:Int)(I:c<=1000/\0<=c)(r:S[0]?=some .mk)(p:k8 S):
    ∃(A:fL Rd) (S':f7),RowW C A/\(A.length:Int)<=c+12/\Gr S S'/\hY (vx a Fc Zp H S.length (je 12 [.d<|.lst<|f.map .int,.d<|.int first,.d<|.int c,.d<|.lst<|C.map D.str]) S)=.ok (.d<|.lst<|A.map Rd.d) S':=by
 have L:=v8 r;have k:Gr S (S++[.li []]):=Gr.app λ_=>rfl;have M:Out (S++[.li []]) S.length (([]:fL Rd).map Rd.d):=⟨k.get r,k.bnd p,r6 S _,qL (p _<|af _) rfl,L⟩;obtain⟨i,O,lc⟩:=Dg D.int f (some first) (some<|first+60);have n:=bO (f.getD 1 0) (show(10^9 - 10^6:Int)≠0 by decide);have u:=bK (f.getD 1 0) (show(0:Int)<10^9 - 10^6 by decide);generalize hT:f.getD 1 0%(10^9 - 10^6)=T at n u;have j:T+(i.length:Int)*4000<9000000000:=by
  have N:(i.length:Int)<=63:=by lia
  lia
 obtain⟨A,m,Z,Y,V,U,Q,t,s,P,q,y,J,w⟩:=A3 (b0:=S.length) (a:=a) z hv o W (af _) f (fT first) c I.1 i T [] (S++[.li []]) none none none none none none M ⟨⟨(λ_ h=>nomatch h),List.Pairwise.nil,(λ_ h=>nomatch h)⟩,λ_ h=>nomatch h⟩ (λ_ h=>nomatch h) n j (by simp;lia);have v:iP S.length m (m.set S.length .no):=iP.set (af _) λ_ _=>rfl;have l:=((k.lw<|af _).trans w).trans v;refine⟨A,m.set S.length .no,y,J,⟨l.len,l.pre,l.sf,l.bnd⟩,?_⟩;unfold vx;show hY (gh (gH 4 _) _ [f9<|f.map .int,fT first,fT c,f9<|C.map D.str,none,none,none,none,none,none,none,none] S)=_;rw[hL<|i4 (show oi (λρ=>(fW ρ).bind ie) _ S=.ok (.loc S.length) (S++[.li []])from rfl)<|ai rfl];rw[hL (i4 (gI (d:=.int T) (by show((Fc [.lst (f.map .int),.int (1:Nat)]).bind λx=>gA x (.int (10^9 - 10^6)))=_;rw[o f 1];show gA (.int<|f.getD 1 0) (.int<|10^9 - 10^6)=_;rw[j8 (by decide),hT])) (ai rfl))]
 show hY (gh (lD _ _ _) _ [f9<|f.map .int,fT first,fT c,f9<|C.map D.str,f3 S.length,fT T,none,none,none,none,none,none]<|S++[.li []])=_;rw[hL<|(xo (ds:=i.map D.int)<|by show R.ok (cutD (f.map D.int) (some first)<|some<|first+60)=_;rw[O]).trans P]
 rw[BK rfl q.tt (af _) q.st];show hY (jY _ [f9<|f.map .int,fT first,fT c,f9<|C.map D.str,(if S.length=S.length then f9 (A.map Rd.d)else _),_,_,_,_,_,_,_] _)=_;rw[ae rfl,y_ret<|gI (d:=.lst<|A.map Rd.d) rfl];rfl
end WM
namespace md
open PySem L2 P2 WP WM TM T2 PySem.NumText
def Qc{c:Type}(k:c->KP)(d:c->D)(l:fL c):(l.map k).zip (l.map d)=l.map λx=>(k x,d x):=by
 induction l with
 |nil=>rfl
 |cons a l f=>rw[ay,ay,bJ,f,ay]
def mD{c:Type}(k:c->KP)(l:fL c):Prop:=l.Pairwise λa b=>hQ (k a) (k b)=true
def NV{c:Type}(k:c->KP)(d:c->D)(l:fL c)(i:(l.map k).Nodup):∃a:fL c,a.Perm l/\mD k a/\jV (l.map k) (l.map d)=a.map d:=by obtain⟨a,p,e⟩:=Az (f:=λx=>(k x,d x)) (tx (l.map λx=>(k x,d x))) rfl;have h:=w4 (l:=l.map λx=>(k x,d x)) (by rw[bS];exact i);rw[<-e]at h;refine⟨a,p,bG.mp h,?_⟩;unfold jV;rw[Qc,<-e,bS];rfl
def AZ{c:Type}{k:c->KP}{l a:fL c}(p:l.Perm a)(h:mD k l)(i:mD k a):l=a:=
 df (λx y _ _ f d=>by rw[zY f]at d;cases d) h i p
theorem zK{c:Type}{a:qe}{k:c->KP}{d:c->D}:∀{l:fL c},(∀x∈l,a (d x)=some (k x))->j5 a (l.map d)=some (l.map k)
 |[],_=>rfl
 |x::l,h=>by show(match a (d x),j5 a (l.map d)with|some k,some f=>some (k::f)|_,_=>none)=_;rw[h x<|.head _,zK λy i=>h y<|.tail _ i];rfl
def wX{c:Type}{kf:qe}{k:c->KP}{d:c->D}{l:fL c}(h:∀x∈l,kf (d x)=some (k x))(f:(l.map k).Nodup):∃a:fL c,a.Perm l/\mD k a/\k4 kf (.lst (l.map d))=.ok (a.map d):=by obtain⟨a,p,r,e⟩:=NV k d l f;refine⟨a,p,r,?_⟩;show(match j5 kf (l.map d)with|some i=>if i.Nodup then R.ok (jV i<|l.map d)else .bad|none=>.bad)=_;rw[zK h];show(if(l.map k).Nodup then R.ok (jV (l.map k)<|l.map d)else .bad)=_;rw[ae f,e]
structure Fl where
 m:fR
 t:Int
 p:Int
 q:Int
 u:Int
 v:Int
def Fl.d(f:Fl):D:=.tup [.str f.m,.int f.t,pr f.p f.q,.int f.u,.int f.v]
def Fl.k(f:Fl):KP:=(f.t,f.m)
def ktop(r s:Rd)(t:Int):Int:=r.p*(s.t - t)*s.q+s.p*(t - r.t)*r.q
def qy(r s:Rd):Int:=(s.t - r.t)*r.q*s.q
def iH(r s:Rd)(t:Int):Fl:=⟨r.m,t,FM.top (ktop r s t)<|qy r s,FM.bot (ktop r s t)<|qy r s,r.t,s.t⟩
def cnt(st:Int)(r s:Rd):Nat:=lr (r.t+st) s.t st
def gv(st a:Int)(x:Rd×Rd):fL Fl:=if x.2.t - x.1.t>a then[]else(List.range<|cnt st x.1 x.2).map λ(k:Nat)=>iH x.1 x.2 (x.1.t+st+k*st)
def G2{lo d c:Int}(i:0<c)(k:Nat):k<lr lo d c↔lo+k*c<d:=by
 unfold lr Builtin.Range.rangeSize;rw[ae i];have j:(0:Int)<=k*c:=c3 (by omega) (by omega);by_cases h:lo<d
 ·rw[ae h];have a:=Int.ediv_nonneg (a:=d - lo - 1) (b:=c) (by omega) (by omega);have b:=eZ (a:=(k:Int)) (b:=d - lo - 1) i;constructor
  ·intro f;have:=b.mp (by omega);omega
  ·intro f;have:=b.mpr (by omega);omega
 ·rw[ah h];constructor;·intro f;simp at f
  ·intro f;omega
section
variable{c m:Int}(l:0<c)
include l
theorem ql(r s:Rd)(k:Nat):k<cnt c r s↔r.t+c+k*c<s.t:=G2 l k
theorem qD{x:Rd×Rd}{f:Fl}:f∈gv c m x↔x.2.t - x.1.t<=m/\∃k:Nat,x.1.t+c+k*c<x.2.t/\f=iH x.1 x.2 (x.1.t+c+k*c):=by
 unfold gv;split;·simp;omega
 ·rw[bx];constructor
  ·rintro ⟨k,a,rfl⟩
   exact⟨by omega,k,(ql l _ _ k).mp (dm.mp a),rfl⟩
  ·rintro ⟨_,k,a,rfl⟩
   exact⟨k,dm.mpr<|(ql l _ _ k).mpr a,rfl⟩
theorem CJ{x:Rd×Rd}(h:¬(x.2.t - x.1.t<=m/\x.1.t+c<x.2.t)):gv c m x=[]:=by rw[List.eq_nil_iff_forall_not_mem];intro f hf;obtain⟨d,k,a,_⟩:=(qD l).mp hf;have:(0:Int)<=k*c:=c3 (by omega) (by omega);omega
theorem nH{x:Rd×Rd}{f:Fl}(h:f∈gv c m x):f.m=x.1.m/\x.1.t<f.t/\f.t<x.2.t:=by obtain⟨_,k,a,rfl⟩:=(qD l).mp h;have:(0:Int)<=k*c:=c3 (by omega) (by omega);exact⟨rfl,by show x.1.t<x.1.t+c+k*c;omega,a⟩
theorem CL(x:Rd×Rd):(gv c m x).Pairwise λa b=>a.t<b.t:=by
 unfold gv;split;·exact .nil
 ·refine bG.mpr (List.pairwise_lt_range.imp λ{i j} h=>?_);show x.1.t+c+i*c<x.1.t+c+j*c;have:(i:Int)*c<j*c:=Int.mul_lt_mul_of_pos_right (by omega) l;omega
end
def adj:fL Rd->fL (Rd×Rd)
 |a::b::l=>(a,b)::adj (b::l)
 |_=>[]
def nxt(l:fL Rd)(r:Rd):fL (Rd×Rd):=match l.getLast? with
 |some x=>[(x,r)]
 |none=>[]
theorem xT(r:Rd):∀l:fL Rd,adj (l++[r])=adj l++nxt l r
 |[]=>rfl
 |[a]=>rfl
 |a::b::l=>by have:=xT r (b::l);show(a,b)::adj (b::l++[r])=(a,b)::adj (b::l)++nxt (a::b::l) r;rw[this,dH];unfold nxt;rw[eW]
def Up(l:fL Rd):Prop:=l.Pairwise λa b=>a.t<b.t
theorem lN:∀{l:fL Rd} {x:Rd×Rd},x∈adj l->x.1∈l/\x.2∈l
 |a::b::l,x,h=>by
  rcases aH.mp h with rfl|h;·exact⟨.head _,.tail _<|.head _⟩
  ·obtain⟨d,c⟩:=lN h;exact⟨.tail _ d,.tail _ c⟩
 |[],x,h=>nomatch h
 |[a],x,h=>nomatch h
theorem uv:∀{l:fL Rd} {x:Rd×Rd},Up l->x∈adj l->x.1.t<x.2.t/\∀z∈l,z.t<=x.1.t\/x.2.t<=z.t
 |a::b::l,x,u,h=>by
  obtain⟨f,d⟩:=aV.mp u;rcases aH.mp h with rfl|h
  ·refine⟨f b<|.head _,λz c=>?_⟩;rcases aH.mp c with rfl|c;·exact .inl (cK _)
   ·rcases aH.mp c with rfl|c;·exact .inr (cK _)
    ·exact .inr (cM<|(aV.mp d).1 z c)
  ·obtain⟨k,j⟩:=uv d h;have i:=f x.1 (lN h).1;refine⟨k,λz c=>?_⟩;rcases aH.mp c with rfl|c;·exact .inl (cM i)
   ·exact j z c
 |[],x,_,h=>nomatch h
 |[a],x,_,h=>nomatch h
theorem xU:∀{l:fL Rd},Up l->(adj l).Pairwise λx y=>x.2.t<=y.1.t
 |a::b::l,u=>by
  obtain⟨f,c⟩:=aV.mp u;refine aV.mpr ⟨λy d=>?_,xU c⟩;rcases aH.mp (lN d).1 with e|h;·rw[e];exact cK _
  ·exact cM ((aV.mp c).1 _ h)
 |[],_=>.nil
 |[a],_=>.nil
theorem xS:∀{l:fL Rd} {a b:Rd},Up l->a∈l->b∈l->a.t<b.t->(∀z∈l,¬(a.t<z.t/\z.t<b.t))->(a,b)∈adj l
 |[],a,b,_,h,_,_,_=>nomatch h
 |[c],a,b,_,i,f,n,_=>by rw[bg]at i f;subst i;subst f;omega
 |c::d::l,a,b,u,i,f,n,m=>by
  obtain⟨k,j⟩:=aV.mp u;rcases aH.mp i with rfl|i
  ·rcases aH.mp f with rfl|f;·omega
   ·rcases aH.mp f with rfl|f;·exact .head _
    ·exact absurd ⟨k d<|.head _,(aV.mp j).1 b f⟩ (m d<|.tail _<|.head _)
  ·have p:=k a i;rcases aH.mp f with rfl|f;·omega
   ·exact .tail _ (xS j i f n λz o=>m z<|.tail _ o)
def il(a:fL Rd):fL Rd->fL (Rd×Rd)
 |[]=>[]
 |r::l=>nxt (own a r.m) r++il (a++[r]) l
theorem yU{c:Type}{f:fR->fL c}{x:fL c}{m:fR}:∀{a:gu},a.Nodup->m∈a->(a.flatMap λw=>f w++if m=w then x else[]).Perm (x++a.flatMap f)
 |[],_,h=>nomatch h
 |w::a,d,h=>by
  rw[bq,bq];obtain⟨j,i⟩:=bB.mp d;by_cases e:m=w
  ·subst e;rw[ae rfl];have l:(a.flatMap λw=>f w++if m=w then x else[])=a.flatMap f:=by
    clear d h i;induction a with
    |nil=>rfl
    |cons v a k=>rw[bq,bq,k λz=>j<|.tail _ z,ah λz=>j<|by rw[z];exact .head _,aP]
   rw[l,<-aS];exact List.perm_append_comm.append_right _
  ·rw[ah e,aP];rcases aH.mp h with z|h;·exact absurd z e
   ·refine((yU i h).append_left _).trans ?_;rw[<-aS,<-aS];exact List.perm_append_comm.append_right _
theorem AG{c:gu}(d:c.Nodup):∀(l a:fL Rd),(∀r∈l,r.m∈c)->(il a l++c.flatMap λw=>adj<|own a w).Perm (c.flatMap λw=>adj<|own (a++l) w)
 |[],a,_=>by rw[aP];exact .refl _
 |r::l,a,h=>by
  have f:=AG d l (a++[r]) λs i=>h s (.tail _ i);rw[aS]at f;refine .trans ?_ f;have e:(c.flatMap λw=>adj<|own (a++[r]) w)=c.flatMap λw=>adj (own a w)++if r.m=w then nxt (own a r.m) r else[]:=by
   congr 1
   funext w;rw[Aw];by_cases z:r.m=w;·rw[ae z,ae z,xT,z]
   ·rw[ah z,ah z,aP,aP]
  rw[e];refine .trans ?_ ((yU d<|h r<|.head _).symm.append_left _);show((nxt (own a r.m) r++il (a++[r]) l)++_).Perm _;rw[aS,<-aS,<-aS];exact List.perm_append_comm.append_right _
def iQ(st d:Int)(c:gu)(a:fL Rd):fL Fl:=c.flatMap λw=>(adj<|own a w).flatMap (gv st d)
def OJ{st mo:Int}{c:gu}{a:fL Rd}(d:c.Nodup)(h:∀r∈a,r.m∈c):((il [] a).flatMap (gv st mo)).Perm (iQ st mo c a):=by
 have p:=AG d a [] h;have e:(c.flatMap λw=>adj<|own [] w)=[]:=by
  clear d h p;induction c with
  |nil=>rfl
  |cons w c f=>rw[bq,f];rfl
 rw[e,aP,cQ]at p;unfold iQ;rw[<-List.flatMap_assoc];exact p.flatMap_right _
def mu{c:fL Rd}(h:c.Pairwise WM.Lx)(w:fR):Up (own c w)/\∀r∈own c w,r.m=w/\r∈c:=by
 have f:∀r∈own c w,r.m=w/\r∈c:=λr d=>by unfold own at d;rw[cN]at d;exact⟨aX d.2,d.1⟩
 refine⟨?_,f⟩;have p:(own c w).Pairwise WM.Lx:=List.Pairwise.filter _ h;refine eK (λ{a b} j i q=>?_) p;rcases q with q|⟨_,q⟩;·exact q
 ·rw[(f a j).1,(f b i).1]at q;exact absurd q (dw _)
section
variable{st mo:Int}(i:0<st){l:gu}{c:fL Rd}(m:l.Nodup)(j:c.Pairwise WM.Lx)
include i j
theorem uY{f:Fl}(h:f∈iQ st mo l c):f.m∈l/\∃x∈adj (own c f.m),f∈gv st mo x:=by unfold iQ at h;obtain⟨w,d,h⟩:=cI.mp h;obtain⟨x,a,h⟩:=cI.mp h;have e:=(nH i h).1;have k:=((mu j w).2 _ (lN a).1).1;rw[e,k];exact⟨d,x,a,h⟩
include m
theorem uZ:((iQ st mo l c).map Fl.k).Nodup:=by
 refine bG.mpr ?_;unfold iQ;refine fy.mpr ⟨λw p=>?_,m.imp_of_mem λ{v w} hv p ne f hf g d e=>?_⟩
 ·obtain⟨n,u⟩:=mu j w;refine fy.mpr ⟨λx k=>(CL i x).imp λ{a b} h e=>?_,(xU n).imp λ{x y} h f hf g d e=>?_⟩
  ·have:a.t=b.t:=a9 Prod.fst e;omega
  ·have:f.t=g.t:=a9 Prod.fst e;have:=nH i hf;have:=nH i d;omega
 ·obtain⟨x,k,hf⟩:=cI.mp hf;obtain⟨y,o,d⟩:=cI.mp d;have t:=(nH i hf).1;have s:=(nH i d).1;have r:=((mu j v).2 _ (lN k).1).1;have q:=((mu j w).2 _ (lN o).1).1;have:f.m=g.m:=a9 Prod.snd e;rw[t,s,r,q]at this;exact ne this
end
def Fl.r(f:Fl):Rd:=⟨f.m,f.t,f.p,f.q⟩
def Hh{a b:Rd}:hQ (nR a) (nR b)=true↔WM.Lx a b:=by
 show(if a.t=b.t then decide (a.m.cps.toList<b.m.cps.toList)else decide (a.t<b.t))=true↔_;unfold WM.Lx;split;·rename_i e;simp[e]
 ·rename_i e;simp[e]
theorem AF:∀{l a:fL Rd} {x y:Rd},(x,y)∈il a l->∃c d,l=c++y::d/\(own (a++c) y.m).getLast?=some x
 |[],a,x,y,h=>nomatch h
 |r::l,a,x,y,h=>by
  rcases bf.mp h with h|h
  ·unfold nxt at h;split at h
   ·rename_i z e;rw[bg]at h;cases h;exact⟨[],l,rfl,by rw[aP];exact e⟩
   ·cases h
  ·obtain⟨c,d,rfl,e⟩:=AF h;exact⟨r::c,d,rfl,by rw[<-e,aS];rfl⟩
theorem zO:∀{l:fL Rd} {x:Rd},Up l->l.getLast?=some x->∀z∈l,z.t<=x.t
 |[],x,_,h,z,c=>nomatch c
 |[a],x,_,h,z,c=>by cases h;rw[bg]at c;rw[c];exact cK _
 |a::b::l,x,u,h,z,c=>by
  rw[eW]at h;obtain⟨f,d⟩:=aV.mp u;rcases aH.mp c with rfl|c;·exact cM (f x<|fH h)
  ·exact zO d h z c
def wA{F:fL Rd}(f:F.Pairwise WM.Lx){x y:Rd}(h:(x,y)∈il [] F):x∈F/\y∈F/\x.m=y.m/\x.t<y.t/\∀z∈F,z.m=y.m->¬(x.t<z.t/\z.t<y.t):=by
 obtain⟨i,m,rfl,e⟩:=AF h;rw[cQ]at e;have d:=(bV.mp f).1;obtain⟨u,l⟩:=mu d y.m;have c:=l x (fH e);have n:y∈i++y::m:=aM _ (.head _);have k:=(bV.mp f).2.2 x c.2 y (.head _);refine⟨bT _ c.2,n,c.1,?_,λz a j o=>?_⟩
 ·rcases k with q|⟨_,q⟩;·exact q
  ·rw[c.1]at q;exact absurd q (dw _)
 ·rcases bf.mp a with a|a
  ·have:z∈own i y.m:=by unfold own;exact cN.mpr ⟨a,aE j⟩
   have:=zO u e z this;omega
  ·rcases aH.mp a with rfl|a;·omega
   ·have:=(aV.mp (bV.mp f).2.1).1 z a;rcases this with q|q<;>omega
section
variable{st mo:Int}(i:0<st){m:gu}{c:fL Rd}(q:m.Nodup)(l:c.Pairwise WM.Lx)(s:∀r∈c,r.m∈m)
include i l q
theorem CA:((c++(iQ st mo m c).map Fl.r).map nR).Nodup:=by
 rw[bZ,bS];refine List.nodup_append.mpr ⟨bG.mpr<|l.imp WM.Lx.ne,uZ (st:=st) (mo:=mo) i q l,λa k b j e=>?_⟩;obtain⟨r,h,rfl⟩:=bx.mp k;obtain⟨f,hf,rfl⟩:=bx.mp j;obtain⟨_,x,d,hf⟩:=uY i l hf;have b1:=nH i hf;have o:r.t=f.t:=a9 Prod.fst e;have n:r.m=f.m:=a9 Prod.snd e;have:r∈own c f.m:=by unfold own;exact cN.mpr ⟨h,aE n⟩
 have:=(uv (mu l f.m).1 d).2 r this;omega
include s
theorem HQ{F:fL Rd}(p:F.Perm<|c++(iQ st mo m c).map Fl.r)(sF:F.Pairwise WM.Lx){x y:Rd}(h:(x,y)∈il [] F):gv st mo (x,y)=[]:=by
 obtain⟨P,O,Y,lt,n⟩:=wA sF h;refine CJ i λQ=>?_;obtain⟨N,U⟩:=Q;dsimp only at N U;obtain⟨u,A⟩:=mu l y.m;have t:∀z∈own c y.m,z∈F:=λz v=>p.mem_iff.mpr (bT _ (A z v).2);have o:∀z∈F,z.m=y.m->z∈own c y.m\/∃a b,(a,b)∈adj (own c y.m)/\∃k:Nat,b.t - a.t<=mo/\z.t=a.t+st+k*st/\z.t<b.t:=λz v J=>by
  rcases bf.mp (p.mem_iff.mp v)with w|w;·left;unfold own;exact cN.mpr ⟨w,aE J⟩
  ·obtain⟨f,hf,rfl⟩:=bx.mp w;obtain⟨_,⟨a,b⟩,d,hf⟩:=uY i l hf;have V:f.m=y.m:=J;rw[V]at d;obtain⟨C,k,D,rfl⟩:=(qD i).mp hf;exact .inr ⟨a,b,d,k,C,rfl,D⟩
 have G:∃a b,(a,b)∈adj (own c y.m)/\∃j:Nat,x.t=a.t+j*st/\y.t<=b.t/\b.t - a.t<=mo:=by
  rcases o x P Y with w|⟨a,b,d,k,C,D,g3⟩
  ·rcases o y O rfl with w'|⟨a,b,d,k,C,D,g3⟩;·exact⟨x,y,xS u w w' lt λz v=>n z (t z v) (A z v).1,0,by simp,cK _,N⟩
   ·have M:=(lN d).1;have:=n a (t a M) (A a M).1;have:=(uv u d).2 x w;have nn:(0:Int)<=k*st:=c3 (by omega) (by omega);dsimp only at this;exact⟨a,b,d,0,by simp;omega,by omega,C⟩
  ·have L:=(lN d).2;have:=n b (t b L) (A b L).1;refine⟨a,b,d,k+1,?_,by omega,C⟩;rw[D]
   push_cast
   rw[Int.add_mul];omega
 obtain⟨a,b,d,j,e1,e2,Z⟩:=G;have hf:iH a b (a.t+st+j*st)∈gv st mo (a,b):=(qD i).mpr ⟨Z,j,by dsimp only;omega,rfl⟩;have I:=(A a (lN d).1);have R:iH a b (a.t+st+j*st)∈iQ st mo m c:=by unfold iQ;refine cI.mpr ⟨y.m,?_,cI.mpr ⟨(a,b),d,hf⟩⟩;rw[<-I.1];exact s a I.2
 have T:(iH a b<|a.t+st+j*st).r∈F:=p.mem_iff.mpr (aM _<|bx.mpr ⟨_,R,rfl⟩);refine n _ T I.1 ⟨?_,?_⟩;·show x.t<a.t+st+j*st;omega
 ·show a.t+st+j*st<y.t;omega
end
variable{a:Ad}
def hA{f:gf}{r:ip}{ρ:Ev}{x:D}{c:gx}(e:f ρ=.ok x)(d:r ρ=.ok c):fM f r ρ=.ok (x::c):=by show(f ρ).bind (λx=>(r ρ).bind λc=>.ok<|x::c)=_;rw[e,d];rfl
def lh{F:gk}{c:ip}{ρ:Ev}{d:gx}{y:R D}(e:c ρ=.ok d)(f:F d=y):dA F c ρ=y:=by show(c ρ).bind F=_;rw[e];exact f
theorem cO{k:Type}{m:kP}{c:iM}{e:gf}{i:Ev}(f h:k->D)(p:k->f5):∀(L:fL k),(∀r∈L,∃d,m (f r) i=some d/\c d=.ok (p r)/\(p r=true->e d=.ok (h r)))->kj m c e i (L.map f)=some ((L.filter p).map h)
 |[],_=>rfl
 |r::L,H=>by
  obtain⟨d,s,j,o⟩:=H r (.head _);have l:=cO f h p L λx n=>H x (.tail _ n);rw[ay];unfold kj;rw[s];cases q:p r with
  |true=>rw[q]at j;simp only[Option.bind_some,j,o q,nW,cz,l];rw[List.filter_cons_of_pos q];rfl
  |false=>rw[q]at j;simp only[Option.bind_some,j,nW,bR,bU,l];rw[List.filter_cons_of_neg<|by rw[q];decide]
def nM{α:Type}{k:ip}{i:Nat}{l:jQ}{j:kP}{c:iM}{e:gf}{ρ:Ev}(f h:α->D)(p:α->f5)(L:fL α)(n:k ρ=.ok (L.map f))(m:L.length<=1000000)(H:∀r∈L,∃d,j (f r) (kR i l ρ)=some d/\c d=.ok (p r)/\(p r=true->e d=.ok (h r))):
    iZ k i l j c e ρ=.ok ((L.filter p).map h):=by
 show(k ρ).bind _=_;rw[n];show(if(L.map f).length<=sizeLine then qE (kj j c e (kR i l ρ)<|L.map f)else .bad)=_;rw[ae<|by rw[ar];exact size_of m,cO f h p L H];rfl
structure Vs(Fs Fm Fx Fp:gk):Prop where
 s:∀t t1 t2:Int,Sz 20 t1->Sz 20 t2->Fs [.int t,.int t1,.int t2]=.ok (pr (n7 t t1 t2).1 (n7 t t1 t2).2)
 m:∀p q x y:Int,Sz 190 p->Sz 190 q->Sz 190 x->Sz 190 y->q≠0->y≠0->Fm [pr p q,pr x y]=.ok (fr (p*y - x*q)<|q*y)
 x:∀p q x y:Int,Sz 190 p->Sz 190 q->Sz 190 x->Sz 190 y->q≠0->y≠0->Fx [pr p q,pr x y]=.ok (fr (p*x)<|q*y)
 p:∀p q x y:Int,Sz 190 p->Sz 190 q->Sz 190 x->Sz 190 y->q≠0->y≠0->Fp [pr p q,pr x y]=.ok (fr (p*y+x*q)<|q*y)
def iU(t:Int):Prop:=0<=t/\t<10000000000
def ni{t:Int}(h:iU t):Sz 10 t:=by unfold Sz iU at*;omega
def Hx{u D C v:gk}(O:Vs u D C v){r s:Rd}(c:jB r)(f:jB s)(l:iU r.t)(w:iU s.t)(h:r.t<s.t){t:Int}(I:iU t):
    gX (vo a u D C v<|gY 4 [.int t,r.d,s.d])=.ok (pr (iH r s t).p (iH r s t).q):=by
 have A:=O.s t r.t s.t ((ni l).mono (by decide)) ((ni w).mono (by decide));have m:s.t - r.t≠0:=by omega
 have M:n7 t r.t s.t=(FM.top (t - r.t)<|s.t - r.t,FM.bot (t - r.t)<|s.t - r.t):=by unfold n7;rw[ah<|by omega]
 rw[M]at A;have z:Sz 11 (FM.top (t - r.t)<|s.t - r.t):=((ni I).sub (ni l)).top m;have y:Sz 11 (FM.bot (t - r.t)<|s.t - r.t):=((ni w).sub (ni l)).bot m;have F:=(FM.lY (t:=t - r.t) m).pos;have n:=c.low.pos;have J:=f.low.pos;have k:s.q*r.q≠0:=bC (by omega) (by omega);have j:Sz 125 (s.p*r.q - r.p*s.q):=(f.p.mul c.q).sub (c.p.mul f.q);have i:Sz 124 (s.q*r.q):=f.q.mul c.q;have G:=(FM.lY (t:=s.p*r.q - r.p*s.q) k).pos;have p:Sz 136 (FM.top (t - r.t) (s.t - r.t)*FM.top (s.p*r.q - r.p*s.q) (s.q*r.q)):=z.mul (j.top k);have o:Sz 135 (FM.bot (t - r.t) (s.t - r.t)*FM.bot (s.p*r.q - r.p*s.q) (s.q*r.q)):=y.mul (i.bot k);have q:FM.bot (t - r.t) (s.t - r.t)*FM.bot (s.p*r.q - r.p*s.q) (s.q*r.q)≠0:=bC (by omega) (by omega);have L:=(FM.lY (t:=FM.top (t - r.t) (s.t - r.t)*FM.top (s.p*r.q - r.p*s.q) (s.q*r.q)) q).pos;have Q:=O.m s.p s.q r.p r.q (f.p.mono<|by decide) (f.q.mono<|by decide) (c.p.mono<|by decide) (c.q.mono<|by decide) (by omega) (by omega);have P:=O.x _ _ _ _ (z.mono<|by decide) (y.mono<|by decide) ((j.top k).mono (by decide)) ((i.bot k).mono (by decide)) (fq F) (fq G);have N:=O.p _ _ _ _ (c.p.mono<|by decide) (c.q.mono<|by decide) ((p.top q).mono (by decide)) ((o.bot q).mono (by decide)) (fq n) (fq L);have sh:=CK.share (t:=t) c.low f.low h ⟨rfl,rfl⟩ ⟨rfl,rfl⟩ ⟨rfl,rfl⟩;unfold vo;show gX (lz (toS (u [.int t,.int r.t,.int s.t]) λd=>RT.nx [fV t,.sh r.d,.sh s.d,.sh d]) _)=_;rw[A];show gX (toS (dA v _ [fV t,.sh r.d,.sh s.d,.sh<|pr (FM.top (t - r.t)<|s.t - r.t)<|FM.bot (t - r.t)<|s.t - r.t]) .rt)=_;rw[lh (hA (x:=pr r.p r.q) rfl<|hA (lh (hA (x:=pr (FM.top (t - r.t)<|s.t - r.t)<|FM.bot (t - r.t)<|s.t - r.t) rfl<|hA (lh (hA (x:=pr s.p s.q) rfl<|hA (x:=pr r.p r.q) rfl rfl) Q) rfl) P) rfl) N];show R.ok (fr _ _)=_;unfold fr;rw[sh.1,sh.2];rfl
def Hi{i:gk}{st c:Int}(o:0<st)(p:st<=1000){r s:Rd}(l:iU r.t)(j:iU s.t)(hv:∀f∈gv st c (r,s),i [.int f.t,r.d,s.d]=.ok (pr f.p f.q))(d:(gv st c (r,s)).length<=100000):
    gX (oW a i<|gY 7 [r.d,s.d,.int st,.int c])=.ok (.lst<|(gv st c (r,s)).map Fl.d):=by
 unfold iU at l j;unfold oW;by_cases h:s.t - r.t>c
 ·have e:gv st c (r,s)=[]:=by unfold gv;exact ae h
  rw[e];show gX (lz (if decide (s.t - r.t>c)=true then RT.rt (.lst [])else _) _)=_;rw[ae<|aE h];rfl
 ·have e:gv st c (r,s)=(List.range<|cnt st r s).map λ(k:Nat)=>iH r s (r.t+st+k*st):=by unfold gv;exact ah h
  rw[e]at hv d⊢;show gX (lz (if decide (s.t - r.t>c)=true then _ else RT.nx [.sh r.d,.sh s.d,fV st,fV c,g0 r.m,fV r.t,fV s.t]) _)=_;rw[ah<|by simpa using h];show gX (toS ((iZ _ _ _ _ _ _ [.sh r.d,.sh s.d,fV st,fV c,g0 r.m,fV r.t,fV s.t]).bind λn=>R.ok<|.lst n) .rt)=_;rw[nM (α:=Nat) (λk=>.int<|r.t+st+k*st) (λk=>(iH r s<|r.t+st+k*st).d) (λ_=>true) (List.range<|cnt st r s) ?_ ?_ ?_];·rw[cA.mpr λ_ _=>rfl,bS];rfl
  ·show(if -(2^60)<=r.t+st/\r.t+st<2^60/\ -(2^60)<=s.t/\s.t<2^60/\0<st/\st<2^60 then R.ok (qO (r.t+st) st<|lr (r.t+st) s.t st)else .bad)=_;rw[ae<|by omega];rfl
  ·rw[ar]at d;omega
  ·intro k m;refine⟨[fV<|r.t+st+k*st,fV s.t,.sh r.d,g0 r.m,.sh s.d,fV r.t],rfl,rfl,λ_=>?_⟩;have:=hv _ (bx.mpr ⟨k,m,rfl⟩);exact lh (hA (x:=.str r.m) rfl<|hA (x:=.int<|r.t+st+k*st) rfl<|hA (lh (hA (x:=.int<|r.t+st+k*st) rfl<|hA (x:=r.d) rfl<|hA (x:=s.d) rfl rfl) this)<|hA (x:=.int r.t) rfl<|hA (x:=.int s.t) rfl rfl) rfl
variable{a:Ad}
section
variable{f g:gU}{q:gf}{ρ:gQ}{S c:f7}{z:Z}{n i:Nat}
def PJ{d:D}{k:Key}{j:oA}(l:q (ig ρ)=.ok d)(h:f ρ S=.ok (.loc n) S)(m:lX d=some k)(o:S[n]?=some (.dk j)):tP q f ρ S=.ok (valZ j k).isSome S:=by
 unfold tP;rw[l];show(f ρ S).bind _=_;rw[h]
 show(match Z.loc n,lX d with
  |.loc n,some k=>(match S[n]? with
   |some (.dk j)=>RX.ok (valZ j k).isSome S
   |_=>.bad)
  |_,_=>.bad)=_
 rw[m];simp only[o]
def Pu{d:D}{k:Key}{j:oA}(p:f ρ S=.ok z S)(l:q (ig ρ)=.ok d)(h:g ρ S=.ok (.loc n) S)(o:lX d=some k)(r:S[n]?=some (.dk j))(m:j.length<100000):qS g q f ρ S=.nx ρ (S.set n<|.dk<|jK j k z):=by
 unfold qS;rw[p];show toZ (g ρ S) _=_;rw[h];show toZ (jf (q<|ig ρ) S) _=_;rw[l]
 show(match Z.loc n,lX d with
  |.loc n,some k=>(match S[n]? with
   |some (.dk j)=>if j.length<sizeLine then iY.nx ρ (S.set n<|.dk<|jK j k z)else .bad
   |_=>.bad)
  |_,_=>.bad)=_
 rw[o];simp only[r];exact ae (tE m)
def Pw{d:fL Z}{es:gx}(k:ρ[i]?=some (f3 n))(h:S[n]?=some (.li d))(hf:f ρ S=.ok (.d<|.lst es) S)(j:d.length+es.length<=1000000):qT i f ρ S=.nx ρ (S.set n<|.li<|d++es.map Z.d):=by
 unfold qT;rw[k];simp only[h];rw[hf]
 show(match Z.d (.lst es),S[n]? with
  |.d (.lst es),some (.li d)=>if d.length+es.length<=sizeLine then iY.nx ρ (S.set n<|.li<|d++es.map Z.d)else .bad
  |_,_=>.bad)=_
 rw[h];exact ae (size_of j)
end
def nI{st c:Int}(d:0<st)(f:c<=100*st)(x:Rd×Rd):(gv st c x).length<=100:=by
 unfold gv;split;·simp
 ·rename_i h;rw[ar,bH];rcases Nat.lt_or_ge 100 (cnt st x.1 x.2)with w|w
  ·have:=(ql d x.1 x.2 100).mp w;omega
  ·exact w
def rh(c:oA)(d:fL Rd):Prop:=(∀m:fR,valZ c (.inr m)=(own d m).getLast?.map λr=>.d r.d)/\c.length<=d.length/\∀n,(c.any λp=>jI n p.2)=false
def rh.put{kvs:oA}{c:fL Rd}(h:rh kvs c)(r:Rd):rh (jK kvs (.inr r.m)<|.d r.d) (c++[r]):=by
 refine⟨λm=>?_,?_,λn=>?_⟩
 ·rw[O4,Aw];by_cases e:r.m=m;·rw[ae<|by rw[e],ae e,List.getLast?_append];rfl
  ·rw[ah λz=>e<|Sum.inr.inj z,ah e,aP];exact h.1 m
 ·have:=G3 (kvs:=kvs) (k:=(.inr r.m:Key)) (v:=.d r.d);have:=h.2.1;rw[aj];simp;omega
 ·cases q:(jK kvs (.inr r.m:Key)<|.d r.d).any λp=>jI n p.2 with
  |false=>rfl
  |true=>
   rcases Fi q with w|w;·rw[h.2.2 n]at w;cases w
   ·cases w
def sF(S:f7)(T:fL Fl)(c:oA):f7:=S++[.li<|(T.map Fl.d).map .d,.dk c]
def A5(S:f7)(T kvs):(sF S T kvs)[S.length]?=some (.li<|(T.map Fl.d).map .d):=by unfold sF;rw[av<|af _,cy];rfl
def wU(S:f7)(T kvs):(sF S T kvs)[S.length+1]?=some (.dk kvs):=by unfold sF;rw[av<|by omega,cG];rfl
def Nu(S:f7)(T T' kvs):(sF S T kvs).set S.length (.li<|(T'.map Fl.d).map .d)=sF S T' kvs:=by unfold sF;rw[dF _ _<|af _,cy];rfl
def Nv(S:f7)(T kvs zL):(sF S T kvs).set (S.length+1) (.dk zL)=sF S T zL:=by unfold sF;rw[dF _ _<|by omega,cG];rfl
section
variable{j:gk}{c h:Int}(l:0<c)(m:h<=100*c)(S:f7)(i:jg)
include l m
theorem yQ:∀(rest o:fL Rd) (kvs) (T:fL Fl) (s5 s6),(∀x∈il o rest,j [x.1.d,x.2.d,.int c,.int h]=.ok (.lst<|(gv c h x).map Fl.d))->rh kvs o->o.length+rest.length<=1000->T.length<=o.length*100->
 ∃s C A,(∀n,(s.any λp=>jI n p.2)=false)/\jE (hV 5) (oF a j) (rest.map Rd.d) [i,fT c,fT h,f3 S.length,f3<|S.length+1,s5,s6] (sF S T kvs)
  =.nx [i,fT c,fT h,f3 S.length,f3<|S.length+1,C,A] (sF S (T++(il o rest).flatMap (gv c h)) s)
 |[],o,kvs,T,s5,s6,_,u,_,_=>⟨kvs,s5,s6,u.2.2,by rw[show il o []=[]from rfl,List.flatMap_nil,aP];rfl⟩
 |r::rest,o,kvs,T,s5,s6,D,u,I,hT=>by
  rw[aI]at I
  have put:∀y,qS (zV 4) (dV 6) (zD<|dV 5) [i,fT c,fT h,f3 S.length,f3<|S.length+1,iE r.d,iE<|.str r.m] (sF S y kvs)
   =.nx [i,fT c,fT h,f3 S.length,f3<|S.length+1,iE r.d,iE<|.str r.m] (sF S y<|jK kvs (.inr r.m)<|.d r.d):=λy=>by
   rw[Pu (z:=.d r.d) (d:=.str r.m) (k:=.inr r.m) (gI rfl) rfl (nq rfl) rfl (wU S y kvs) (by have:=u.2.1;omega),Nv]
  have t:=PJ (q:=dV 6) (f:=zV 4) (d:=.str r.m) (k:=.inr r.m) (ρ:=[i,fT c,fT h,f3 S.length,f3<|S.length+1,iE r.d,iE<|.str r.m]) rfl (nq rfl) rfl (wU S T kvs)
  have v:oF a j [i,fT c,fT h,f3 S.length,f3<|S.length+1,iE r.d,s6] (sF S T kvs)
   =.nx [i,fT c,fT h,f3 S.length,f3<|S.length+1,iE r.d,iE<|.str r.m] (sF S (T++(nxt (own o r.m) r).flatMap (gv c h))<|jK kvs (.inr r.m)<|.d r.d):=by
   unfold oF;rw[hL<|i4 (gI (d:=.str r.m) rfl)<|ai rfl];show gh _ _ [i,fT c,fT h,f3 S.length,f3<|S.length+1,iE r.d,iE<|.str r.m] _=_;rw[u.1 r.m]at t;unfold nxt;cases w:(own o r.m).getLast? with
   |none=>rw[w]at t;rw[lE t,put];show _=iY.nx _ (sF S (T++[]) _);rw[aP]
   |some x=>rw[w]at t;have J:=D (x,r) (bT _<|by unfold nxt;rw[w];exact .head _);have bl:=nI l m (x,r);rw[hL<|(nj t).trans (Pw (es:=(gv c h (x,r)).map Fl.d) rfl (A5 S T kvs) (qV [x.d,r.d,.int c,.int h] (hU (PH (z:=.d x.d) (nq rfl) rfl rfl (wU S T kvs)<|by rw[u.1 r.m,w];rfl)<|hU (gI rfl)<|hU (gI rfl)<|hU (gI rfl) kL) J)<|by simp only[ar];omega)];rw[<-bZ,<-bZ,Nu,put];show _=iY.nx _ (sF S (T++[(x,r)].flatMap (gv c h)) _);rw[fv]
  have L:((nxt (own o r.m) r).flatMap (gv c h)).length<=100:=by
   unfold nxt;split;·rw[fv];exact nI l m _
   ·simp
  obtain⟨s,C,A,F,e⟩:=yQ rest (o++[r]) (jK kvs (.inr r.m) (.d r.d)) (T++(nxt (own o r.m) r).flatMap (gv c h)) (iE r.d) (iE (.str r.m)) (λx G=>D x (aM _ G)) (u.put r) (by rw[aj];simp;omega) (by rw[aj,aj,dB];omega);refine⟨s,C,A,F,?_⟩;show pH (oF a j [i,fT c,fT h,f3 S.length,f3<|S.length+1,iE r.d,s6]<|sF S T kvs) (jE (hV 5) (oF a j)<|rest.map Rd.d)=_;rw[v];show jE _ _ _ _ _=_;rw[e,show il o (r::rest)=nxt (own o r.m) r++il (o++[r]) rest from rfl,List.flatMap_append,aS]
end
def GI(f:Fl):keyOf (dA i0<|fM (gP 0 1)<|fM (gP 0 0) fW) 1 f.d=some f.k:=rfl
theorem z8:∀L:fL Fl,lu (L.map Fl.d)=true
 |[]=>rfl
 |f::L=>by show(ko f.d&&lu (L.map Fl.d))=true;rw[z8 L];rfl
def Hl{Fb:gk}{st h:Int}(t:0<st)(v:h<=100*st)(S:f7)(c:fL Rd)(w:∀x∈il [] c,Fb [x.1.d,x.2.d,.int st,.int h]=.ok (.lst<|(gv st h x).map Fl.d))(u:c.length<=1000)
    (q:(((il [] c).flatMap (gv st h)).map Fl.k).Nodup):
    ∃(L:fL Fl) (S':f7),L.Perm ((il [] c).flatMap (gv st h))/\mD Fl.k L/\Gr S S'/\S.length<=S'.length/\
     hY (rZ a Fb S.length (je 7 [.d<|.lst<|c.map Rd.d,.d<|.int st,.d<|.int h]) S)=.ok (.loc S'.length) (S'++[.li<|(L.map Fl.d).map .d]):=by
 obtain⟨i,o,n,s,e⟩:=yQ (a:=a) t v S (f9 (c.map Rd.d)) c [] [] [] none none w ⟨λm=>rfl,af _,λ_=>rfl⟩ (by simpa using u) (af _);rw[cQ]at e;obtain⟨L,p,r,A⟩:=wX (kf:=keyOf (dA i0 (fM (gP 0 1) (fM (gP 0 0) fW))) 1) (k:=Fl.k) (d:=Fl.d) (λf _=>GI f) q;have l:Gr S (sF S ((il [] c).flatMap (gv st h)) i):=by unfold sF;rw[show S++[Cell.li _,Cell.dk i]=(S++[Cell.li _])++[Cell.dk i]by rw[aS];rfl];exact(Gr.app λj=>lj _ j).trans (Gr.app λj=>s j)
 refine⟨L,_,p,r,l,l.len,?_⟩;unfold rZ;show hY (gh (gH 3 _) _ [f9<|c.map Rd.d,fT st,fT h,none,none,none,none] S)=_;rw[hL<|i4 (show oi (λρ=>(fW ρ).bind ie) _ S=.ok (.loc S.length) (S++[.li []])from rfl)<|ai rfl];show hY (gh (gH 4 _) _ [f9<|c.map Rd.d,fT st,fT h,f3 S.length,none,none,none]<|S++[.li []])=_;rw[hL<|i4 (z:=.loc<|S.length+1) (S1:=sF S [] []) (by show RX.ok (Z.loc (S++[Cell.li []]).length) ((S++[Cell.li []])++[Cell.dk []])=_;rw[aj,aS];rfl)<|ai rfl]
 show hY (gh (lD _ _ _) _ [f9<|c.map Rd.d,fT st,fT h,f3 S.length,f3<|S.length+1,none,none]<|sF S [] [])=_;rw[hL<|(xo (ds:=c.map Rd.d) rfl).trans e];have y:((dV 3) (vw (sF S ((il [] c).flatMap (gv st h)) i) [f9<|c.map Rd.d,fT st,fT h,f3 S.length,f3<|S.length+1,o,n]))=.ok (.lst<|((il [] c).flatMap (gv st h)).map Fl.d):=by show dV 3 [_,_,_,k7 (sF S ((il [] c).flatMap (gv st h)) i)<|f3 S.length,_,_,_]=_;rw[pK<|A5 S _ i];rfl
 rw[y_ret (z:=.loc (sF S ((il [] c).flatMap (gv st h)) i).length) (S1:=sF S ((il [] c).flatMap (gv st h)) i++[.li ((L.map Fl.d).map .d)]) (by
  unfold tQ;dsimp only;rw[y]
  show(match k4 _ (.lst (((il [] c).flatMap (gv st h)).map Fl.d))with
   |.ok ds=>if lu ds=true then RX.ok (Z.loc _) (_++[Cell.li<|ds.map Z.d])else .bad
   |_=>.bad)=_
  rw[A];exact ae (z8 L))]
 rfl
variable{a:Ad}
section
variable{c jH:Ev}{f l j:gf}{g h:gK}{i:Nat}{d:D}
def m7(e:g c=.nx jH):g7 g h c=h jH:=by show lz (g c) h=_;rw[e];rfl
def nZ(e:f c=.ok d)(k:i<c.length):iR i f c=.nx (c.set i<|.sh d):=by show toS (f c) (λd=>if i<c.length then RT.nx (c.set i<|.sh d)else .bad)=_;rw[e];exact ae k
def Nx{ds:gx}(m:c[i]?=some (.ow ds))(e:f c=.ok d)(k:ds.length<100000):mX i f c=.nx (c.set i<|.ow<|ds++[d]):=by unfold mX;rw[m];show toS (f c) _=_;rw[e];exact ae (tE k)
def g9{q:mJ}{x y:D}{w:R D}(n:l c=.ok x)(m:j c=.ok y)(k:q x y=w):d2 q l j c=w:=by show(l c).bind (λx=>(j c).bind λy=>q x y)=_;rw[n,m];exact k
end
def Fl.e(f:Fl):D:=.tup [.int f.t,.str f.m,pr f.p f.q,.int f.u,.int f.v]
def Fu(f:Fl):kk f.e=some f.k:=rfl
abbrev uO:Ev->R f5:=mL (b1 tB<|uQ kX sD (dV 2) (dV 8)<|dV 3) (b1 tB<|d2 kX (dV 11)<|dV 8)
section
variable{p:gk}(H:Lw p){f i:Int}(F:0<f)(I:f<=1000){r s:Rd}(q:jB r)(t:jB s)(E:iU r.t)(C:iU s.t)(lt:r.t<s.t){A B:D}{l:gx}{k:Int}
 (z:gD (.lst l) (.int<|k - 1)=.ok r.d)(v:gD (.lst l) (.int k)=.ok s.d)
def ym(M L J G y x w u o n:Sl)(far m:Int):uO [M,L,fV f,fV i,J,G,y,x,fV far,w,u,fV m,o,n]=.ok (decide<|f<far/\far<=i/\m<far):=by
 show((match D.bl (decide<|f<far)with|.bl true=>R.ok (D.bl<|decide<|far<=i)|.bl false=>R.ok (D.bl false)|_=>.bad).bind tB).bind (λc=>if c=true then R.ok (decide<|m<far)else .ok false)=_;by_cases j:f<far
 ·rw[aE j];show(if decide (far<=i)=true then R.ok (decide<|m<far)else .ok false)=_;by_cases h:far<=i;·rw[ae<|aE h];simp[j,h]
  ·rw[ah<|by simpa using h];simp[h]
 ·rw[ax j];simp[j];rfl
include H F I q t E C lt z v
theorem BC(hf:s.t - r.t<=i):∀(n j:Nat) (c:gx) (L J:Sl),j<=cnt f r s->cnt f r s+1<=n+j->c.length+cnt f r s<90000+j->
 ∃O N M,jX uO (oG a p) n [.sh A,.sh B,fV f,fV i,.ow c,g0 r.m,gR l,fV k,fV<|s.t - r.t,.sh<|pr r.p r.q,.sh<|pr s.p s.q,fV<|f+j*f,L,J]
  =.nx [.sh A,.sh B,fV f,fV i,.ow<|c++((gv f i (r,s)).drop j).map Fl.e,g0 r.m,gR l,fV k,fV<|s.t - r.t,.sh<|pr r.p r.q,.sh<|pr s.p s.q,O,N,M]
 |0,j,c,L,J,hj,hc,hd=>by omega
 |n+1,j,c,L,J,hj,hc,hd=>by
  have eb:gv f i (r,s)=(List.range<|cnt f r s).map λ(k:Nat)=>iH r s (r.t+f+k*f):=by unfold gv;exact ah (by dsimp only;omega)
  have nn:(0:Int)<=j*f:=c3 (by omega) (by omega);have ci:=ql F r s j;rw[tq,ym];by_cases P:f+j*f<s.t - r.t
  ·rw[aE ⟨by omega,hf,P⟩];have jc:j<cnt f r s:=ci.mpr (by omega);have Cu:iU (f+j*f):=⟨by omega,by have:=E.1;have:=C.2;omega⟩;have Ew:iU (s.t - r.t):=⟨by omega,by have:=E.1;have:=C.2;omega⟩;have V:=ni Cu;have U:=ni Ew;have zd:Sz 11 (s.t - r.t - (f+j*f)):=U.sub V;have m1:=jL (q.p.mono<|by decide) (zd.mono<|by decide);have m2:=jL ((q.p.mul zd).mono (by decide)) (t.q.mono<|by decide);have m3:=jL (t.p.mono<|by decide) (V.mono<|by decide);have m4:=jL ((t.p.mul V).mono (by decide)) (q.q.mono<|by decide);have m5:=jL (U.mono<|by decide) (q.q.mono<|by decide);have m6:=jL ((U.mul q.q).mono (by decide)) (t.q.mono<|by decide);have Fn:=q.low.pos;have Z:=t.low.pos;have bp:0<(s.t - r.t)*r.q*s.q:=Int.mul_pos (Int.mul_pos (by omega) Fn) Z;have lw:=H (r.p*(s.t - r.t - (f+j*f))*s.q+s.p*(f+j*f)*r.q) ((s.t - r.t)*r.q*s.q) bp (((U.mul q.q).mul t.q).mono (by decide));have ef:fr (r.p*(s.t - r.t - (f+j*f))*s.q+s.p*(f+j*f)*r.q) ((s.t - r.t)*r.q*s.q)=pr (iH r s<|r.t+f+j*f).p (iH r s<|r.t+f+j*f).q:=by
    show pr _ _=pr (FM.top (ktop r s<|r.t+f+j*f)<|qy r s) (FM.bot (ktop r s<|r.t+f+j*f)<|qy r s);unfold ktop qy;rw[show s.t - (r.t+f+j*f)=s.t - r.t - (f+j*f)by omega,show r.t+f+j*f - r.t=f+j*f by omega]
   rw[ef]at lw
   have T:oG a p [.sh A,.sh B,fV f,fV i,.ow c,g0 r.m,gR l,fV k,fV<|s.t - r.t,.sh<|pr r.p r.q,.sh<|pr s.p s.q,fV<|f+j*f,L,J]
    =.nx [.sh A,.sh B,fV f,fV i,.ow<|c++[(iH r s<|r.t+f+j*f).e],g0 r.m,gR l,fV k,fV<|s.t - r.t,.sh<|pr r.p r.q,.sh<|pr s.p s.q,fV<|f+((j+1:Nat):Int)*f,fV<|r.p*(s.t - r.t - (f+j*f))*s.q+s.p*(f+j*f)*r.q,.sh<|pr (iH r s<|r.t+f+j*f).p (iH r s<|r.t+f+j*f).q]:=by
    unfold oG;rw[m7 (nZ (d:=.int (r.p*(s.t - r.t - (f+j*f))*s.q)) (g9 (g9 (x:=.int r.p) (y:=.int (s.t - r.t - (f+j*f))) rfl rfl m1) (y:=.int s.q) rfl m2) (ai rfl))];rw[m7 (nZ (d:=.int (r.p*(s.t - r.t - (f+j*f))*s.q+s.p*(f+j*f)*r.q)) (g9 (x:=.int (r.p*(s.t - r.t - (f+j*f))*s.q)) rfl (g9 (g9 (x:=.int s.p) (y:=.int (f+j*f)) rfl rfl m3) (y:=.int r.q) rfl m4) rfl) (ai rfl))];rw[m7 (nZ (d:=pr (iH r s (r.t+f+j*f)).p (iH r s (r.t+f+j*f)).q) (lh (hA (x:=.int (r.p*(s.t - r.t - (f+j*f))*s.q+s.p*(f+j*f)*r.q)) rfl (hA (g9 (g9 (x:=.int (s.t - r.t)) (y:=.int r.q) rfl rfl m5) (y:=.int s.q) rfl m6) rfl)) lw) (ai rfl))];have e1:∀R Q G u o m,d2 gD (d2 gD (dV 6) (d2 jW (dV 7) (fQ 1))) (fQ 1) [.sh A,.sh B,fV f,fV i,.ow c,g0 r.m,gR l,fV k,R,Q,G,u,o,m]=.ok (.int r.t):=λR Q G u o m=>g9 (g9 (x:=.lst l) (y:=.int (k - 1)) rfl rfl z) rfl rfl;have e2:∀R Q G u o m,d2 gD (d2 gD (dV 6) (dV 7)) (fQ 1) [.sh A,.sh B,fV f,fV i,.ow c,g0 r.m,gR l,fV k,R,Q,G,u,o,m]=.ok (.int s.t):=λR Q G u o m=>g9 (g9 (x:=.lst l) (y:=.int k) rfl rfl v) rfl rfl;show g7 (mX 4 _) _ [.sh A,.sh B,fV f,fV i,.ow c,g0 r.m,gR l,fV k,fV (s.t - r.t),.sh (pr r.p r.q),.sh (pr s.p s.q),fV (f+j*f),fV (r.p*(s.t - r.t - (f+j*f))*s.q+s.p*(f+j*f)*r.q),.sh (pr (iH r s (r.t+f+j*f)).p (iH r s (r.t+f+j*f)).q)]=_;rw[m7 (Nx (ds:=c) (d:=(iH r s (r.t+f+j*f)).e) rfl (lh (hA (g9 (e1 _ _ _ _ _ _) (y:=.int (f+j*f)) rfl (show gM (.int r.t) (.int (f+j*f))=.ok (.int (r.t+f+j*f))by rw[Int.add_assoc];rfl)) (hA (x:=.str r.m) rfl (hA (x:=pr (iH r s (r.t+f+j*f)).p (iH r s (r.t+f+j*f)).q) rfl (hA (e1 _ _ _ _ _ _) (hA (e2 _ _ _ _ _ _) rfl))))) rfl) (by omega))];rw[nZ (d:=.int (f+((j+1:Nat):Int)*f)) (g9 (x:=.int (f+j*f)) (y:=.int f) rfl rfl (show gM (.int (f+j*f)) (.int f)=.ok (.int (f+((j+1:Nat):Int)*f))by
     have:f+j*f+f=f+((j+1:Nat):Int)*f:=by push_cast;rw[Int.add_mul];omega
     rw[<-this];rfl)) (ai rfl)]
    rfl
   obtain⟨O,N,M,e⟩:=BC hf n (j+1) (c++[(iH r s (r.t+f+j*f)).e]) (fV (r.p*(s.t - r.t - (f+j*f))*s.q+s.p*(f+j*f)*r.q)) (.sh (pr (iH r s (r.t+f+j*f)).p (iH r s (r.t+f+j*f)).q)) (by omega) (by omega) (by rw[aj];simp;omega);refine⟨O,N,M,?_⟩;show turnT (oG a p _) (jX _ _ n)=_;rw[T];show jX _ _ n _=_;rw[e];have Y:j<(gv f i (r,s)).length:=by rw[eb,ar,bH];exact jc
   rw[bj Y,ay,aS];have:(gv f i (r,s))[j]=iH r s (r.t+f+j*f):=by simp[eb]
   rw[this];rfl
  ·rw[ax λh=>P h.2.2];have Y:(gv f i (r,s)).length<=j:=by rw[eb,ar,bH];exact fI.mp λw=>P (by have:=ci.mp w;omega)
   rw[bu Y];exact⟨_,L,J,by rw[b9,aP];rfl⟩
theorem KW(O:i<=100*f)(c:gx)(P:c.length<80000)(y x:Sl)(n:Nat)(N:1000<=n):
 ∃M L G u o j,jX uO (oG a p) n [.sh A,.sh B,fV f,fV i,.ow c,g0 r.m,gR l,fV k,fV<|s.t - r.t,.sh<|pr r.p r.q,.sh<|pr s.p s.q,fV f,y,x]
  =.nx [.sh A,.sh B,fV f,fV i,.ow<|c++(gv f i (r,s)).map Fl.e,g0 r.m,gR l,fV k,M,L,G,u,o,j]:=by
 by_cases hf:s.t - r.t<=i
 ·have J:cnt f r s<=100:=by
   rcases Nat.lt_or_ge 100 (cnt f r s)with w|w;·have:=(ql F r s 100).mp w;omega
   ·exact w
  obtain⟨u,o,j,e⟩:=BC (a:=a) (A:=A) (B:=B) H F I q t E C lt z v hf n 0 c y x (bo _) (by omega) (by omega);rw[show f+((0:Nat):Int)*f=f by simp]at e;exact⟨_,_,_,u,o,j,e⟩
 ·obtain⟨n,rfl⟩:∃m,n=m+1:=⟨n - 1,by omega⟩;rw[tq,ym,ax λh=>hf h.2.1,show gv f i (r,s)=[]by unfold gv;exact ae (by dsimp only;omega)];exact⟨_,_,_,_,y,x,by rw[b9,aP];rfl⟩
theorem Ja(O:i<=100*f)(c:gx)(P:c.length<80000)(N M G m j h:Sl):
 ∃L J w u o n,oH a p [.sh A,.sh B,fV f,fV i,.ow c,g0 r.m,gR l,fV k,N,M,G,m,j,h]
  =.nx [.sh A,.sh B,fV f,fV i,.ow<|c++(gv f i (r,s)).map Fl.e,g0 r.m,gR l,fV k,L,J,w,u,o,n]:=by
 unfold oH;rw[m7<|nZ (d:=.int<|s.t - r.t) (g9 (x:=.int s.t) (y:=.int r.t) (g9 (g9 (x:=.lst l) (y:=.int k) rfl rfl v) rfl rfl) (g9 (g9 (x:=.lst l) (y:=.int<|k - 1) rfl rfl z) rfl rfl) rfl)<|ai rfl];show∃L J w u o n,g7 (pA 9 10 _) _ [.sh A,.sh B,fV f,fV i,.ow c,g0 r.m,gR l,fV k,fV<|s.t - r.t,M,G,m,j,h]=_;rw[m7 (jH:=[.sh A,.sh B,fV f,fV i,.ow c,g0 r.m,gR l,fV k,fV<|s.t - r.t,.sh<|pr r.p r.q,.sh<|pr s.p s.q,m,j,h])<|by show toS (fM _ _ _) _=_;rw[hA (x:=pr r.p r.q) (g9 (g9 (x:=.lst l) (y:=.int<|k - 1) rfl rfl z) rfl rfl)<|hA (x:=pr s.p s.q) (g9 (g9 (x:=.lst l) (y:=.int k) rfl rfl v) rfl rfl) rfl];rfl]
 rw[m7<|nZ (d:=.int f) rfl<|ai rfl];exact KW H F I q t E C lt z v O c P j h _ (by decide)
end
theorem oC:∀L:fL Rd,adj L=(List.range<|L.length - 1).map λi=>(L.getD i ⟨Str.empty,0,0,0⟩,L.getD (i+1) ⟨Str.empty,0,0,0⟩)
 |[]=>rfl
 |[_]=>rfl
 |x::y::L=>by have c:=oC (y::L);show(x,y)::adj (y::L)=_;rw[c];show _=(List.range<|L.length+1).map _;rw[List.range_succ_eq_map,ay,bS];rfl
def xX{L:fL Rd}{i:Nat}(h:i<L.length)(k:Int)(c:k=i):gD (.lst<|L.map Rd.d) (.int k)=.ok (L.getD i ⟨Str.empty,0,0,0⟩).d:=by subst c;show(match L2.gO (L.map Rd.d) (i:Int)with|some d=>R.ok d|none=>.bad)=_;rw[L2.ux (v:=(L.getD i ⟨Str.empty,0,0,0⟩).d)<|by rw[aF,aL h,bM,aL h];rfl]
def Ng(n:Nat)(h:n<=1000):nY [.int 1,.int (n:Int)]=.ok ((List.range<|n - 1).map λ(i:Nat)=>.int<|1+(i:Int)):=by unfold nY;dsimp only;rw[ae<|by omega,show((n:Int) - 1).toNat=n - 1 by omega];rfl
section
variable{m:gk}(t:Lw m){c h:Int}(q:0<c)(y:c<=1000)(s:h<=100*c){A B:D}
include t q y s
theorem zM{L:fL Rd}{w:fR}(T:∀r∈L,jB r/\iU r.t/\r.m=w)(up:Up L):∀(is:jQ) (d:gx) (F C z o n l f:Sl),(∀i∈is,i+1<L.length)->d.length+is.length*100<70000->
 ∃t7 Q P x v u p,jy (gV 7) (oH a m) (is.map λ(i:Nat)=>.int<|1+(i:Int)) [.sh A,.sh B,fV c,fV h,.ow d,g0 w,gR<|L.map Rd.d,F,C,z,o,n,l,f]
  =.nx [.sh A,.sh B,fV c,fV h,.ow<|d++((is.map λi=>(L.getD i ⟨Str.empty,0,0,0⟩,L.getD (i+1) ⟨Str.empty,0,0,0⟩)).flatMap (gv c h)).map Fl.e,g0 w,gR<|L.map Rd.d,t7,Q,P,x,v,u,p]
 |[],d,F,C,z,o,n,l,f,_,_=>⟨F,C,z,o,n,l,f,by rw[b9,b9,List.flatMap_nil,b9,aP];rfl⟩
 |i::is,d,F,C,z,o,n,l,f,U,hd=>by
  rw[aI]at hd;have I:=U i (.head _);have g1:L.getD i ⟨Str.empty,0,0,0⟩=L[i]:=by rw[bM,aL<|by omega];rfl
  have g2:L.getD (i+1) ⟨Str.empty,0,0,0⟩=L[i+1]:=by rw[bM,aL I];rfl
  have G:=T _ (cH<|show i<L.length by omega);have R:=T _ (cH I);have lt:=bQ.mp up i (i+1) (by omega) I (by omega);rw[<-g1]at G lt;rw[<-g2]at R lt;obtain⟨Q,P,x,v,u,p,e⟩:=Ja (a:=a) (A:=A) (B:=B) (k:=1+(i:Int)) t q y G.1 R.1 G.2.1 R.2.1 lt (xX (by omega) _ (by omega)) (xX I _ (by omega)) s d (by omega) C z o n l f;rw[G.2.2]at e;have bl:=nI q s (L.getD i ⟨Str.empty,0,0,0⟩,L.getD (i+1) ⟨Str.empty,0,0,0⟩);obtain⟨Z,Y,V,O,N,M,J,e2⟩:=zM T up is (d++(gv c h (L.getD i ⟨Str.empty,0,0,0⟩,L.getD (i+1) ⟨Str.empty,0,0,0⟩)).map Fl.e) (fV (1+(i:Int))) Q P x v u p (λj hj=>U j (.tail _ hj)) (by rw[aj,ar];omega);refine⟨Z,Y,V,O,N,M,J,?_⟩;rw[ay];show turnT (oH a m [.sh A,.sh B,fV c,fV h,.ow d,g0 w,gR<|L.map Rd.d,fV<|1+(i:Int),C,z,o,n,l,f]) (jy _ _ _)=_;rw[e];show jy _ _ _ _=_;rw[e2,ay,bq,bZ,aS]
theorem xR{d:fL Rd}(hR:∀r∈d,jB r/\iU r.t)(so:d.Pairwise WM.Lx)(hn:d.length<=200):∀(L:gu) (f:gx) (M J z u p o n k j:Sl),(∀w∈L,PyData.strOk w=true)->f.length+L.length*20000<70000->
 ∃t5 t6 U T R I G F C,jy (gV 5) (oI a m) (L.map D.str) [gR<|d.map Rd.d,.sh B,fV c,fV h,.ow f,M,J,z,u,p,o,n,k,j]
  =.nx [gR<|d.map Rd.d,.sh B,fV c,fV h,.ow<|f++(iQ c h L d).map Fl.e,t5,t6,U,T,R,I,G,F,C]
 |[],f,M,J,z,u,p,o,n,k,j,_,_=>⟨M,J,z,u,p,o,n,k,j,by rw[show iQ c h [] d=[]from rfl,b9,b9,aP];rfl⟩
 |w::L,f,M,J,z,u,p,o,n,k,j,hw,hd=>by
  rw[aI]at hd;obtain⟨up,V⟩:=mu so w;have ol:(own d w).length<=200:=aC (dG _ _) hn;obtain⟨U,T,R,I,G,F,C,e⟩:=zM (a:=a) (A:=.lst (d.map Rd.d)) (B:=B) t q y s (w:=w) (λr Y=>⟨(hR r (V r Y).2).1,(hR r (V r Y).2).2,(V r Y).1⟩) up (List.range ((own d w).length - 1)) f z u p o n k j (λi hi=>by have:=dm.mp hi;omega) (by rw[bH];omega);rw[<-oC]at e;have al:((adj<|own d w).flatMap (gv c h)).length<=20000:=by
   have:∀l:fL (Rd×Rd),(l.flatMap<|gv c h).length<=l.length*100:=λl=>by
    induction l with
    |nil=>simp
    |cons x l ih=>rw[bq,aj,aI];have:=nI q s x;omega
   have h2:=this (adj<|own d w);rw[oC,ar,bH]at h2;rw[oC];omega
  obtain⟨u5,u6,u7,u8,u9,Q,P,O,N,e2⟩:=xR hR so hn L (f++((adj (own d w)).flatMap (gv c h)).map Fl.e) (g0 w) (gR ((own d w).map Rd.d)) U T R I G F C (λv hv=>hw v (.tail _ hv)) (by rw[aj,ar];omega);refine⟨u5,u6,u7,u8,u9,Q,P,O,N,?_⟩;rw[ay];show turnT (oI a m [gR<|d.map Rd.d,.sh B,fV c,fV h,.ow f,g0 w,J,z,u,p,o,n,k,j]) (jy _ _ _)=_;have Z:gZ (iZ (λρ=>((dV 0) ρ).bind jo) 1 [5] (gV 0) (b1 tB<|d2 iN (gP 0 0)<|dV 1)<|dV 0) [gR<|d.map Rd.d,.sh B,fV c,fV h,.ow f,g0 w,J,z,u,p,o,n,k,j]=.ok (.lst<|(own d w).map Rd.d):=by show(iZ _ _ _ _ _ _ _).bind _=_;rw[nM Rd.d Rd.d (λr=>decide<|r.m=w) d rfl (by omega) λr _=>⟨[.sh r.d,g0 w],rfl,rfl,λ_=>rfl⟩];rfl
  have it:((fM (fQ 1)<|fM (dA jr<|fM (dV 6) fW) fW) [gR<|d.map Rd.d,.sh B,fV c,fV h,.ow f,g0 w,gR<|(own d w).map Rd.d,z,u,p,o,n,k,j]).bind nY=.ok ((List.range<|(own d w).length - 1).map λ(i:Nat)=>.int<|1+(i:Int)):=by rw[hA (x:=.int 1) rfl<|hA (x:=.int (((own d w).map Rd.d).length:Nat)) rfl rfl];rw[ar];rw[AL];exact Ng _ (by omega)
  have bd:oI a m [gR<|d.map Rd.d,.sh B,fV c,fV h,.ow f,g0 w,J,z,u,p,o,n,k,j]=jy (gV 7) (oH a m) ((List.range<|(own d w).length - 1).map λ(i:Nat)=>.int<|1+(i:Int)) [gR<|d.map Rd.d,.sh B,fV c,fV h,.ow f,g0 w,gR<|(own d w).map Rd.d,z,u,p,o,n,k,j]:=by unfold oI;rw[m7<|nZ Z<|ai rfl];show toS (((fM (fQ 1)<|fM (dA jr<|fM (dV 6) fW) fW) [gR<|d.map Rd.d,.sh B,fV c,fV h,.ow f,g0 w,gR<|(own d w).map Rd.d,z,u,p,o,n,k,j]).bind nY) _=_;rw[it];rfl
  rw[bd,e];show jy _ _ _ _=_;rw[e2];unfold iQ;rw[bq,bZ,aS]
theorem Hk{i:fL Rd}(T:∀r∈i,jB r/\iU r.t)(F:i.Pairwise WM.Lx)(I:i.length<=200){j:gu}(W:W3 j):
 ∃L:fL Fl,L.Perm (iQ c h j i)/\mD Fl.k L/\gX (vq a m<|gY 14 [.lst<|i.map Rd.d,.lst<|j.map D.str,.int c,.int h])=.ok (.lst<|L.map Fl.d):=by
 obtain⟨P,O,N,M,J,z,u,o,n,e⟩:=xR (a:=a) (B:=.lst (j.map D.str)) t q y s T F I j [] .no .no .no .no .no .no .no .no .no W.ok (by rw[W.len];decide);rw[cQ]at e;obtain⟨L,p,Q,Y⟩:=wX (kf:=kk) (k:=Fl.k) (d:=Fl.e) (l:=iQ c h j i) (λf _=>Fu f) (uZ q W.nd F);refine⟨L,p,Q,?_⟩;unfold vq;show gX (lz (jy (gV 5) (oI a m) (j.map D.str) [gR<|i.map Rd.d,gR<|j.map D.str,fV c,fV h,.ow [],.no,.no,.no,.no,.no,.no,.no,.no,.no]) _)=_;rw[e];show gX (toS ((iZ _ _ _ _ _ _ [gR<|i.map Rd.d,gR<|j.map D.str,fV c,fV h,gR<|(iQ c h j i).map Fl.e,P,O,N,M,J,z,u,o,n]).bind λC=>R.ok<|.lst C) .rt)=_;rw[nM Fl.e Fl.d (λ_=>true) L (by
  show((k4 kk (.lst ((iQ c h j i).map Fl.e))).bind λC=>R.ok (.lst C)).bind jo=_;rw[Y];rfl) (by
  have h1:=p.length_eq;have:∀l:fL (Rd×Rd),(l.flatMap<|gv c h).length<=l.length*100:=λl=>by
   induction l with
   |nil=>simp
   |cons x l G=>rw[bq,aj,aI];have:=nI q s x;omega
  have V:∀v:fL fR,(iQ c h v i).length<=v.length*20000:=λv=>by
   induction v with
   |nil=>simp[iQ]
   |cons w v G=>
    have h2:=this (adj<|own i w);have Z:(own i w).length<=200:=aC (dG _ _) I;have ha:(adj<|own i w).length<=200:=by rw[oC,ar,bH];omega
    unfold iQ at G⊢;rw[bq,aj,aI];omega
  have U:=V j;rw[W.len]at U;omega) λf _=>⟨[fV f.t,g0 f.m,.sh (pr f.p f.q),fV f.u,fV f.v],rfl,rfl,λ_=>rfl⟩]
 rw[cA.mpr λ_ _=>rfl];rfl
end
end md
namespace WM
open PySem L2 P2 WP
def OK{F:ix}{d:fL V}{Q:VK}{a:jw}(p:d.length=1)(j:fX K al H d [.lst<|a.map D.int])(i:iG K H)(e:F [.d<|.lst<|a.map .int] [.mk]=.ok (.d<|.bl true) S')(q:∀H',gF K H H'->Q (.bl true) H'):j9 1 K F d H Q E:=by
 refine⟨p,i,λ_=>True,λ_=>none,[.d<|.lst<|a.map .int],[.mk],λ_ _=>trivial,⟨λ_ _ h=>(by cases h),λn c h _ m=>?_,λ_ _ h=>(by cases h),λ_ _ _ h=>(by cases h),λ_ _ _ _ _=>trivial⟩,.ofD (ds:=[.lst<|a.map .int])<|fX.mv (.sub λ_ _=>trivial) j,?_⟩
 ·cases n with
  |zero=>cases h;exact absurd rfl m
  |succ n=>simp at h
 ·rw[e];intro t l H' v f k;have s:v=.bl true:=by cases k;rfl
  rw[s];exact q H' ⟨λb o no r=>f.fr b o no r λ_=>nofun,f.hf,λ_=>f.tt⟩
end WM
namespace md
open PySem L2 P2 WP WM TM T2 PySem.NumText
variable{a:Ad}
def xx(f:ix):Prop:=∀{S:f7} {st d:Int} {c:fL Rd},0<st->st<=1000->d<=100*st->(∀r∈c,iU r.t)->c.Pairwise WM.Lx->c.length<=300->(∀x∈il [] c,gv st d x=[]\/(jB x.1/\jB x.2))->(((il [] c).flatMap (gv st d)).map Fl.k).Nodup->
 ∃(L:fL Fl) (S':f7),L.Perm ((il [] c).flatMap (gv st d))/\mD Fl.k L/\Gr S S'/\f [.d<|.lst<|c.map Rd.d,.d<|.int st,.d<|.int d] S=.ok (.loc S'.length) (S'++[.li<|(L.map Fl.d).map .d])
def Ey{i:gk}(hv:∀{r s:Rd},jB r->jB s->iU r.t->iU s.t->r.t<s.t->∀{t:Int},iU t->i [.int t,r.d,s.d]=.ok (pr (iH r s t).p (iH r s t).q)):
    xx (λu S=>hY<|rZ a (λm=>gX<|oW a i<|gY 7 m) S.length (je 7 u) S):=by
 intro S st n d h G q c A M F C;have I:∀x∈il [] d,gX (oW a i<|gY 7 [x.1.d,x.2.d,.int st,.int n])=.ok (.lst<|(gv st n x).map Fl.d):=λx o=>by
  obtain⟨l,j,_,lt,_⟩:=wA A (x:=x.1) (y:=x.2) o;refine Hi h G (c _ l) (c _ j) (λf hf=>?_) (aC (nI h q _)<|by decide);rcases F x o with w|w;·rw[show(x.1,x.2)=x from rfl,w]at hf;cases hf
  ·obtain⟨_,k,D,rfl⟩:=(qD h).mp hf;have J:(0:Int)<=k*st:=c3 (by omega) (by omega);have z:=c _ l;have v:=c _ j;unfold iU at z v;dsimp only at D;exact hv w.1 w.2 (c _ l) (c _ j) lt ⟨by show 0<=x.1.t+st+k*st;omega,by show x.1.t+st+k*st<10000000000;omega⟩
 obtain⟨L,S',p,r,g,_,e⟩:=Hl (a:=a) (Fb:=λm=>gX (oW a i (gY 7 m))) h q S d I (by omega) C;exact⟨L,S',p,r,g,e⟩
structure Fz(Fc Fw FD:gk)(Zr Zf:ix):Prop where
 c:Cl Fc
 w:∀c:Int,∃st:Int,(st%26≠0/\st*2%26≠0)/\∀k:Int,0<=k->k<26->PyData.strOk (ka c st k)=true/\Fw [.int c,.int k]=.ok (.str<|ka c st k)
 r:∀{S:f7} {ws:gu},W3 ws->∀(ns:jw),ns.length<=63->∀first most:Int,most<=1000/\0<=most->S[0]?=some .mk->k8 S->∃(row:fL Rd) (S':f7),RowW ws row/\(row.length:Int)<=most+12/\Gr S S'/\Zr [.d<|.lst<|ns.map .int,.d<|.int first,.d<|.int most,.d<|.lst<|ws.map D.str] S=.ok (.d<|.lst<|row.map Rd.d) S'
 d:∀{st mo:Int},0<st->st<=1000->mo<=100*st->∀{row:fL Rd},(∀r∈row,jB r/\iU r.t)->row.Pairwise WM.Lx->row.length<=200->∀{ws:gu},W3 ws->
  ∃L:fL Fl,L.Perm (iQ st mo ws row)/\mD Fl.k L/\FD [.lst<|row.map Rd.d,.lst<|ws.map D.str,.int st,.int mo]=.ok (.lst<|L.map Fl.d)
 f:xx Zf
def Am{c:Type}{f:c->D}:∀{l:fL c},(∀x∈l,jT (f x)=true/\kH (f x)<=5)->jT (.lst<|l.map f)=true/\kH (.lst<|l.map f)<=6:=by
 intro l h
 suffices jJ (l.map f)=true/\mQ (l.map f)<=5 from⟨this.1,by show mQ (l.map f)+1<=6;omega⟩
 induction l with
 |nil=>exact⟨rfl,bo _⟩
 |cons x l d=>
  obtain⟨k,n⟩:=d λy i=>h y (.tail _ i);obtain⟨j,m⟩:=h x (.head _);refine⟨?_,?_⟩
  ·show(jT (f x)&&jJ (l.map f))=true;rw[j,k];rfl
  ·show max (kH<|f x) (mQ<|l.map f)<=5;omega
def Ic{f:Fl}(h:PyData.strOk f.m=true):jT f.d=true/\kH f.d<=5:=by refine⟨?_,by show(max 0<|max 0<|max (max 0 (max 0 0)+1)<|max 0<|max 0 0)+1<=5;decide⟩;show(PyData.strOk f.m&&true)=true;rw[h];rfl
def Ie{r:Rd}(h:PyData.strOk r.m=true):jT r.d=true/\kH r.d<=5:=by refine⟨?_,by show(max 0<|max 0<|max (max 0 (max 0 0)+1) 0)+1<=5;decide⟩;show(PyData.strOk r.m&&true)=true;rw[h];rfl
section
variable{l p t:gk}{q s:ix}(H:Fz l p t q s)(f:jw)
include H
theorem Pg(S:f7)(I G F C A z y v u:jg):∃o,W3 o/\zD (gZ<|iZ (λρ=>((fM (fQ 3) fW) ρ).bind mx) 1 [0] (gV 0) (λ_=>.ok true)<|dA p<|fM (dA l<|fM (dV 1)<|fM (fQ 0) fW)<|fM (dV 0) fW) [f9<|f.map .int,I,G,F,C,A,z,y,v,u] S=.ok (.d<|.lst<|o.map D.str) S:=by
 obtain⟨st,d,m⟩:=H.w (f.getD 0 0);refine⟨[ka (f.getD 0 0) st 0,ka (f.getD 0 0) st 1,ka (f.getD 0 0) st 2],⟨λw n=>?_,?_,rfl⟩,gI ?_⟩
 ·have:w=ka (f.getD 0 0) st 0\/w=ka (f.getD 0 0) st 1\/w=ka (f.getD 0 0) st 2:=by simpa using n
  rcases this with rfl|rfl|rfl;·exact(m 0 (by decide)<|by decide).1
  ·exact(m 1 (by decide)<|by decide).1
  ·exact(m 2 (by decide)<|by decide).1
 ·have M:=xn (c:=f.getD 0 0) (i:=0) (j:=1) d (by decide) (by decide) (by decide);have L:=xn (c:=f.getD 0 0) (i:=0) (j:=2) d (by decide) (by decide) (by decide);have J:=xn (c:=f.getD 0 0) (i:=1) (j:=2) d (by decide) (by decide) (by decide);exact bB.mpr ⟨λh=>(aH.mp h).elim M λh=>L<|bg.mp h,bB.mpr ⟨λh=>J<|bg.mp h,bB.mpr ⟨(λh=>nomatch h),List.Pairwise.nil⟩⟩⟩
 ·show(iZ _ _ _ _ _ _ _).bind _=_;rw[nM (α:=Int) D.int (λk=>.str<|ka (f.getD 0 0) st k) (λ_=>true) [0,1,2] rfl (by decide) λk N=>⟨[fV k,gR<|f.map .int],rfl,rfl,λ_=>?_⟩];·rfl
  ·have r:0<=k/\k<26:=by
    have:k=0\/k=1\/k=2:=by simpa using N
    omega
   exact lh (hA (lh (hA (x:=.lst<|f.map .int) rfl<|hA (x:=.int (0:Nat)) rfl rfl)<|H.c f 0)<|hA (x:=.int k) rfl rfl) (m k r.1 r.2).2
theorem cl(k:Nat){ρ:Ev}(h:dV 0 ρ=.ok (.lst<|f.map .int)):dA l (fM (dV 0)<|fM (fQ k) fW) ρ=.ok (.int<|f.getD k 0):=lh (hA h<|hA (x:=.int k) rfl rfl) (H.c f k)
theorem cl2{ρ:Ev}(h:dV 0 ρ=.ok (.lst<|f.map .int)):dA l (fM (dV 0)<|fM (fQ 2) fW) ρ=.ok (.int<|f.getD 2 0):=cl H f 2 h
theorem C6{ρ:Ev}(h:dV 0 ρ=.ok (.lst<|f.map .int)):dA l (fM (dV 0)<|fM (fQ 3) fW) ρ=.ok (.int<|f.getD 3 0):=cl H f 3 h
theorem front(S:f7)(c:fL Rd)(A B r o n k i:jg):
 ∃(st I:Int) (v:fL Rd),0<st/\st<=1000/\I<=100*st/\v.Sublist c/\∀h:gS,
  gh (gH 3<|zD<|d2 gM (fQ 1)<|d2 gA (dA l<|fM (dV 0)<|fM (fQ 2) fW)<|fQ 40)
  (gh (iw (zB (b1 tB (d2 iN (d2 gA (d2 hJ (dA l (fM (dV 0) (fM (fQ 2) fW))) (fQ 40)) (fQ 3)) (fQ 1)))) (gH 3 (zD (d2 gM (fQ 1) (d2 gA (d2 hJ (dA l (fM (dV 0) (fM (fQ 2) fW))) (fQ 120)) (fQ 1000))))) jk)
  (gh (gH 4 (zD (d2 gM (dV 3) (d2 gA (dA l (fM (dV 0) (fM (fQ 3) fW))) (d2 gM (d2 hK (fQ 19) (dV 3)) (fQ 1))))))
  (gh (iw (zB (b1 tB (d2 iN (d2 gA (d2 hJ (dA l (fM (dV 0) (fM (fQ 2) fW))) (fQ 9)) (fQ 6)) (fQ 1)))) (gh (gH 2 (zD (oO nc (dV 2) (λ_=>.ok none) (λρ=>((fQ 6) ρ).bind pI)))) (gH 4 (zD (d2 hK (fQ 100) (dV 3))))) jk)
    h))) [f9 (f.map .int),B,f9 (c.map Rd.d),none,none,r,o,n,k,i] S
  =h [f9<|f.map .int,B,f9<|v.map Rd.d,fT st,fT I,r,o,n,k,i] S:=by
 have u:∀(j m:Int) (L:0<j) (F:j<18446744073709551616) (J:0<m) (ρ:Ev),dV 0 ρ=.ok (.lst<|f.map .int)->∃b,b1 tB (d2 iN (d2 gA (d2 hJ (dA l<|fM (dV 0)<|fM (fQ 2) fW)<|fQ j)<|fQ m)<|fQ 1) ρ=.ok b:=λj m L F J ρ h=>by refine⟨decide<|f.getD 2 0/j%m=1,?_⟩;show(d2 iN _ _ ρ).bind tB=_;rw[g9 (x:=.int<|f.getD 2 0/j%m) (y:=.int 1) (g9 (x:=.int<|f.getD 2 0/j) (y:=.int m) (g9 (x:=.int<|f.getD 2 0) (y:=.int j) (cl2 H f h) rfl<|ph L F) rfl<|j8 J) rfl AM];rfl
 have P:∃st:Int,0<st/\st<=1000/\∀h:gS,gh (gH 3<|zD<|d2 gM (fQ 1)<|d2 gA (dA l<|fM (dV 0)<|fM (fQ 2) fW)<|fQ 40)
  (gh (iw (zB<|b1 tB<|d2 iN (d2 gA (d2 hJ (dA l<|fM (dV 0)<|fM (fQ 2) fW)<|fQ 40)<|fQ 3)<|fQ 1) (gH 3<|zD<|d2 gM (fQ 1)<|d2 gA (d2 hJ (dA l<|fM (dV 0)<|fM (fQ 2) fW)<|fQ 120)<|fQ 1000) jk) h) [f9<|f.map .int,B,f9<|c.map Rd.d,none,none,r,o,n,k,i] S
  =h [f9<|f.map .int,B,f9<|c.map Rd.d,fT st,none,r,o,n,k,i] S:=by
  have U:=bO (f.getD 2 0) (show(40:Int)≠0 by decide);have T:=bK (f.getD 2 0) (show(0:Int)<40 by decide);obtain⟨b,G⟩:=u 40 3 (by decide) (by decide) (by decide) (ig [f9<|f.map .int,B,f9<|c.map Rd.d,fT<|1+f.getD 2 0%40,none,r,o,n,k,i]) rfl;have O:∀h,gh (gH 3<|zD<|d2 gM (fQ 1)<|d2 gA (dA l<|fM (dV 0)<|fM (fQ 2) fW)<|fQ 40) h [f9<|f.map .int,B,f9<|c.map Rd.d,none,none,r,o,n,k,i] S=h [f9<|f.map .int,B,f9<|c.map Rd.d,fT<|1+f.getD 2 0%40,none,r,o,n,k,i] S:=λh=>by rw[hL<|i4 (gI (d:=.int<|1+f.getD 2 0%40)<|g9 (x:=.int 1) (y:=.int<|f.getD 2 0%40) rfl (g9 (x:=.int<|f.getD 2 0) (y:=.int 40) (cl2 H f rfl) rfl<|j8<|by decide) rfl)<|ai rfl];rfl
  cases b with
  |false=>refine⟨1+f.getD 2 0%40,by omega,by omega,λh=>?_⟩;rw[O,lE<|l6 G]
  |true=>have k0:=bO (f.getD 2 0/120) (show(1000:Int)≠0 by decide);have k1:=bK (f.getD 2 0/120) (show(0:Int)<1000 by decide);refine⟨1+f.getD 2 0/120%1000,by omega,by omega,λh=>?_⟩;rw[O,hL<|(nj<|l6 G).trans (i4 (gI (d:=.int<|1+f.getD 2 0/120%1000)<|g9 (x:=.int 1) (y:=.int<|f.getD 2 0/120%1000) rfl (g9 (x:=.int<|f.getD 2 0/120) (y:=.int 1000) (g9 (x:=.int<|f.getD 2 0) (y:=.int 120) (cl2 H f rfl) rfl<|ph (by decide)<|by decide) rfl<|j8<|by decide) rfl)<|ai rfl)];rfl
 obtain⟨st,C,z,N⟩:=P;have Y:=bO (f.getD 3 0) (show(19*st+1:Int)≠0 by omega);have V:=bK (f.getD 3 0) (show(0:Int)<19*st+1 by omega);have w:Sz 4 st:=by unfold Sz;omega
 have M:∀h,gh (gH 4<|zD<|d2 gM (dV 3)<|d2 gA (dA l<|fM (dV 0)<|fM (fQ 3) fW)<|d2 gM (d2 hK (fQ 19)<|dV 3)<|fQ 1) h [f9<|f.map .int,B,f9<|c.map Rd.d,fT st,none,r,o,n,k,i] S=h [f9<|f.map .int,B,f9<|c.map Rd.d,fT st,fT<|st+f.getD 3 0%(19*st+1),r,o,n,k,i] S:=λh=>by rw[hL<|i4 (gI (d:=.int<|st+f.getD 3 0%(19*st+1))<|g9 (x:=.int st) (y:=.int<|f.getD 3 0%(19*st+1)) rfl (g9 (x:=.int<|f.getD 3 0) (y:=.int<|19*st+1) (C6 H f rfl) (g9 (x:=.int<|19*st) (y:=.int 1) (g9 (x:=.int 19) (y:=.int st) rfl rfl<|jL (by unfold Sz;decide)<|w.mono<|by decide) rfl rfl)<|j8<|by omega) rfl)<|ai rfl];rfl
 obtain⟨b,G⟩:=u 9 6 (by decide) (by decide) (by decide) (ig [f9<|f.map .int,B,f9<|c.map Rd.d,fT st,fT<|st+f.getD 3 0%(19*st+1),r,o,n,k,i]) rfl;cases b with
 |false=>refine⟨st,st+f.getD 3 0%(19*st+1),c,C,z,by omega,List.Sublist.refl _,λh=>?_⟩;rw[N,M,lE<|l6 G]
 |true=>
  refine⟨st,100*st,(c.drop<|HT.gw (c.map Rd.d).length 0 none).take (HT.gw (c.map Rd.d).length (c.map Rd.d).length (some 6) - HT.gw (c.map Rd.d).length 0 none),C,z,cK _,(List.take_sublist _ _).trans (List.drop_sublist _ _),λh=>?_⟩;have Q:oO nc (dV 2) (λ_=>.ok none) (λρ=>((fQ 6) ρ).bind pI) (ig [f9<|f.map .int,B,f9<|c.map Rd.d,fT st,fT<|st+f.getD 3 0%(19*st+1),r,o,n,k,i])=.ok (.lst<|((c.drop<|HT.gw (c.map Rd.d).length 0 none).take (HT.gw (c.map Rd.d).length (c.map Rd.d).length (some 6) - HT.gw (c.map Rd.d).length 0 none)).map Rd.d):=by show R.ok (D.lst<|cutD (c.map Rd.d) none<|some 6)=_;unfold cutD;rw[List.map_take,List.map_drop]
  rw[N,M,hL<|(nj<|l6 G).trans ((hL<|i4 (gI Q)<|ai rfl).trans (i4 (gI (d:=.int<|100*st)<|g9 (x:=.int 100) (y:=.int st) rfl rfl<|jL (by unfold Sz;decide)<|w.mono<|by decide)<|ai rfl))];rfl
end
variable{a:Ad}
def _root_.WM.Rd.e(r:Rd):D:=.tup [.int r.t,.str r.m,pr r.p r.q]
def C2{A B:gx}(h:A.length+B.length<=1000000):oK (.lst A) (.lst B)=.ok (.lst<|A++B):=by unfold oK uN;dsimp only;rw[ae<|aC h<|by decide]
abbrev OP(a:Ad):Ev->R f5:=lP (me<|b1 tT<|dA (km a.lp)<|fM (dV 7)<|fM (dC<|.ty "tuple") fW) (lP (b1 tB<|d2 mS (dA jr<|fM (dV 7) fW)<|fQ 5)<|me<|b1 tT<|dA (km a.lp)<|fM (gP 7 2)<|fM (dC<|.ty "tuple") fW)
theorem yW(S:f7)(r q p o m l k j i:jg):∀(L:fL Fl) (c:jg),(∀n,n8 n c=false)->∃d,(∀n,n8 n d=false)/\nO 7 (OP a) (dC<|.bl false) S (L.map Fl.d) [r,q,p,o,m,l,k,c,j,i]=.nx [r,q,p,o,m,l,k,d,j,i] S
 |[],c,h=>⟨c,h,rfl⟩
 |f::L,c,_=>by obtain⟨d,h,e⟩:=yW S r q p o m l k j i L (iE f.d) λ_=>rfl;refine⟨d,h,?_⟩;rw[<-e];rfl
def Px{i j:Nat}{c:iM}{fr:gf}{ρ:gQ}{S:f7}{n:Nat}{L:gx}(h:ρ[i]?=some (f3 n))(f:S[n]?=some (.li<|L.map .d))(d:i≠j):qU i j c fr ρ S=nO j c fr S L ρ:=by unfold qU;rw[h];simp only[f,oE];exact ae d
def Pt{f:gU}{ρ:gQ}{S:f7}{n:Nat}{L:fL Z}(e:f ρ S=.ok (.loc n) S)(h:S[n]?=some (.li L)):tM f ρ S=.nx ρ (S.set n<|Cell.li []):=by unfold tM;rw[e];show(match S[n]? with|some (.li _)=>iY.nx ρ (S.set n<|Cell.li [])|_=>.bad)=_;rw[h]
def PD{f:gU}{ρ:gQ}{S S':f7}{n:Nat}{L:gx}(e:f ρ S=.ok (.loc n) S')(h:S'[n]?=some (.li<|L.map .d))(i:S.length<=n)(c:kO S' n)(d:ρ.any (n8 n)=false):pP f ρ S=.ok (.d<|.lst L) (S'.set n .no):=by unfold pP;rw[e];simp only[h,oE];exact ae ⟨i,c,d⟩
section
variable{s p t:gk}{c i:ix}(H:Fz s p t c i)
include H
theorem Ho(J:jw)(hn:J.length<=63):∃S',hY (vj a s p t c i 1 (je 10 [.d<|.lst<|J.map .int]) [.mk])=.ok (.d<|.bl true) S':=by
 have o0:([Cell.mk]:f7)[0]?=some .mk:=rfl;have b0:k8 [Cell.mk]:=λ_ _=>rfl;obtain⟨G,W,ew⟩:=Pg H J [.mk] none none none none none none none none none;obtain⟨U,S1,u,hlen,g1,er⟩:=H.r W J hn 4 60 (by decide) o0 b0;obtain⟨st,mo,n,A,P,O,sub,ef⟩:=front H J S1 U none (some<|.d<|.lst<|G.map D.str) none none none none none;have I:∀r∈n,jB r/\iU r.t:=λr N=>⟨(u.ok r<|sub.subset N).1,u.tm r<|sub.subset N⟩;have hstr:∀r∈n,PyData.strOk r.m=true:=λr N=>(u.ok r<|sub.subset N).2;have zv:∀r∈n,r.m∈G:=λr N=>u.wd r (sub.subset N);have Q:n.Pairwise WM.Lx:=u.so.sublist sub;have rl:n.length<=72:=by have:=sub.length_le;omega
 clear u;have tp:=OJ (st:=st) (mo:=mo) W.nd zv;have nd:=uZ (mo:=mo) A W.nd Q;have z6:(((il [] n).flatMap (gv st mo)).map Fl.k).Nodup:=(tp.map _).symm.nodup nd;have zr:∀x∈il [] n,gv st mo x=[]\/(jB x.1/\jB x.2):=λx V=>by obtain⟨Y,h2,_⟩:=wA Q (x:=x.1) (y:=x.2) V;exact .inr ⟨(I _ Y).1,(I _ h2).1⟩
 have o1:=g1.get o0;have B1:=g1.bnd b0
 obtain⟨L1,M,p1,r1,g2,e1⟩:=H.f (S:=S1) A P O (λr N=>(I r N).2) Q (by omega) zr z6;obtain⟨L2,p2,r2,e2⟩:=H.d A P O I Q (by omega) W;have eL:L1=L2:=AZ ((p1.trans tp).trans p2.symm) r1 r2;subst eL;have B2:=g2.bnd B1;have BZ:k8 (M++[Cell.li<|(L1.map Fl.d).map Z.d]):=(Gr.app λj=>lj (L1.map Fl.d) j).bnd B2;have B6:k8 ((M++[Cell.li ((L1.map Fl.d).map Z.d)]).set M.length (Cell.li [])):=λj hj=>m8 (BZ j (by rw[aR]at hj;exact hj)) rfl
 obtain⟨o,C,p3,r3,g4,e3⟩:=H.f (S:=(M++[Cell.li ((L1.map Fl.d).map Z.d)]).set M.length (Cell.li [])) A P O (λr N=>(I r N).2) Q (by omega) zr z6;have Er:o=L1:=AZ (p3.trans p1.symm) r3 r1;subst Er;have B4:=g4.bnd B6;have pD:o.Perm (iQ st mo G n):=p2;have fm:∀f∈o,(f.m∈G)/\iU f.t:=λf hf=>by obtain⟨Y,x,V,h2⟩:=uY A Q (pD.mem_iff.mp hf);obtain⟨_,b2,b3⟩:=nH A h2;obtain⟨m1,m2⟩:=lN V;obtain⟨_,om⟩:=mu Q f.m;have t1:=(I _ (om _ m1).2).2;have t2:=(I _ (om _ m2).2).2;unfold iU at*;exact⟨Y,by omega,by omega⟩
 have Ae:=Am (f:=Fl.d) (l:=o) λf hf=>Ic (W.ok f.m (fm f hf).1);have z7:=ne_self Ae.1 (aC Ae.2<|by decide);have Ah:=Am (f:=Rd.d) (l:=n) λr N=>Ie (hstr r N);have HJ:=ne_self Ah.1 (aC Ah.2<|by decide);have ll:o.length<=60000:=by
  have:=pD.length_eq;have q1:∀l:fL (Rd×Rd),(l.flatMap<|gv st mo).length<=l.length*100:=λl=>by
   induction l with
   |nil=>simp
   |cons x l ih=>rw[bq,aj,aI];have:=nI A O x;omega
  have h3:∀v:fL fR,(iQ st mo v n).length<=v.length*20000:=λv=>by
   induction v with
   |nil=>simp[iQ]
   |cons w v ih=>
    have h2:=q1 (adj<|own n w);have ol:(own n w).length<=200:=aC (dG _ _) (by omega);have ha:(adj<|own n w).length<=200:=by rw[oC,ar,bH];omega
    unfold iQ at ih⊢;rw[bq,aj,aI];omega
  have h4:=h3 G;rw[W.len]at h4;omega
 have pF:(n++o.map Fl.r).Perm (n++(iQ st mo G n).map Fl.r):=(pD.map _).append_left _;have HI:((n++o.map Fl.r).map nR).Nodup:=(pF.map _).symm.nodup (CA (mo:=mo) A W.nd Q);obtain⟨F,qF,rF,eF⟩:=wX (kf:=kk) (k:=nR) (d:=Rd.e) (l:=n++o.map Fl.r) (λr _=>rfl) HI;have sF:F.Pairwise WM.Lx:=rF.imp λ{x y} h=>Hh.mp h;have tF:∀r∈F,iU r.t:=λr N=>by
  rcases bf.mp (qF.mem_iff.mp N)with w|w;·exact(I r w).2
  ·obtain⟨f,hf,rfl⟩:=bx.mp w;exact(fm f hf).2
 have nF:∀x∈il [] F,gv st mo x=[]:=λx V=>HQ A W.nd Q zv (qF.trans pF) sF V;have yT:(il [] F).flatMap (gv st mo)=[]:=by rw[List.flatMap_eq_nil_iff];exact nF
 unfold vj;show∃S',hY (gh (gH 1 _) _ [some<|.d<|.lst<|J.map .int,none,none,none,none,none,none,none,none,none] [.mk])=_;rw[hL<|i4 ew<|ai rfl];show∃S',hY (gh (gH 2 _) _ [some<|.d<|.lst<|J.map .int,some<|.d<|.lst<|G.map D.str,none,none,none,none,none,none,none,none] [.mk])=_;rw[hL<|i4 (nt (hU (gI rfl)<|hU (gI rfl)<|hU (gI rfl)<|hU (gI rfl) kL) er)<|ai rfl];show∃S',hY (gh (gH 3 _) _ [some<|.d<|.lst<|J.map .int,some<|.d<|.lst<|G.map D.str,some<|.d<|.lst<|U.map Rd.d,none,none,none,none,none,none,none] S1)=_;rw[ef];rw[hL<|i4 (gI (d:=.lst<|n.map Rd.d) rfl)<|ai rfl];show∃S',hY (gh (gH 6 _) _ [some<|.d<|.lst<|J.map .int,some<|.d<|.lst<|G.map D.str,some<|.d<|.lst<|n.map Rd.d,some<|.d<|.int st,some<|.d<|.int mo,some<|.d<|.lst<|n.map Rd.d,none,none,none,none] S1)=_;rw[hL<|i4 (nt (hU (gI rfl)<|hU (gI rfl)<|hU (gI rfl) kL) e1)<|ai rfl];show∃S',hY (gh (iw _ _ _) _ [some<|.d<|.lst<|J.map .int,some<|.d<|.lst<|G.map D.str,some<|.d<|.lst<|n.map Rd.d,some<|.d<|.int st,some<|.d<|.int mo,some<|.d<|.lst<|n.map Rd.d,some<|.loc M.length,none,none,none]<|M++[Cell.li<|(o.map Fl.d).map Z.d])=_;have c2:=r6 M (Cell.li<|(o.map Fl.d).map Z.d);have v2:=pK c2;rw[lE<|oj (d:=false)<|by show lP _ _ [_,_,.sh<|.lst<|n.map Rd.d,_,_,.sh<|.lst<|n.map Rd.d,k7 (M++[Cell.li<|(o.map Fl.d).map Z.d])<|some<|.loc M.length,_,_,_]=_;rw[v2];show((kY (.lst<|n.map Rd.d)<|.lst<|n.map Rd.d).bind tB).bind _=_;rw[HJ];rfl]
 obtain⟨T,h7,et⟩:=yW (a:=a) (M++[Cell.li ((o.map Fl.d).map Z.d)]) (some (.d (.lst (J.map .int)))) (some (.d (.lst (G.map D.str)))) (some (.d (.lst (n.map Rd.d)))) (some (.d (.int st))) (some (.d (.int mo))) (some (.d (.lst (n.map Rd.d)))) (some (.loc M.length)) none none o none λ_=>rfl;rw[hL<|(Px rfl c2<|by decide).trans et];rw[hL<|i4 (gI (d:=.lst<|o.map Fl.d)<|lh (hA (x:=.lst<|n.map Rd.d) rfl<|hA (x:=.lst<|G.map D.str) rfl<|hA (x:=.int st) rfl<|hA (x:=.int mo) rfl rfl) e2)<|ai rfl];show∃S',hY (gh (iw _ _ _) _ [some<|.d<|.lst<|J.map .int,some<|.d<|.lst<|G.map D.str,some<|.d<|.lst<|n.map Rd.d,some<|.d<|.int st,some<|.d<|.int mo,some<|.d<|.lst<|n.map Rd.d,some<|.loc M.length,T,some<|.d<|.lst<|o.map Fl.d,none]<|M++[Cell.li<|(o.map Fl.d).map Z.d])=_;rw[lE (oj (d:=false) (by show(d2 kY (dV 6) (dV 8) [_,_,_,_,_,_,k7 (M++[Cell.li ((o.map Fl.d).map Z.d)]) (some (.loc M.length)),_,.sh (.lst (o.map Fl.d)),_]).bind tB=_;rw[v2];show(kY (.lst<|o.map Fl.d)<|.lst<|o.map Fl.d).bind tB=_;rw[z7];rfl))]
 rw[hL<|Pt (nq rfl) c2];rw[hL<|i4 (nt (hU (gI rfl)<|hU (gI rfl)<|hU (gI rfl) kL) e3)<|ai rfl];show∃S',hY (gh (iw _ _ _) _ [some<|.d<|.lst<|J.map .int,some<|.d<|.lst<|G.map D.str,some<|.d<|.lst<|n.map Rd.d,some<|.d<|.int st,some<|.d<|.int mo,some<|.d<|.lst<|n.map Rd.d,some<|.loc C.length,T,some<|.d<|.lst<|o.map Fl.d,none]<|C++[Cell.li<|(o.map Fl.d).map Z.d])=_;have c4:=r6 C (Cell.li<|(o.map Fl.d).map Z.d);have v4:=pK c4;rw[lE<|oj (d:=false)<|by show(d2 kY (dV 6) (dV 8) [_,_,_,_,_,_,k7 (C++[Cell.li<|(o.map Fl.d).map Z.d])<|some<|.loc C.length,_,.sh<|.lst<|o.map Fl.d,_]).bind tB=_;rw[v4];show(kY (.lst<|o.map Fl.d)<|.lst<|o.map Fl.d).bind tB=_;rw[z7];rfl]
 have n4:1<=C.length:=by have Y:=g4.len;rw[aR,aj]at Y;simp at Y;omega
 rw[hL ((BK rfl c4 n4 (qL (B4 _ (af _)) (lj _ _))).trans (i4 (gI (d:=.lst (F.map Rd.e)) (by
  show(((d2 oK _ _ [_,_,.sh (.lst (n.map Rd.d)),_,_,_,AK (if C.length=C.length then some (.d (.lst (o.map Fl.d)))else _),_,_,_])).bind (k4 kk)).bind _=_;rw[ae rfl,g9 (x:=.lst (n.map Rd.e)) (y:=.lst ((o.map Fl.r).map Rd.e)) (qf (by
   rw[nM Rd.d Rd.e (λ_=>true) n rfl (by omega) λr _=>⟨[.sh r.d],rfl,rfl,λ_=>rfl⟩,cA.mpr λ_ _=>rfl])) (qf (by
   rw[nM Fl.d (λf=>f.r.e) (λ_=>true) o rfl (by omega) λf _=>⟨[.sh f.d],rfl,rfl,λ_=>rfl⟩,cA.mpr λ_ _=>rfl,bS];rfl)) (C2 (by simp only[ar];omega)),<-bZ]
  show((k4 kk (.lst ((n++o.map Fl.r).map Rd.e))).bind λds=>R.ok (D.lst ds))=_;rw[eF];rfl)) (ai rfl)))]
 show∃S',hY (gh (iw _ _ _) _ [some<|.d<|.lst<|J.map .int,some<|.d<|.lst<|G.map D.str,some<|.d<|.lst<|n.map Rd.d,some<|.d<|.int st,some<|.d<|.int mo,some<|.d<|.lst<|n.map Rd.d,(if C.length=C.length then some (.d<|.lst<|o.map Fl.d)else _),k6 C.length (.lst<|o.map Fl.d) T,some<|.d<|.lst<|o.map Fl.d,some<|.d<|.lst<|F.map Rd.e]<|(C++[Cell.li<|(o.map Fl.d).map Z.d]).set C.length .no)=_;rw[ae rfl];have tl:b1 tB (d2 lU (dA jr<|fM (dV 9) fW)<|dC<|.int 200) (ig [some<|.d<|.lst<|J.map .int,some<|.d<|.lst<|G.map D.str,some<|.d<|.lst<|n.map Rd.d,some<|.d<|.int st,some<|.d<|.int mo,some<|.d<|.lst<|n.map Rd.d,some<|.d<|.lst<|o.map Fl.d,k6 C.length (.lst<|o.map Fl.d) T,some<|.d<|.lst<|o.map Fl.d,some<|.d<|.lst<|F.map Rd.e])=.ok (decide<|(200:Int)<((F.map Rd.e).length:Nat)):=rfl;rw[ar]at tl;by_cases big:(200:Int)<(F.length:Nat)
 ·rw[aE big]at tl;rw[xp (l6 tl)<|y_ret<|gI rfl];exact⟨_,rfl⟩
 ·rw[ax big]at tl;rw[lE<|l6 tl];have B5:k8 ((C++[Cell.li ((o.map Fl.d).map Z.d)]).set C.length .no):=λj hj=>m8 ((Gr.app λj=>lj (o.map Fl.d) j).bnd B4 j (by rw[aR]at hj;exact hj)) rfl;obtain⟨L6,S6,p6,_,g6,e6⟩:=H.f (S:=(C++[Cell.li ((o.map Fl.d).map Z.d)]).set C.length .no) A P O tF sF (by omega) (λx V=>.inl (nF x V)) (by rw[yT];exact List.nodup_nil);rw[yT]at p6;have e0:L6=[]:=List.perm_nil.mp p6;subst e0;have ed:gZ (iZ (λρ=>((dV 9) ρ).bind jo) 3 [] (gT 3 (gC (gV 0) (gC (gV 1) (gC (gV 2) gN)))) (λ_=>.ok true) (dA i0 (fM (dV 1) (fM (dV 0) (fM (dV 2) fW))))) (ig [some (.d (.lst (J.map .int))),some (.d (.lst (G.map D.str))),some (.d (.lst (n.map Rd.d))),some (.d (.int st)),some (.d (.int mo)),some (.d (.lst (n.map Rd.d))),some (.d (.lst (o.map Fl.d))),k6 C.length (.lst (o.map Fl.d)) T,some (.d (.lst (o.map Fl.d))),some (.d (.lst (F.map Rd.e)))])=.ok (.lst (F.map Rd.d)):=qf (by
   rw[nM Rd.e Rd.d (λ_=>true) F rfl (by omega) λr _=>⟨[.sh (.int r.t),.sh (.str r.m),.sh (pr r.p r.q)],rfl,rfl,λ_=>rfl⟩,cA.mpr λ_ _=>rfl])
  rw[y_ret<|nk (q:=oP) (x:=.lst []) (y:=.lst []) (w:=.bl true) (PD (L:=[]) (nt (hU (gI ed)<|hU (gI rfl)<|hU (gI rfl) kL) e6) (r6 S6 _) g6.len (qL (g6.bnd B5 _<|af _) rfl) ?hy) (gI (q:=gZ λρ=>(fW ρ).bind ie) rfl)<|eq_self rfl<|by decide];·exact⟨_,rfl⟩
  case hy=>
   have h8:n8 S6.length (k6 C.length (.lst<|o.map Fl.d) T)=false:=by
    have:=h7 S6.length;cases T with
    |none=>rfl
    |some z=>
     cases z with
     |loc m=>exact absurd (h7 m) (by show¬decide (m=m)=false;simp)
     |_=>exact this
   show(false||(false||(false||(false||(false||(false||(false||(n8 S6.length (k6 C.length (.lst<|o.map Fl.d) T)||(false||(false||false))))))))))=false;rw[h8];rfl
end
end md
namespace P2
open PySem PySem.Spec PyProof.Rows Fx L2
structure Wt(P:gy)(w:gs)(K:fZ)(mg:g5)(base h:gc):Prop where
 X:K.In h
 G:h.Ns mainGlobals mg
abbrev pX(K:fZ)(x:fR)(v:fN):Prop:=W.nsIn K mainGlobals x=some (some v)
abbrev lJ(K:fZ)(x:fR):Prop:=W.nsIn K mainGlobals x=some none
abbrev xw(K:fZ)(C:fO)(x:fR)(b:String):Prop:=W.findIn K (.ref C) x=some (some<|.builtin b)
abbrev Ca(K:fZ)(C:fO)(x:fR):Prop:=W.findIn K (.ref C) x=some none
def iI(K:fZ)(x:fR)(st:Stmt):Prop:=∃f a,jZ K x x st f a/\pX K x (.ref f)
def ups(u:Nat->fN):fL fR->fL fN
 |[]=>[]
 |_::r=>u r.length::ups u r
abbrev Bd(x qual:fR)(st:Stmt)(ps:gu):Prop:=∀(kV doc pm:fN) (an:iV) (cdv ct:fN) (u:Nat->fN),bindArgs (W.fnOf x qual (lR st) (jD st) (gG st) .none kV doc pm an cdv ct) ⟨ups u ps,[]⟩=pure (ps.zip<|ups u ps)
variable{P:gy}{w:gs}{K:fZ}{L:g5}{i h:gc}{x M:fR}{I:Stmt}{C:fO}{k:Nat}{J:gu}{N:Sp}
def Wt.g{v:fN}(Y:Wt P w K L i h)(e:pX K x v):L x=some v:=W.mg_of Y.X Y.G e
def Wt.n(Y:Wt P w K L i h)(e:lJ K x):L x=none:=W.mg_none_of Y.X Y.G e
theorem Bw{u v:Nat->fN}:∀{J:gu},(∀n,n<J.length->u n=v n)->ups u J=ups v J
 |[],_=>rfl
 |_::r,h=>by show u r.length::ups u r=v r.length::ups v r;rw[h _<|eT _,Bw λn a=>h n<|cX a]
theorem Bx:∀(J:gu) (us:gq),us.length=J.length->∃u,us=ups u J
 |[],[],_=>⟨λ_=>.none,rfl⟩
 |_::r,x::us,h=>by obtain⟨u,e⟩:=Bx r us (Nat.succ.inj h);refine⟨λn=>if n=r.length then x else u n,?_⟩;show x::us=(if r.length=r.length then x else _)::ups _ r;rw[ae rfl,e,Bw (v:=u) λn a=>ah<|aZ a]
def Bd.o(b:Bd x M I J)(kV c f:fN)(j:iV)(d ct:fN)(a:gq)(h:a.length=J.length):bindArgs (W.fnOf x M (lR I) (jD I) (gG I) .none kV c f j d ct) ⟨a,[]⟩=pure (J.zip a):=by obtain⟨u,rfl⟩:=Bx J a h;exact b ..
def iI.mk{f:fO}{p:fN}{o q:iV}{j:nE}{kV m n d ct:fN}(a:autoParam (W.nsIn K mainGlobals x=some (some<|.ref f)) aZ5)
    (l:autoParam (K.lookup f=some ⟨p,o,.func<|W.fnOf x x (lR I) (jD I) (gG I) .none kV m n q d ct,j⟩) aZ5)(c:autoParam (W.codeIn K d x=true) aZ5)(k:autoParam (W.keepIn K (.ref f)=true) aZ5):iI K x I:=⟨f,_,y3 l c k,a⟩
def iI.get(p:iI K x I)(Y:Wt P w K L i h)(J:gu)(b:autoParam (Bd x x I J) aZ7):
    ∃f c,jZ K x x I f c/\Binds K c J []/\W.keepIn K (.ref f)=true/\L x=some (.ref f):=let⟨f,c,F,a⟩:=p;⟨f,c,F,F.binds b.o,F.kp,Y.g a⟩
def iI.has(p:iI K x I)(Y:Wt P w K L i h)(o:∀f a,jZ K x x I f a->kb P w K L i k f a J N)(b:autoParam (Bd x x I J) aZ7):i6 P w K L i k x J N:=let⟨f,a,F,b,k,m⟩:=p.get Y J b;⟨f,a,o f a F,b,k,m⟩
def _root_.L2.l8.u{j:Nat}(G:i6 P w K L i j x J N)(h:j<=k:=by first|decide|omega|(simp only[Nat.add_eq];omega)):i6 P w K L i k x J N:=l8.up G h
def _root_.L2.jv.cl{f:fO}{a:jm}{n:Nat}{F:ix}(h:kb P w K L i k f a J<|j9 n K F):kb P w K L i k f a J (jj n K<|λc=>clo<|F (c.map .d) []):=jv.close h
def lc(s:Scope):fL fR:=(s.names.filter λp=>p.2 !=.globalImplicit).map (·.1)
noncomputable def oV(s:Scope)(J:gu)(n:Nat):f5:=decide (s.kind=.function)&&!s.isCoroutine&&!s.isGenerator&&decide (lc s).Nodup&&decide ((lc s).take J.length=J)&&decide ((lc s).length=n)&&J.all (λx=>decide (s.names.lookup x=some .local)||decide (s.names.lookup x=some .cell))&&s.names.all λy=>decide (y.2≠.free)
def lS{s:Scope}{n:Nat}(h:oV s J n=true):lF (lc s) J s/\(lc s).length=n:=by simp only[oV,aK,ey,bN,cD,aY]at h;obtain⟨⟨⟨⟨⟨⟨⟨o,m⟩,l⟩,j⟩,f⟩,d⟩,c⟩,a⟩:=h;exact⟨⟨o,m,l,j,f,c,a⟩,d⟩
def ED{f:fO}{j:jm}{n:Nat}{g:gK}(F:jZ K x x I f j)(S:oV (gG I) J n=true)
    (d:(lc<|gG I).Nodup->∀(c:fN) (A:gz) (a:iK) (s:fS) (H:Hp) (E:XK),g8 k (gW (gJ P w) P w K L i (lc<|gG I) x (gG I) f c A a s H E).A->kA (gW (gJ P w) P w K L i (lc<|gG I) x (gG I) f c A a s H E) E (jD I) g):
    kb P w K L i (k+1) f j J (jj J.length K λl=>gX<|g<|gY n l):=by
 have:=EE F (lS S).1 (d (lS S).1.nd);rwa [(lS S).2]at this
def EI{f:fO}{j:jm}{n:Nat}{g:Nat->gS}(F:jZ K x x I f j)(S:oV (gG I) J n=true)
    (d:(lc<|gG I).Nodup->∀(b:Nat) (c:fN) (A:gz) (a:iK) (s:fS) (H:Hp) (E:XK),g8 k (gW (gJ P w) P w K L i (lc<|gG I) x (gG I) f c A a s H E).A->kE (gW (gJ P w) P w K L i (lc<|gG I) x (gG I) f c A a s H E) E b (jD I) (g b)):
    kb P w K L i (k+1) f j J (j9 J.length K λl S=>hY<|g S.length (je n l) S):=by
 have:=EG F (lS S).1 (d (lS S).1.nd);rwa [(lS S).2]at this
def EH{dV:fN}{f:fO}{j:jm}{n:Nat}{g:Nat->gS}(F:xy K x M I dV f j)(S:oV (gG I) J n=true)
    (d:(lc<|gG I).Nodup->∀(b:Nat) (c:fN) (A:gz) (a:iK) (s:fS) (H:Hp) (E:XK),g8 k (gW (gJ P w) P w K L i (lc<|gG I) M (gG I) f c A a s H E).A->kE (gW (gJ P w) P w K L i (lc<|gG I) M (gG I) f c A a s H E) E b (jD I) (g b)):
    kb P w K L i (k+1) f j J (j9 J.length K λl S=>hY<|g S.length (je n l) S):=by
 have:=EF F (lS S).1 (d (lS S).1.nd);rwa [(lS S).2]at this
def EJ{f c:fO}{v:jm}{n:Nat}{g:Nat->gS}(F:jZ K x x I f v)(hc:v.code=.ref c)(S:oV (gG I) J n=true)
    (d:(lc<|gG I).Nodup->∀(b:Nat) (A:gz) (a:iK) (s:fS) (H:Hp) (E:XK),g8 k (gW (gJ P w) P w K L i (lc<|gG I) x (gG I) f (.ref c) A a s H E).A->kE (gW (gJ P w) P w K L i (lc<|gG I) x (gG I) f (.ref c) A a s H E) E b (jD I) (g b)):
    kb P w K L i (k+1) f v J (j9 J.length K λm S=>hY<|g S.length (je n m) S):=by
 obtain⟨j,S2⟩:=lS S;obtain⟨oc,od,kV,doc,pm,an,y,ct,Y,rfl,Z,u⟩:=F.ex;obtain rfl:y=.ref c:=hc;refine ve Z u j (λO H Q E h=>h.1) λA a s H O Q E hr h=>?_;obtain⟨hl,R,al,lo,m,l,fr,T,V,h⟩:=h;obtain⟨t,p,r⟩:=d j.nd l.length A a s H E hr;dsimp only at h;rw[<-S2]at h;refine⟨t,p,r (B:=⟨H,al,lo,l.length⟩) rfl (wR R fr T V) ?_⟩;cases q:g l.length (je (lc<|gG I).length m) l with
 |nx ρ j=>rw[q]at h;exact λD o H' G _ U=>h D o H' .non U.toEZ .non
 |rt z j=>rw[q]at h;exact h
 |ex c ns es j=>rw[q]at h;exact h
 |_=>rw[q]at h;exact h.elim
def iI.lam(p:iI K x I)(Y:Wt P w K L i h)(q:qz K x=true)(o:∀f d c j,jZ K x x I f d->nS K x c j=true->d.code=.ref c->kb P w K L i k f d J N)(b:autoParam (Bd x x I J) aZ7):i6 P w K L i k x J N:=by obtain⟨f,d,F,a⟩:=p;obtain⟨z,y,kV,t,v,A,u,ct,l,e,m,n⟩:=F.ex;obtain⟨c,j,s,r⟩:=GW a m q;exact⟨f,d,o f d c j F s r,F.binds b.o,F.kp,Y.g a⟩
end P2
namespace md
open PySem L2 P2 WP WM TM T2 PySem.NumText
abbrev fo(x q:fR)(st:Stmt)(dV kV doc pm:fN)(an:iV)(cdv ct:fN):jm:=PySem.W.fnOf x q (lR st) (jD st) (gG st) dV kV doc pm an cdv ct
def wZ(K:PySem.W.Frag):Sp:=λc H Q E=>∃(al:gL) (ns:jw),c.length=1/\(∀a,H a=none->al a)/\ns.length<=63/\fX K al H c [.lst<|ns.map D.int]/\iG K H/\∀H',gF K H H'->Q (.bl true) H'
theorem wN{K:PySem.W.Frag}{al:gL}{H:Hp}:∀a:fL Int,fX K al H (a.map V.int) (a.map D.int)
 |[]=>.nil
 |_::a=>.cons (.int _) (wN a)
def NP{K:PySem.W.Frag}{H:Hp}{a:fO}{c:jw}(f:c.length<=63)(d:iG K H)(r:Rep K (λ_=>True) H (.ref a)<|.lst<|c.map D.int):wZ K [.ref a] H (λv _=>v=.bl true) λ_ _ _=>False:=
 ⟨λ_=>True,c,rfl,λ_ _=>trivial,f,.cons r .nil,d,λ_ _=>rfl⟩
def isF(K:PySem.W.Frag)(a:kc)(c:fO)(u:fN):fU f5:=if c∈a then PySem.W.kitOne K (.ref c) u else none
def Gj{K:PySem.W.Frag}{a:kc}(h:∀c∈a,rz K c):q5 K (isF K a):=λc u b e=>by
 unfold isF at e;split at e;·rename_i z;exact⟨h c z,e⟩
 ·cases e
section
variable(a:Ad)
abbrev xD:gk:=λds=>gX (vh a<|gY 3 ds)
abbrev xF:gk:=λds=>gX (y9 a<|gY 1 ds)
abbrev ou:gk:=λds=>gX (vi a (xF a) (xD a)<|gY 3 ds)
abbrev t9:gk:=λds=>gX (vl a (ou a)<|gY 2 ds)
abbrev t8:gk:=λds=>gX (vk a (ou a)<|gY 2 ds)
abbrev ub:gk:=λds=>gX (vn a (ou a)<|gY 2 ds)
abbrev ua:gk:=λds=>gX (vm a (ou a)<|gY 3 ds)
abbrev xG:gk:=λds=>gX (vo a (ua a) (t8 a) (ub a) (t9 a)<|gY 4 ds)
abbrev xE:gk:=λds=>gX (oW a (xG a)<|gY 7 ds)
abbrev t4:ix:=λzs S=>hY (rZ a (xE a) S.length (je 7 zs) S)
abbrev pV:gk:=λds=>gX (vp a<|gY 2 ds)
abbrev rj:gk:=λds=>gX (vt a<|gY 4 ds)
abbrev ue:gk:=λds=>gX (sd a<|gY 7 ds)
abbrev rm:ix:=λzs S=>hY (vu a S.length (je 3 zs) S)
abbrev xH:ix:=λzs S=>hY (vy a (rj a) (rm a) S.length (je 2 zs) S)
abbrev ud:ix:=λzs S=>hY (vx a (pV a) (rm a) (xH a) S.length (je 12 zs) S)
abbrev uc:gk:=λds=>gX (vq a (rj a)<|gY 14 ds)
abbrev Cj:ix:=λzs S=>hY (vj a (pV a) (ue a) (uc a) (ud a) (t4 a) S.length (je 10 zs) S)
def rY:∀t b:Int,b≠0->b.natAbs<10^400->ou a [.int t,.int b]=.ok (fr t b):=λt b f h=>Hm (λi=>Hz (a:=a) i) (λx y d c h=>Hn (a:=a) x y d c h) t b f h
def O5:Vs (ua a) (t8 a) (ub a) (t9 a) where
 s:=λt l k d c=>Hv (a:=a) (rY a) t l k d c
 m:=λp q x y d c j i h f=>Hr (a:=a) (rY a) d c j i h f
 x:=λp q x y d c j i h f=>Hw (a:=a) (rY a) d c j i h f
 p:=λp q x y d c j i h f=>Ht (a:=a) (rY a) d c j i h f
def AD:Pk (rm a):=λc m x b f d=>Hs c m x b f d _
def zU:Lw (rj a):=λt b d c=>Hq t b d c
def yf:Cl (pV a):=λc k=>Hj c k
def EN:Fz (pV a) (ue a) (uc a) (ud a) (t4 a) where
 c:=yf a
 w:=λc=>HA c
 r:=λW n i f k s x v=>Hu (AD a) (Hy (AD a)<|zU a) (yf a) W n i f k s x v
 d:=λh t q _ u m i _ W=>Hk (zU a) h t q u m i W
 f:=Ey (λp h l j lt _ o=>Hx (O5 a) p h l j lt o)
end
structure Tx(K:PySem.W.Frag)(mg:g5)(a:Ad):Prop where
 rB:mg "abs"=none
 rC:mg "bool"=none
 rD:mg "int"=none
 rE:mg "isinstance"=none
 rG:mg "len"=none
 rH:mg "list"=none
 mf:mg "range"=none
 mM:mg "sorted"=none
 rJ:mg "tuple"=none
 CN:mg "WeatherError"=some (.ref a.WeatherError)
 yb:mg "NoFraction"=some (.ref a.NoFraction)
 BO:xQ K a.NoFraction
 zG:q5 K a.lp
structure Pm(K:PySem.W.Frag)(a:Ad):Prop where
 p1:iI K "common_divisor" (at_ 6)
 p2:iI K "is_whole" (at_ 5)
 p3:iI K "fraction" (at_ 4)
 p4:iI K "plus" (at_ 7)
 p5:iI K "minus" (at_ 8)
 p6:iI K "times" (at_ 9)
 p7:iI K "share_at" (at_ 12)
 p8:iI K "value_at" (at_ 11)
 p9:iI K "fills_between" (at_ 15)
 IQ:iI K "fills" (at_ 14)
 IT:iI K "_law_cell_at" (at_ 17)
 IU:iI K "_law_low" (at_ 18)
 IV:iI K "_law_word" (at_ 19)
 IW:iI K "_law_pick" (at_ 20)
 IY:iI K "_law_value" (at_ 21)
 IZ:iI K "_law_row" (at_ 22)
 I7:iI K "_law_due" (at_ 23)
structure Cm(P:gy)(w:gs)(K:PySem.W.Frag)(mg:g5)(base h:gc)(a:Ad):Prop where
 T:Tx K mg a
 W:Wt P w K mg base h
 q:Pm K a
 bm:BM mg base
 vU:qz K "fills"=true
section
variable{P:gy}{w:gs}{K:PySem.W.Frag}{i:g5}{c h:gc}{a:Ad}(C:Cm P w K i c h a)
include C
set_option hygiene false in
local macro_rules|`(tactic|walk_at "h")=>`(tactic|first|assumption|exact l8.u (by assumption))
set_option hygiene false in
local macro_rules|`(tactic|walk_at "o")=>do let l←("DE _ _ _ _:kT _|rN|Dz|yt zJ ? ?|Dx ? ? ?|yr|yu ?|Dr ? ?|Dw ?|Dv ?|Dy ? ? ? ?|Ds #4 hr rfl #5 rfl ?|Dt ? rfl #6 #7 ?|Du ? rfl #6 #7 ?|DB rfl #6 #7|DC ? ?|DN.de ?&DA _ _ _ _:rM|uS ? ?&ZE _ _ _ _:pR ?|qX _|P9 ?|P7 ? ? ?|P8 ?|BR ?|PZ #4 hr rfl sW rfl ?|BQ #4 hr rfl sW rfl ?&ZA _ _ _ _:BP|qW ? ?&kA _ _ _ _:D8 _ ?|Ea ?|D7 ? ?|D9&kE _ _ _ _ _:tW ?|pS ? ?|BX&ZS _ _ _ _ _:Ql _ ?|tV _ jS rfl #8 ?|BW ?|BU ? ? ?|Qf _ cF dr eM ?|Qm _ jS rfl #8 ?&DT _ _ _ _:Ec ? ? ?|Eb ? ? ? ? ?|Ed ?|Ef ?|DW.dt ?&DS _ _ _ _:yI _ jS rfl #8 ?|D4 ?|D0 ? ? ?|D6 oJ mw ? ?|yI _ jS rfl #9 ?|D2 _ _ rfl jS rfl rfl #2 rfl rfl ?|D5 _ jS rfl #8 ?&DN _ _ _ _:uW ?|DP ? #10 #10&ZT _ _ _ _:Qp ?|Qn ? ? ?|Qq ?&DW _ _ _ _:Ek ? ?|Ei ? ?|El ?|Ej ?&:DX ?|rO ?|uU|CT T.zG|yG ? #10 #10|DD ?&w:IE|IA|Ii|Iq|IL|Io|CV|Iz|Iu|CP|IJ|IH|NF|O1|Iw".splitOn "&").toArray.mapM mR3;`(tactic|repeat' first $[|$l:tactic]*)
set_option hygiene false in
local macro_rules|`(tactic|walk_at "g")=>`(tactic|(have T:=C.T;(first|refine ED F (by kernel_rfl) fun jS cdv A outer s H E hr=>?_|((try refine jv.cl ?_);refine EI F (by kernel_rfl) fun jS b cdv A outer s H E hr=>?_)|refine EH F (by kernel_rfl) fun jS b cdv A outer s H E hr=>?_);walk_at "o"))
set_option hygiene false in
local macro_rules|`(tactic|walk_at "f")=>`(tactic|((first|refine iI.has p C.W fun _ _ F=>?_);walk_at "g"))
theorem E5:i6 P w K i c 1 "common_divisor" ["one","other"] (jj 2 K<|xD a):=by have p:=C.q.p1;walk_at "f"
theorem E7:i6 P w K i c 1 "is_whole" ["thing"] (jj 1 K<|xF a):=by have p:=C.q.p2;walk_at "f"
theorem sj:i6 P w K i c 3 "fraction" ["top","bottom"] (jj 2 K<|ou a):=by have:=E7 C;have:=E5 C;have p:=C.q.p3;walk_at "f";exact D3 PySem.F.excBase_ValueError T.BO.cls rfl T.yb
theorem Fd:i6 P w K i c 4 "plus" ["one","other"] (jj 2 K<|t9 a):=by have:=sj C;have p:=C.q.p4;walk_at "f"
theorem E9:i6 P w K i c 4 "minus" ["one","other"] (jj 2 K<|t8 a):=by have:=sj C;have p:=C.q.p5;walk_at "f"
theorem Ff:i6 P w K i c 4 "times" ["one","other"] (jj 2 K<|ub a):=by have:=sj C;have p:=C.q.p6;walk_at "f"
theorem Fe:i6 P w K i c 4 "share_at" ["time","start","end"] (jj 3 K<|ua a):=by have:=sj C;have p:=C.q.p7;walk_at "f"
theorem Fh:i6 P w K i c 5 "value_at" ["time","first","second"] (jj 3 K<|xG a):=by have:=Fe C;have:=E9 C;have:=Ff C;have:=Fd C;have p:=C.q.p8;walk_at "f"
theorem vz:i6 P w K i c 6 "fills_between" ["first","second","step","most"] (jj 4 K<|xE a):=by have:=Fh C;have p:=C.q.p9;walk_at "f";exact DH rfl T.mf (by walk_at "o") (by rfl) (by rfl)
theorem E6:i6 P w K i c 7 "fills" ["row","step","most"] (j9 3 K (t4 a)):=by have vz:=vz C;have n:=C.bm;have T:=C.T;refine iI.lam C.q.IQ C.W C.vU λ_ _ _ _ F l m=>?_;refine EJ F m (by kernel_rfl) λd b A j s H E f=>?_;exact(pS (tV 3 d rfl (Or.inl rfl) (BR (uW rM)))
 (pS (tV 4 d rfl (Or.inl rfl) P4)
 (pS (tU mw rfl (rO (kT 0)) (tS 5 d rfl (Or.inl rfl)) (pS (tV 6 d rfl (Or.inl rfl) (pR (uT 5 (by rfl) (by first|exact Or.inl rfl|exact Or.inr (Or.inl rfl)|exact Or.inr (Or.inr rfl)) (by decide) (by decide))))
 (pS (BU (Qo f.units (kT 6) (qX 4) (by first|exact sP _|with_unfolding_all rfl)) (tW (Qj 3 (BQ vz f rfl sW rfl (qW (P1 f.units (qX 4) (kT 6)) (qW (pR (kT 5)) (qW (pR (kT 1)) (qW (pR (kT 2)) BP))))))) BX)
 (tW (Qi f.units (qX 4) (kT 6) (pR (kT 5)))))))
 (tW (BW (P6 (DQ (k:=0) (N:=(["fill"]:fL fR)) (p:="fill") (qual:="fills.<locals>.<lambda>") (x:="fills") ⟨by rfl,by rfl,by rfl,by decide+kernel,by rfl,by decide+kernel,by decide+kernel⟩ (λ_ _ _ _ _ _ _ _=>(yu (uS (uT 0 (by rfl) (by first|exact Or.inl rfl|exact Or.inr (Or.inl rfl)|exact Or.inr (Or.inr rfl)) (by decide) (by decide)) (uS (uT 0 (by rfl) (by first|exact Or.inl rfl|exact Or.inr (Or.inl rfl)|exact Or.inr (Or.inr rfl)) (by decide) (by decide)) rM)))) n l rfl (f.mono (by decide)) rfl T.mM (kT 3))))))))
theorem zl:i6 P w K i c 1 "_law_cell_at" ["_law_script","_law_k"] (jj 2 K<|pV a):=by have p:=C.q.IT;walk_at "f"
theorem zm:i6 P w K i c 1 "_law_low" ["_law_top","_law_bottom"] (jj 2 K<|rj a):=by have p:=C.q.IU;walk_at "f"
theorem FQ:i6 P w K i c 1 "_law_word" ["_law_cell","_law_k"] (jj 2 K<|ue a):=by have p:=C.q.IV;walk_at "f";exact uX mw rfl (uV rfl T.mf<|by walk_at "o") (kU 6 jS rfl<|Or.inl rfl) (by walk_at "o")
theorem zo:i6 P w K i c 1 "_law_pick" ["_law_stream","_law_many"] (j9 2 K<|rm a):=by have p:=C.q.IW;walk_at "f";exact BV 0 rN (by walk_at "o");exact BV 0 rN (by walk_at "o")
theorem FP:i6 P w K i c 2 "_law_value" ["_law_stream"] (j9 1 K<|xH a):=by have:=zm C;have:=zo C;have p:=C.q.IY;walk_at "f"
theorem FO:i6 P w K i c 3 "_law_row" ["_law_script","_law_first","_law_most","_law_words"] (j9 4 K<|ud a):=by have:=zl C;have:=zo C;have:=FP C;have p:=C.q.IZ;walk_at "f";exact tU mw rfl (by walk_at "o") (tS 6 jS rfl<|Or.inl rfl) (by walk_at "o";exact Qg;exact tU mw rfl (uV rfl T.mf<|by walk_at "o") (tS 9 jS rfl<|Or.inl rfl) (by walk_at "o");exact tU mw rfl (rO<|DN.de<|DR rfl T.mM<|by walk_at "o") (tS 11 jS rfl<|Or.inl rfl) (by walk_at "o"))
theorem FN:i6 P w K i c 2 "_law_due" ["_law_row_here","_law_words","_law_step_by","_law_most"] (jj 4 K<|uc a):=by have:=zm C;have p:=C.q.I7;walk_at "f";exact D1 4 jS rfl (Or.inl rfl) (uW rM);exact uX mw rfl (by walk_at "o") (kU 5 jS rfl<|Or.inr rfl) (by walk_at "o";exact uX mw rfl (DF rfl T.mf (by walk_at "o") (by rfl)<|by rfl) (kU 7 jS rfl<|Or.inl rfl) (by walk_at "o";exact DZ 4 (o:=.Name "_law_due_here" ⟨0,0,0,0⟩) cF dr eM (by walk_at "o")));exact yD (Nt:=["_law_time","_law_word_here","_law_value_here","_law_t","_law_u"]) (tn:=5) rfl (rO<|DN.de<|yE rfl T.mM (kT 4) (by rfl)<|by rfl) (λ_ _ _ _=>yz rfl<|mP (kU 0 (show List.Nodup (["_law_time","_law_word_here","_law_value_here","_law_t","_law_u"]:fL fR)from by decide+kernel) rfl<|Or.inl rfl)<|mP (kU 1 (show List.Nodup (["_law_time","_law_word_here","_law_value_here","_law_t","_law_u"]:fL fR)from by decide+kernel) rfl<|Or.inl rfl)<|mP (kU 2 (show List.Nodup (["_law_time","_law_word_here","_law_value_here","_law_t","_law_u"]:fL fR)from by decide+kernel) rfl<|Or.inl rfl)<|mP (kU 3 (show List.Nodup (["_law_time","_law_word_here","_law_value_here","_law_t","_law_u"]:fL fR)from by decide+kernel) rfl<|Or.inl rfl)<|mP (kU 4 (show List.Nodup (["_law_time","_law_word_here","_law_value_here","_law_t","_law_u"]:fL fR)from by decide+kernel) rfl<|Or.inl rfl) yA) (by simp) (λ_ _ _ _=>uU) (λ_ _ _ _=>by walk_at "o") (by decide+kernel) rfl (by decide+kernel) (by decide+kernel) rfl
theorem E8{f:fO}{d:jm}(F:jZ K "law" "law" (at_ 24) f d):kb P w K i c 8 f d ["_law_script"] (j9 1 K<|Cj a):=by have:=zl C;have:=FQ C;have:=FN C;have:=FO C;have:=E6 C;walk_at "g";exact uV rfl T.mf (by walk_at "o");exact DV;exact CZ;exact wt hr.units;exact Qk 6 7 mw rfl jS rfl (Or.inl rfl) (by walk_at "o") yr (by rfl) (by first|exact Or.inl rfl|exact Or.inr (Or.inl rfl)|exact Or.inr (Or.inr rfl)) (by decide) (by decide) (by first|exact .inl rfl|exact .inr rfl|assumption) (by intro _;rfl);exact wt hr.units;exact Qh (qX 6) (by rfl) (by rfl) (by rfl);exact wt hr.units;exact yE rfl T.mM (by walk_at "o";exact Ik) (by rfl) (by rfl);exact P0 (Im hr.units) (P5<|by walk_at "o";exact yD (Nt:=["_law_time","_law_mast","_law_value_here"]) (tn:=3) rfl (by walk_at "o") (λ_ _ _ _=>yz rfl<|mP (kU 0 (show List.Nodup (["_law_time","_law_mast","_law_value_here"]:fL fR)from by decide+kernel) rfl<|Or.inl rfl)<|mP (kU 1 (show List.Nodup (["_law_time","_law_mast","_law_value_here"]:fL fR)from by decide+kernel) rfl<|Or.inl rfl)<|mP (kU 2 (show List.Nodup (["_law_time","_law_mast","_law_value_here"]:fL fR)from by decide+kernel) rfl<|Or.inl rfl) yA) (by simp) (λ_ _ _ _=>uU) (λ_ _ _ _=>by walk_at "o") (by decide+kernel) rfl (by decide+kernel) (by decide+kernel) rfl) (by walk_at "o")
end
def all_mk{l:PySem.W.OpenLaw}{w:gs}{K:PySem.W.Frag}{h:gc}{N:g5}{fa vc f d:fO}(X:K.In h)(G:h.Ns mainGlobals N)(hfa:N "law"=some (.ref fa))
    {HZ U:iV}{NC:nE}{HY O P M I R:fN}
    (a18:pX K "law"<|.ref vc)
    (vP:K.lookup vc=some ⟨HY,HZ,.func<|fo "law" "law" (at_ 24) .none O P M U I R,NC⟩)(uK:PySem.W.codeIn K I "law"=true)(vJ:PySem.W.keepIn K (.ref vc)=true)
    (i:pX K "WeatherError"<|.ref f)
    (r:pX K "NoFraction"<|.ref d)
    (o:PySem.W.excIn K d [.type "ValueError",.type "Exception",.type "BaseException",.type "object"] "ValueError.__new__"=true)(m:PySem.W.keepIn K (.ref d)=true)(n:xw K d "__getattribute__" "BaseException.__getattribute__")(k:Ca K d "__getattr__")
    (p:xw K d "__class__" "object.__class__")
    (A:qz K "fills"=true)
    (Z:lJ K "abs")(L:lJ K "bool")(Y:lJ K "int")(t:lJ K "isinstance")(V:lJ K "len")(J:lJ K "list")(F:lJ K "range")(z:lJ K "sorted")(D:lJ K "tuple")(pm:Pm K {WeatherError:=f,NoFraction:=d,lp:=isF K []}):
    ∃fd:jm,(∀(s:fS) (v:fN),BindsTo s fd ⟨[v],[]⟩ [("_law_script",v)])/\∀y:gc,K.In y->y.Ns mainGlobals N->BM N y->jv l.prog w K N y (gJ l.prog w) 8 fa fd ["_law_script"] (wZ K):=by
 have e:=hfa.symm.trans (PySem.W.mg_of X G a18);cases e;have x:xQ K d:=⟨o,m,n,k,p⟩;have IS:q5 K (isF K []):=Gj λc hc=>by simp only[aH,c5,fJ]at hc
 have W:Wt l.prog w K N h h:=⟨X,G⟩;obtain⟨a,ea⟩:∃a:Ad,a={WeatherError:=f,NoFraction:=d,lp:=isF K []}:=⟨_,rfl⟩;have T:Tx K N a:=by subst ea;exact {rB:=W.n Z,rC:=W.n L,rD:=W.n Y,rE:=W.n t,rG:=W.n V,rH:=W.n J,mf:=W.n F,mM:=W.n z,rJ:=W.n D,CN:=W.g i,yb:=W.g r,BO:=x,zG:=IS}
 rw[<-ea]at pm;have ei:a.lp=isF K []:=by rw[ea]
 have j:a.WeatherError=f:=by rw[ea]
 have u:a.NoFraction=d:=by rw[ea]
 clear ea;subst j;subst u;have B9:=y3 (st:=(at_ 24)) vP uK vJ;refine⟨PySem.W.fnOf "law" "law" (lR<|at_ 24) (jD<|at_ 24) (gG<|at_ 24) .none O P M U I R,λs v=>.of_eq rfl,λy _ _ bm=>?_⟩;have C:Cm l.prog w K N y h a:=⟨T,⟨X,G⟩,pm,bm,A⟩;have HX:=E8 C B9;refine HX.imp λvs H Q E q=>?_;obtain⟨al,ns,hl,fr,hn,rv,tt,q⟩:=q;obtain⟨S',e⟩:=Ho (a:=a) (EN a) ns hn;exact OK hl rv tt e q
def walk{l:PySem.W.OpenLaw}{q:gy}{m:gu}{XP:(g5)->gc->Prop}{J:gs->gc->Prop}{d:DefRec}{K:Params->PySem.W.Frag}(M:l.most=some 63)(A:d.params.defaults=[])
    (Q:∀(w:gs) (h:gc),J w h->(K w.params).In h)(hT:∀w:gs,(ja<|K w.params).all (λt=>((PyProof.Rows.recsOf q).find? λe=>e.name==t.1).isSome)=true)(T:∀w:gs,PySem.W.noTabs (K w.params)=true)
    (F:∀(w:gs) (k:g5) (r:fO) (h:gc),(K w.params).In h->h.Ns mainGlobals k->k d.name=some (.ref r)->
      ∃C:jm,(∀(s:fS) (u:fN),BindsTo s C ⟨[u],[]⟩ [("_law_script",u)])/\∀c:gc,(K w.params).In c->c.Ns mainGlobals k->BM k c->jv l.prog w (K w.params) k c (gJ l.prog w) 8 r C ["_law_script"] (wZ (K w.params))):
    PySem.W.WalkO q m XP J l.row.toRowW d [] (λf x=>PySem.call f x):=by
 refine xu.CH M A λw I D k mb r o pm cd V a x ns G Y ho hd O y i p j N=>?_;have v:=Q w _ Y;obtain⟨C,P,U⟩:=F w k r _ v G.T.g y;refine G1 v G.T.g G.T.b G.T.builtins G.T.nolimit N i p (aC j<|by decide) ⟨rfl,by decide,by decide⟩ (OF G.T v<|hT w) (T w) G.T.bmain U P (λH L R=>NP j L ?_) λH e Z h=>?_
 ·rcases R with h|⟨o,QS,n,h1,h2,h3,h4,h5,h6⟩;·exact .lst (.inl ⟨trivial,h⟩) (wN _)
  ·have e:=v a o h1;rw[i]at e;cases e;cases h4;exact .lst (.inr ⟨x,_,h1,by simpa using h5,by simpa using h6⟩) (wN _)
 ·obtain⟨_,_,_,_,_,_,_,_,_,_,_,_,z⟩:=h;exact z
end md
structure PySem.W.Fast:Prop where
 (tw5211824487439926033 tw13280352871603931577 tw17853113006160818284 tw787311759598591259 tw536900702928982274 tw18392661599186258979 tw15693789756997281943 tw14778753144824585608 tw17571589456186623738 tw14561390917416923083 tw15542373551033097767 tw4604588417859589354 tw1261279127185237990 tw1905944154638127285 tw1671208806197782011 tw3385502723269053617 tw4760013092209911469 tw14857090786663883457 tw7642073604031083365 tw7867986392408804617 tw7765481464619895638 tw7525461289520562422 tw13775059320981808334 tw890708879169641962 tw7842795996065265506 tw16071984556769489575 tw6103353321984637560 tw17649793721993001748 tw540581484971550103 tw3797392726909565938 tw12551574880602953820 tw4044686234984025368 tw5731796218978434189 tw15561040969210430601 tw15109901085276587878 tw6279833419275437439 tw14100857172389235389 tw3466776016003573624 tw13804258078783776952 tw14583771286420577351 tw18252063589389248340 tw17796402718570920374 tw2022956667650538389 tw15645670414740061623 tw17671823460311272084 tw9920132030847697217 tw12161218003865105121 tw9544135350630351463 tw14588975887435071619 tw6579287117847133316 tw543289367509558628 tw4500323003179213171 tw8640899337527072402 tw7657455364603365895 tw734723868832774804 tw10646277694343624405 tw4358277153207803947 tw12990839328132252989 tw6620391348471845583 tw10469651363103277772 tw12586428062881928674 tw3746235478042870625 tw13557313883599248931 tw9642774826490766073 tw13221755338943489390 tw52767469263113433 tw9828139052968893993 tw6777437697580764010 tw11087817734497678288 tw11465147859886068844 tw18353352767323927390 tw9606329761125178431 tw2916146665000258600 tw1814164413754228635 tw7000930003831549858 tw4729799568051741712 tw8060274025213086163 tw426434108600685569 tw4585988996244005230 tw7032508070544401365 tw9909997800284204245 tw5501570740007424473 tw10992775356573988380 tw11943768389208213671 tw16714139808448905843 tw14313754180622710121 tw5354413624885240834 tw18044127398866071400 tw15988561462640601122 tw7831189772432945481 tw3476782290422394781 tw12494930552655246559 tw9117689159601753053 tw16604977412299328169 tw4372726217008770769 tw11284931328736180277 tw7491119352706019016 tw3530396493734691918 tw8610312148441787583 tw11099015364215050513 tw2242681486850936252 tw16014856380642879716 tw2575783378013283081 tw8099695460359451281 tw2979839440526995531 tw4550981475092069331 tw462038640577162819 tw7337899329975947415 tw17160131834104393501 tw4817288869047853427 tw1478721734459791090 tw1826553654793403127 tw17522702771632308210 tw17377847495390831218 tw4136359094052305576 tw17931685390836664615 tw6193613794562076978 tw13554756579400321068 tw10857335765429243130 tw12484659495327610525 tw9209916055833743556 tw4078266634036750766 tw11042371734534555362 tw4622786604018541358 tw9178182767352269572 tw2154670934894034052 tw3810704088284391845 tw13905811926358713725 tw12617407207950352384 tw8582488009021479578 tw16832629639517135747 tw9028034165574710847 tw6625353928713681800 tw13391606648844908660 tw3172215143436806545 tw15441468407597222789 tw555934258557343970 tw6463892607956378978 tw2233578577423503225 tw13017564504384704802 tw668902985213709020 tw14533333626185254988 tw13424119306860829748 tw17807391232986322297 tw10584346597835118330 tw15789069238511142529 tw17781621469846672357:True)
open PySem PySem.W PyProof.Rows
set_option maxRecDepth 100000 in
set_option maxHeartbeats 0 in
theorem PySem.Challenge.cw_weather_k51_fills_holds : PySem.Challenge.rw_weather_k51_fills.Holds := by
 w_on;o_law;k_head;(case hw=>w_witness2)
 k_fill
 refine md.walk (l:=PySem.Challenge.rw_weather_k51_fills) rfl rfl (λw h Y=>by first|exact PySem.W.km_in_of Y|exact PySem.W.kIn_of Y) ?hT ?hN ?F;case hT=>exact λw=>by kernel_rfl
 case hN=>exact λw=>by kernel_rfl
 case F=>
  intro w mg fa h KX G FU;refine' md.all_mk KX G FU ?a18 ?vP ?uK ?vJ ?Cq ?Cp ?PY ?Qd ?Qb ?Qe ?PX ?vU ?Pz ?PB ?PK ?PL ?PM ?PN ?PQ ?PR ?PV ?pm;case a18|vP|uK|vJ|Cq|Cp=>(show _=_;k_is)
  case PY=>k_exc
  case Qd|Qb|Qe|PX=>(show _=_;k_is)
  case vU=>kernel_rfl
  case Pz|PB|PK|PL|PM|PN|PQ|PR|PV=>(show _=_;k_is)
  case pm=>constructor<;>(try dsimp only)<;>exact .mk
