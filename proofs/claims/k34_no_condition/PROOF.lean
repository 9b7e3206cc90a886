import PyProof.Rows.All
import Wide.All
import OpenK.AllK
import Wide.FinOn
import Lean
import PyProof.EqAt
import PyProof.EqKinds
import PyProof.TupleCall
import PyProof.StationsW
import KE.IntBitsLaws
import PyProof.ExcClass2
import PyProof.ExcInit
import PyProof.InstStoreFacts
import PyProof.ExcArgsOwn
import PyProof.ExcAttrAll.ValueError
import KE.KNestM
import KE.IntTextLaws
import KE.KIsAll
import PyProof.Rows.EqDataRows
import PyProof.StrCalls2
import PyProof.Rows.StrSplitJoin
import KE.KIntText
import PyProof.StrBlockI
import PyProof.StrLawsIn
import PyProof.StrLawsIdx
import KE.KRevIter
import KE.KLam
import KE.KSortTup
import PyProof.Rows.SortWalk
import PyProof.Conv_int_bool
import PyProof.StrLawsChain
import PyProof.StrLawsTight
import PySem.Challenge.RW_weather_k34_no_condition
set_option Elab.async false
set_option linter.all false
set_option maxRecDepth 100000
namespace L2
open PySem PySem.Spec PyProof.Rows
noncomputable abbrev Key := Sum Int Str
noncomputable def keyIs : Key -> Value -> Bool
  | .inl k, v => Value.isInt k v
  | .inr x, v => Value.isStrOf x v
noncomputable def keyH (w : World) : Key -> Int
  | .inl k => hashInt k
  | .inr x => hashStr w x
theorem keyIs_shape : ∀ {k : Key} {v : Value}, keyIs k v = true -> (∃ i t, k = Sum.inl i /\ v = Value.int i t) \/ (∃ x t, k = Sum.inr x /\ v = Value.str x t)
  | .inl i, v, h => by
    obtain ⟨t, e⟩ := Value.isInt_shape (k := i) (v := v) h
    exact .inl ⟨i, t, rfl, e⟩
  | .inr x, v, h => by
    obtain ⟨t, e⟩ := Value.isStrOf_shape (x := x) (v := v) h
    exact .inr ⟨x, t, rfl, e⟩
theorem key_ll (a b : Int) : decide ((Sum.inl a : Key) = Sum.inl b) = (a == b) := by
  by_cases e : a = b
  · subst e; simp
  · have h : ¬ (Sum.inl a : Key) = Sum.inl b := fun q => e (Sum.inl.inj q)
    rw [decide_eq_false h]
    exact (beq_eq_false_iff_ne.mpr e).symm
theorem key_rr (a b : Str) : decide ((Sum.inr a : Key) = Sum.inr b) = decide (a = b) := by
  by_cases e : a = b
  · subst e; simp
  · have h : ¬ (Sum.inr a : Key) = Sum.inr b := fun q => e (Sum.inr.inj q)
    rw [decide_eq_false h, decide_eq_false e]
theorem key_lr (a : Int) (b : Str) : decide ((Sum.inl a : Key) = Sum.inr b) = false := decide_eq_false (fun q => nomatch q)
theorem key_rl (a : Str) (b : Int) : decide ((Sum.inr a : Key) = Sum.inl b) = false := decide_eq_false (fun q => nomatch q)
noncomputable def mixKind (prog : Program) (w : World) : PySem.KeyKind prog w Key where
  is := keyIs
  hash := keyH w
  inj := fun v a b ha hb => by
    rcases keyIs_shape ha with ⟨i, t, rfl, rfl⟩ | ⟨x, t, rfl, rfl⟩
    · rcases keyIs_shape hb with ⟨j, u, rfl, e⟩ | ⟨y, u, rfl, e⟩
      · injection e with e1 _; rw [e1]
      · exact nomatch e
    · rcases keyIs_shape hb with ⟨j, u, rfl, e⟩ | ⟨y, u, rfl, e⟩
      · exact nomatch e
      · injection e with e1 _; rw [e1]
  byValue := fun k v h => by
    rcases keyIs_shape h with ⟨i, t, rfl, rfl⟩ | ⟨x, t, rfl, rfl⟩ <;> rfl
  pyHash := fun hv h => by
    rcases keyIs_shape hv with ⟨i, t, rfl, rfl⟩ | ⟨x, t, rfl, rfl⟩
    · exact wpAny_pyHash_int h
    · exact wpAny_pyHash_str h
  eqBool := fun hu hv h => by
    rcases keyIs_shape hu with ⟨i, t, rfl, rfl⟩ | ⟨x, t, rfl, rfl⟩
    · rcases keyIs_shape hv with ⟨j, u, rfl, rfl⟩ | ⟨y, u, rfl, rfl⟩
      · rw [key_ll] at h; exact wpAny_eqBool_int h
      · rw [key_lr] at h; exact SeqAt.EqAt.int_str i t y u _ _ _ _ h
    · rcases keyIs_shape hv with ⟨j, u, rfl, rfl⟩ | ⟨y, u, rfl, rfl⟩
      · rw [key_rl] at h; exact SeqAt.EqAt.str_int x t j u _ _ _ _ h
      · rw [key_rr] at h; exact wpAny_eqBool_str h
  «strs» := fun k x t v h => by
    rcases keyIs_shape h with ⟨i, u, rfl, e⟩ | ⟨y, u, rfl, e⟩
    · exact nomatch e
    · injection e with e1 _
      subst e1
      cases v <;> rfl
end L2
namespace L2
open PySem PySem.Spec PyProof.Rows
inductive V where
  | non | bl (b : Bool) | int (i : Int) | str (x : Str) | byt (b : Array UInt8) | flt (b : UInt64) | ref (a : Addr) | ty (n : String)
  deriving DecidableEq
noncomputable def RelV : V -> Value -> Prop
  | .non, u => u = Value.none
  | .bl b, u => u = Value.bool b
  | .int i, u => ∃ t, u = Value.int i t
  | .str x, u => ∃ t, u = Value.str x t
  | .byt b, u => ∃ t, u = Value.bytes b t
  | .flt b, u => ∃ t, u = Value.float b t
  | .ref a, u => u = Value.ref a
  | .ty n, u => u = Value.type n
noncomputable abbrev Vals : List V -> List Value -> Prop := Paired RelV
theorem Vals.length {xs : List V} {us : List Value} (r : Vals xs us) : xs.length = us.length := Paired.length r
theorem Vals.get : ∀ {xs : List V} {us : List Value} {i : Nat} {x : V}, Vals xs us -> xs[i]? = some x -> ∃ u, us[i]? = some u /\ RelV x u
  | _, _, _, _, .nil, e => by simp at e
  | _, _, 0, _, .cons r _, e => by simp at e; subst e; exact ⟨_, rfl, r⟩
  | _, _, i + 1, x, .cons _ t, e => by
    obtain ⟨u, h1, h2⟩ := Vals.get (i := i) (x := x) t (by simpa using e)
    exact ⟨u, by simpa using h1, h2⟩
theorem Vals.append : ∀ {xs ys : List V} {us ws : List Value}, Vals xs us -> Vals ys ws -> Vals (xs ++ ys) (us ++ ws)
  | _, _, _, _, .nil, s => s
  | _, _, _, _, .cons r t, s => .cons r (Vals.append t s)
theorem Vals.take : ∀ {xs : List V} {us : List Value} (n : Nat), Vals xs us -> Vals (xs.take n) (us.take n)
  | _, _, 0, _ => .nil
  | _, _, _ + 1, .nil => .nil
  | _, _, n + 1, .cons r t => .cons r (Vals.take n t)
theorem Vals.drop : ∀ {xs : List V} {us : List Value} (n : Nat), Vals xs us -> Vals (xs.drop n) (us.drop n)
  | _, _, 0, r => r
  | _, _, _ + 1, .nil => .nil
  | _, _, n + 1, .cons _ t => Vals.drop n t
noncomputable def RelO : Option V -> Option Value -> Prop
  | some v, some u => RelV v u
  | none, none => True
  | _, _ => False
noncomputable def KV {κ : Type} : List (κ × V) -> List (κ × Value) -> Prop := Paired fun (p : κ × V) (q : κ × Value) => p.1 = q.1 /\ RelV p.2 q.2
noncomputable def kV : Key -> V
  | .inl i => .int i
  | .inr x => .str x
inductive HO where
  /-- a list -/
  | lst (xs : List V)
  /-- a tuple (never changes) -/
  | tup (xs : List V)
  /-- a dict whose keys are ints and texts; one whose keys are tuples of ints and texts (the empty one is both) -/
  | dK (kvs : List (Key × V)) | dT (kvs : List (List Key × V))
  /-- a set of ints: its members, its size -/
  | set (S : Int -> Bool) (n : Nat)
  /-- an instance of the class at C, its dict at dx, its attributes -/
  | ins (C dx : Addr) (fs : List (Str × V))
  /-- the dict of the instance at x -/
  | own (x : Addr)
  /-- the dict of an exception -/
  | xd (fs : List (Str × V))
  /-- a bound method, f of x -/
  | met (f x : Addr)
  /-- a range object lo, lo + 1, .. below hi -/
  | rng (lo hi : Int)
  /-- a thing that is known to the object (the script; a dict while a loop walks it): read, never written while it is so -/
  | frz (o : Obj) (u : HO)
  /-- a code object's table -/
  | tbl (ps : Array Value)
  /-- any other thing, by what is true of its one object (a def of one's own: SetO a S n := HO.ext fun h => ..) -/
  | ext (φ : Heap -> Prop)
noncomputable abbrev Hp := Addr -> Option HO
noncomputable def upd (H : Hp) (a : Addr) (o : HO) : Hp := fun b => if b = a then some o else H b
theorem upd_same {H : Hp} {a : Addr} {o : HO} : upd H a o a = some o := by unfold upd; rw [if_pos rfl]
theorem upd_ne {H : Hp} {a b : Addr} {o : HO} (h : b ≠ a) : upd H a o b = H b := by unfold upd; rw [if_neg h]
theorem ne_of_none {H : Hp} {a b : Addr} {o : HO} (h : H a = some o) (h' : H b = none) : a ≠ b := by
  intro e; subst e; rw [h] at h'; cases h'
section
variable (P : Program) (w : World)
noncomputable def ObjOk (H : Hp) (h : Heap) (a : Addr) : HO -> Prop
  | .lst xs => xs.length <= sizeLine /\ ∃ (its : List Value) (n : Nat), Vals xs its /\ h.get? a = some { cls := .type "list", data := .seq its.toArray n }
  | .tup xs => xs.length <= sizeLine /\ ∃ its : List Value, Vals xs its /\ IsTup h a its.toArray
  | .dK kvs => kvs.length <= sizeLine /\ (a == sysModules) = false /\ ∃ vs, KV kvs vs /\ h.DictOf (mixKind P w) a vs
  | .dT kvs => kvs.length <= sizeLine /\ (a == sysModules) = false /\ ∃ xs : List (List Key × Addr × Value),
      Paired (fun (p : List Key × V) (q : List Key × Addr × Value) => p.1 = q.1 /\ H q.2.1 = some (.tup (p.1.map kV)) /\ RelV p.2 q.2.2) kvs xs /\
      ∃ o es ep, h.get? a = some o /\ o.ExactDict /\ o.data = .dict es ep /\ es.toList = xs.map (entryOfKey (tupleKind (mixKind P w))) /\ (xs.map (·.1)).Nodup
  | .set S n => h.SetOf (intKind P w) a S n
  | .ins C dx fs => H dx = some (.own a) /\ fs.length <= 1000 /\ dx ≠ a /\ h.get? a = some (PySem.W.instObj C dx) /\
      ∃ mA, h.Ns1 dx mA /\ (∀ f, RelO (fs.lookup f) (mA f)) /\ PySem.Within mA (fs.map (·.1))
  | .own _ => ∃ o, h.get? a = some o
  | .xd fs => ∃ mA, h.Ns1 a mA /\ ∀ f, RelO (fs.lookup f) (mA f)
  | .rng lo hi => ∃ t u v, h.get? a = some { cls := .type "range", data := .fields #[.int lo t, .int hi u, .int 1 v] }
  | .frz o u => h.get? a = some o /\ ObjOk H h a u
  | .tbl ps => h.get? a = some { cls := .none, data := .fields ps }
  | .met f x => h.get? a = some (PySem.W.methodObj (.ref f) (.ref x))
  | .ext φ => φ h /\ (∃ o, h.get? a = some o) /\ ∀ h1 h2 : Heap, φ h1 -> (∀ o, h1.get? a = some o -> h2.get? a = some o) -> φ h2
noncomputable def HOk (H : Hp) (h : Heap) : Prop := ∀ a o, H a = some o -> ObjOk P w H h a o
end
section
variable {P : Program} {w : World} {H H' : Hp} {h h' : Heap} {a : Addr} {o : HO}
theorem ObjOk.lt (x : ObjOk P w H h a o) : a < h.objs.size := by
  cases o with
  | lst xs => obtain ⟨_, _, _, _, e⟩ := x; exact Heap.lt_size e
  | tup xs => obtain ⟨_, _, _, p⟩ := x; exact p.lt
  | dK kvs => obtain ⟨_, _, _, _, o, _, _, e, _⟩ := x; exact Heap.lt_size e
  | dT kvs => obtain ⟨_, _, _, _, o, _, _, e, _⟩ := x; exact Heap.lt_size e
  | set S n => obtain ⟨o, _, _, _, e, _⟩ := x; exact Heap.lt_size e
  | ins C dx fs => obtain ⟨_, _, _, e, _⟩ := x; exact Heap.lt_size e
  | own y => obtain ⟨_, e⟩ := x; exact Heap.lt_size e
  | xd fs => obtain ⟨_, ⟨_, _, _, e, _⟩, _⟩ := x; exact Heap.lt_size e
  | rng lo hi => obtain ⟨_, _, _, e⟩ := x; exact Heap.lt_size e
  | frz ob u => obtain ⟨e, _⟩ := x; exact Heap.lt_size e
  | tbl ps => exact Heap.lt_size (show h.get? a = some _ from x)
  | met f y => exact Heap.lt_size (show h.get? a = some _ from x)
  | ext φ => obtain ⟨_, ⟨_, e⟩, _⟩ := x; exact Heap.lt_size e
theorem Paired.mapP {α β : Type} {F G : α -> β -> Prop} : ∀ {l₁ : List α} {l₂ : List β}, Paired F l₁ l₂ -> (∀ a b, F a b -> G a b) -> Paired G l₁ l₂
  | _, _, .nil, _ => .nil
  | _, _, .cons r t, f => .cons (f _ _ r) (Paired.mapP t f)
theorem ObjOk.stay (x : ObjOk P w H h a o) (k : ∀ b u, (b = a \/ H b = some (.own a)) -> h.get? b = some u -> h'.get? b = some u)
    (ho : ∀ b, H b = some (.own a) -> H' b = some (.own a)) (ht : ∀ b xs, H b = some (.tup xs) -> H' b = some (.tup xs)) : ObjOk P w H' h' a o := by
  induction o with
  | lst xs => obtain ⟨z, its, n, r, e⟩ := x; exact ⟨z, its, n, r, k _ _ (.inl rfl) e⟩
  | tup xs => obtain ⟨z, its, r, ob, e, c⟩ := x; exact ⟨z, its, r, ob, k _ _ (.inl rfl) e, c⟩
  | dK kvs => obtain ⟨z, y, vs, r, ob, es, ep, e, c⟩ := x; exact ⟨z, y, vs, r, ob, es, ep, k _ _ (.inl rfl) e, c⟩
  | dT kvs =>
    obtain ⟨z, y, xs, r, ob, es, ep, e, c⟩ := x
    exact ⟨z, y, xs, Paired.mapP r fun p q z => ⟨z.1, ht _ _ z.2.1, z.2.2⟩, ob, es, ep, k _ _ (.inl rfl) e, c⟩
  | set S n => obtain ⟨ob, es, ep, t, e, c⟩ := x; exact ⟨ob, es, ep, t, k _ _ (.inl rfl) e, c⟩
  | ins C dx fs =>
    obtain ⟨d, z, ne, e, mA, ⟨od, es, ep, e2, c⟩, r⟩ := x
    exact ⟨ho _ d, z, ne, k _ _ (.inl rfl) e, mA, ⟨od, es, ep, k _ _ (.inr d) e2, c⟩, r⟩
  | own y => obtain ⟨ob, e⟩ := x; exact ⟨ob, k _ _ (.inl rfl) e⟩
  | xd fs => obtain ⟨mA, ⟨od, es, ep, e, c⟩, r⟩ := x; exact ⟨mA, ⟨od, es, ep, k _ _ (.inl rfl) e, c⟩, r⟩
  | rng lo hi => obtain ⟨t, u, v, e⟩ := x; exact ⟨t, u, v, k _ _ (.inl rfl) e⟩
  | frz ob u ih => obtain ⟨e, q⟩ := x; exact ⟨k _ _ (.inl rfl) e, ih q⟩
  | tbl ps =>
    have e : h.get? a = some { cls := .none, data := .fields ps } := x
    show h'.get? a = some { cls := .none, data := .fields ps }
    exact k a _ (.inl rfl) e
  | met f y =>
    have e : h.get? a = some (PySem.W.methodObj (.ref f) (.ref y)) := x
    show h'.get? a = some (PySem.W.methodObj (.ref f) (.ref y))
    exact k a _ (.inl rfl) e
  | ext φ => obtain ⟨p, ⟨o, e⟩, st⟩ := x; exact ⟨st _ _ p fun o q => k _ _ (.inl rfl) q, ⟨o, k _ _ (.inl rfl) e⟩, st⟩
theorem HOk.lt (x : HOk P w H h) (e : H a = some o) : a < h.objs.size := (x a o e).lt
theorem HOk.fresh (x : HOk P w H h) (e : h.objs.size <= a) : H a = none := by
  cases q : H a with
  | none => rfl
  | some u => exact absurd (Nat.lt_of_lt_of_le (x.lt q) e) (Nat.lt_irrefl _)
theorem HOk.kept (x : HOk P w H h) (k : ∀ b u, h.get? b = some u -> h'.get? b = some u) : HOk P w H h' := fun a o e =>
  (x a o e).stay (fun b u _ q => k b u q) (fun _ q => q) fun _ _ q => q
theorem HOk.laid (x : HOk P w H h) (k : ∀ b u, h.get? b = some u -> h'.get? b = some u) (hp : h.objs.size <= a) (new : ObjOk P w (upd H a o) h' a o) : HOk P w (upd H a o) h' := fun b u e => by
  have hn := x.fresh hp
  by_cases hb : b = a
  · subst hb; rw [upd_same] at e; cases e; exact new
  · rw [upd_ne hb] at e
    exact (x b u e).stay (fun c v _ q => k c v q) (fun c q => by rw [upd_ne (ne_of_none q hn)]; exact q) fun c xs q => by rw [upd_ne (ne_of_none q hn)]; exact q
end
noncomputable def Rd (H : Hp) (a : Addr) (u : HO) : Prop := H a = some u \/ ∃ o, H a = some (.frz o u)
theorem Rd.ok {P : Program} {w : World} {H : Hp} {h : Heap} {a : Addr} {u : HO} (r : Rd H a u) (x : HOk P w H h) : ObjOk P w H h a u := by
  rcases r with r | ⟨o, r⟩
  · exact x a u r
  · obtain ⟨_, q⟩ := x a _ r
    exact q
noncomputable def Mut : Option HO -> Prop
  | some (.lst _) => True
  | some (.dK _) => True
  | some (.dT _) => True
  | some (.set _ _) => True
  | some (.ins _ _ _) => True
  | some (.ext _) => True
  | _ => False
section
variable {P : Program} {w : World} {H : Hp} {h h' : Heap} {x e : Addr} {o' : HO}
theorem HOk.write (ok : HOk P w H h) (mu : Mut (H x)) (he : e = x \/ H e = some (.own x)) (k : ∀ b u, b ≠ e -> h.get? b = some u -> h'.get? b = some u) (heo : ∃ u, h'.get? e = some u)
    (new : ObjOk P w (upd H x o') h' x o') : HOk P w (upd H x o') h' := fun b u q => by
  have nown : ∀ c y, H c = some (.own y) -> c ≠ x := fun c y r z => by subst z; rw [r] at mu; exact mu
  have ntup : ∀ c xs, H c = some (.tup xs) -> c ≠ x := fun c xs r z => by subst z; rw [r] at mu; exact mu
  by_cases hb : b = x
  · subst hb; rw [upd_same] at q; cases q; exact new
  · rw [upd_ne hb] at q
    by_cases hbe : b = e
    · have q' : H b = some (.own x) := by
        rcases he with z | z
        · exact absurd (hbe.trans z) hb
        · rw [hbe]; exact z
      rw [q] at q'; cases q'
      obtain ⟨v, hv⟩ := heo
      exact ⟨v, by rw [hbe]; exact hv⟩
    · refine (ok b u q).stay (fun c v hc r => k c v ?_ r) (fun c r => by rw [upd_ne (nown c b r)]; exact r) fun c xs r => by rw [upd_ne (ntup c xs r)]; exact r
      rcases hc with rfl | hc
      · exact hbe
      · rintro rfl
        rcases he with z | z
        · exact nown c b hc z
        · rw [hc] at z; cases z; exact hb rfl
end
structure Un (fs ex : List Addr) (H H' : Hp) (h h' : Heap) : Prop where
  keep : ∀ b o, h.get? b = some o -> H b = none -> b ∉ fs -> b ∉ ex -> h'.get? b = some o
  slot : ∀ b o, h.get? b = some o -> H b = none -> b ∈ fs -> b ∉ ex -> ∃ sl, h'.get? b = some { o with slots := sl }
  free : ∀ b o, h.get? b = some o -> H b = none -> b ∉ ex -> H' b = none
  there : ∀ b o, h.get? b = some o -> b ∉ ex -> ∃ o', h'.get? b = some o'
  tups : ∀ b xs, H b = some (.tup xs) -> H' b = some (.tup xs)
  frzs : ∀ b o u, H b = some (.frz o u) -> H' b = some (.frz o u)
  tbls : ∀ b ps, H b = some (.tbl ps) -> ∃ more, H' b = some (.tbl (ps ++ more))
section
variable {fs fs' ex ex' : List Addr} {H H1 H2 : Hp} {h h1 h2 h' : Heap} {a x e : Addr} {o : HO}
theorem Un.any (u : Un fs ex H H1 h h1) {b : Addr} {ob : Obj} (q : h.get? b = some ob) (n : H b = none) (hx : b ∉ ex) : ∃ sl, h1.get? b = some { ob with slots := sl } := by
  by_cases hb : b ∈ fs
  · exact u.slot b ob q n hb hx
  · exact ⟨ob.slots, u.keep b ob q n hb hx⟩
theorem Un.kept (k : ∀ b u, h.get? b = some u -> h'.get? b = some u) : Un fs ex H H h h' :=
  ⟨fun b ob q _ _ _ => k b ob q, fun b ob q _ _ _ => ⟨ob.slots, k b ob q⟩, fun _ _ _ n _ => n, fun b ob q _ => ⟨ob, k b ob q⟩, fun _ _ q => q, fun _ _ _ q => q, fun _ ps q => ⟨#[], by rw [q]; simp⟩⟩
theorem Un.refl : Un fs ex H H h h := Un.kept fun _ _ q => q
theorem Un.laid (k : ∀ b u, h.get? b = some u -> h'.get? b = some u) (hp : h.objs.size <= a) (hn : H a = none) : Un fs ex H (upd H a o) h h' where
  keep := fun b u q _ _ _ => k b u q
  slot := fun b u q _ _ _ => ⟨u.slots, k b u q⟩
  free := fun b u q n _ => by rw [upd_ne (Nat.ne_of_lt (Nat.lt_of_lt_of_le (Heap.lt_size q) hp))]; exact n
  there := fun b u q _ => ⟨u, k b u q⟩
  tups := fun b xs q => by rw [upd_ne (ne_of_none q hn)]; exact q
  frzs := fun b u xs q => by rw [upd_ne (ne_of_none q hn)]; exact q
  tbls := fun b ps q => ⟨#[], by rw [upd_ne (ne_of_none q hn), q]; simp⟩
theorem Un.write (mu : Mut (H x)) (he : e = x \/ H e = some (.own x)) (k : ∀ b u, b ≠ e -> h.get? b = some u -> h'.get? b = some u) (heo : ∃ u, h'.get? e = some u) : Un fs ex H (upd H x o) h h' := by
  have hx : ∀ b, H b = none -> b ≠ x := fun b n z => by subst z; rw [n] at mu; exact mu
  have hb : ∀ b, H b = none -> b ≠ e := fun b n z => by
    subst z
    rcases he with r | r
    · exact hx b n r
    · rw [n] at r; cases r
  have hm : ∀ b u, H b = some u -> ¬ Mut (some u) -> b ≠ x := fun b u q nm z => by subst z; rw [q] at mu; exact nm mu
  refine ⟨fun b u q n _ _ => k b u (hb b n) q, fun b u q n _ _ => ⟨u.slots, k b u (hb b n) q⟩, fun b u q n _ => by rw [upd_ne (hx b n)]; exact n, fun b u q _ => ?_,
    fun b xs q => by rw [upd_ne (hm b _ q fun z => z)]; exact q, fun b u xs q => by rw [upd_ne (hm b _ q fun z => z)]; exact q, fun b ps q => ⟨#[], by rw [upd_ne (hm b _ q fun z => z), q]; simp⟩⟩
  by_cases hbe : b = e
  · subst hbe; exact heo
  · exact ⟨u, k b u hbe q⟩
end
noncomputable def trk (h : Heap) (H : Hp) : List Addr := (List.range h.objs.size).filter fun a => (H a).isSome
noncomputable def hidT (h : Heap) (H : Hp) : Heap := PySem.W.hideAll h (trk h H)
theorem hidT_size (h : Heap) (H : Hp) : (hidT h H).objs.size = h.objs.size := PySem.W.hideAll_size _ _
theorem hidT_get {h : Heap} {H : Hp} {b : Addr} {o : Obj} (e : h.get? b = some o) (n : H b = none) : (hidT h H).get? b = some o :=
  PySem.W.hideAll_get _ e fun hm => by
    have q : (H b).isSome = true := (List.mem_filter.mp hm).2
    rw [n] at q; simp at q
theorem of_hidT {h : Heap} {H : Hp} {b : Addr} {o : Obj} (e : (hidT h H).get? b = some o) : h.get? b = some o /\ H b = none := by
  have e' : h.get? b = some o := PySem.W.of_hideAll (trk h H) e
  refine ⟨e', ?_⟩
  cases q : H b with
  | none => rfl
  | some x =>
    have hm : b ∈ trk h H := List.mem_filter.mpr ⟨List.mem_range.mpr (Heap.lt_size e'), by simp [q]⟩
    have z : (hidT h H).get? b = none := PySem.W.hideAll_none (trk h H) hm
    rw [z] at e; cases e
noncomputable def allNews (g h : Heap) (L : Addr) : List (Addr × Obj) := (List.range h.objs.size).filterMap fun a => if a = L \/ (g.get? a).isSome = true then none else (h.get? a).map fun o => (a, o)
noncomputable def rest (g h : Heap) (L d : Addr) : List (Addr × Obj) := (allNews g h L).filter fun p => decide (p.1 ≠ d)
end L2
namespace L2
open PySem PySem.Spec PyProof.Rows
structure Mod (K : PySem.W.Frag) (mg : Str -> Option Value) (base : Heap) : Prop where
  kin : K.In base
  glob : base.Ns mainGlobals mg
  blt : ∃ mb, base.Ns builtinsNs mb /\ ∀ x : Str, x ≠ "__name__" -> mb x = bootBuiltins x
  nolimit : base.NoLimit
structure Cx where
  prog : Program
  w : World
  K : PySem.W.Frag
  mg : Str -> Option Value
  base : Heap
  A : Around
  N : List Str
  s₀ : Shared
  H₀ : Hp
  env : Env
  outer : List Env
  stack : List Env
  ex : List Addr
  fn : Str -> Bool
  calm : Bool
  pn : List (Addr × Obj)
  xe : Value -> Shared -> Prop
noncomputable def frs (l : List Env) : List Addr := l.filterMap (·.frame)
noncomputable abbrev Cx.fs (X : Cx) : List Addr := frs X.outer
noncomputable def Vis (sc : Scope) (x : Str) : Prop := sc.names.lookup x = some .local \/ sc.names.lookup x = some .cell \/ sc.names.lookup x = some .free
noncomputable def Loc (sc : Scope) (x : Str) : Prop := sc.names.lookup x = some .local \/ sc.names.lookup x = some .cell
noncomputable def Look (env : Env) (h : Heap) (m : Str -> Option Value) (x : Str) (u : Value) : Prop :=
  (env.kindOf x = some .local /\ m x = some u) \/ ((env.kindOf x = some .cell \/ env.kindOf x = some .free) /\ ∃ c, env.cells.lookup x = some c /\ h.IsCell c (some u))
structure Cx.Ok (X : Cx) : Prop where
  mod : Mod X.K X.mg X.base
  kind : X.env.scope.kind = .function
  glob : X.env.globals = mainGlobals
  blt : X.env.builtins = builtinsNs
  above : X.s₀.heap.objs.size <= X.env.locals
  inj : ∀ x y c, X.env.cells.lookup x = some c -> X.env.cells.lookup y = some c -> x = y
  has : ∀ x, (X.env.kindOf x = some .cell \/ X.env.kindOf x = some .free) -> ∃ c, X.env.cells.lookup x = some c
  cab : ∀ x c, X.fn x = true -> X.env.cells.lookup x = some c -> X.s₀.heap.objs.size <= c
  hd : X.calm = true -> X.A.handled = none
  frames : X.A.frames = some X.stack
  stk : X.stack = X.outer \/ (X.stack = X.env :: X.outer /\ X.env.frame = some X.env.locals)
  exf : ∀ b ∈ X.ex, b ≠ X.env.locals /\ ∀ x c, X.env.cells.lookup x = some c -> c ≠ b
  bs : ∀ b o, X.base.get? b = some o -> X.s₀.heap.get? b = some o /\ X.H₀ b = none
  bsz : X.base.objs.size <= X.s₀.heap.objs.size
  noex : ∀ b o, X.base.get? b = some o -> b ∉ X.ex
  exfs : ∀ b ∈ X.ex, b ∉ X.fs
  funs : X.s₀.heap.FunFrames X.base X.outer
  frf : ∀ b ∈ X.fs, X.H₀ b = none
structure Inv (X : Cx) (pins : List (Addr × Obj)) (σ : List (Option V)) (H : Hp) (s : Shared) : Prop where
  ok : X.Ok
  os : s.os = X.s₀.os
  bare : AllBare s.gens
  base : Un X.fs X.ex X.H₀ H X.s₀.heap s.heap
  loc : ∃ m, s.heap.Ns X.env.locals m /\ ∀ (i : Nat) (x : Str) (v : V), X.N[i]? = some x -> σ[i]? = some (some v) -> Vis X.env.scope x -> ∃ u, RelV v u /\ Look X.env s.heap m x u
  cell : ∀ x c, X.env.cells.lookup x = some c -> ∃ v, s.heap.IsCell c v
  free : H X.env.locals = none
  freeC : ∀ x c, X.env.cells.lookup x = some c -> H c = none
  pin : ∀ p ∈ X.pn ++ pins, s.heap.get? p.1 = some p.2 /\ H p.1 = none /\ p.1 ≠ X.env.locals /\ p.1 ∉ X.fs /\ ∀ v, p.2.data ≠ .cell v
  hok : HOk X.prog X.w H s.heap
  len : σ.length = X.N.length
section
variable {X : Cx} {pins : List (Addr × Obj)} {σ : List (Option V)} {H H' : Hp} {s : Shared} {h' : Heap}
theorem Cx.Ok.nofr (ok : X.Ok) {b : Addr} {o : Obj} (e : X.base.get? b = some o) : b ∉ X.fs := fun hb => by
  have := (ok.funs.mem hb).1
  rw [e] at this; cases this
theorem Inv.bs (I : Inv X pins σ H s) : ∀ b o, X.base.get? b = some o -> s.heap.get? b = some o /\ H b = none := fun b o e =>
  ⟨I.base.keep b o (I.ok.bs b o e).1 (I.ok.bs b o e).2 (I.ok.nofr e) (I.ok.noex b o e), I.base.free b o (I.ok.bs b o e).1 (I.ok.bs b o e).2 (I.ok.noex b o e)⟩
theorem Inv.bk (I : Inv X pins σ H s) : ∀ b o, X.base.get? b = some o -> s.heap.get? b = some o := fun b o e => (I.bs b o e).1
theorem Inv.mod (I : Inv X pins σ H s) : Mod X.K X.mg X.base := I.ok.mod
theorem Inv.kIn (I : Inv X pins σ H s) : X.K.In s.heap := I.ok.mod.kin.keeps I.bk
theorem Inv.lt (I : Inv X pins σ H s) : X.env.locals < s.heap.objs.size := let ⟨_, hn, _⟩ := I.loc; hn.lt
theorem Inv.sz (I : Inv X pins σ H s) : X.s₀.heap.objs.size <= s.heap.objs.size := Nat.le_trans I.ok.above (Nat.le_of_lt I.lt)
theorem Inv.nofs (I : Inv X pins σ H s) {a : Addr} (h : s.heap.objs.size <= a) : a ∉ X.fs := fun hb => by
  obtain ⟨_, o, ho, _⟩ := I.ok.funs.mem hb
  exact absurd (Nat.lt_of_lt_of_le (Heap.lt_size ho) (Nat.le_trans I.sz h)) (Nat.lt_irrefl _)
theorem Inv.cne (I : Inv X pins σ H s) : ∀ x c, X.env.cells.lookup x = some c -> c ≠ X.env.locals := fun x c e z => by
  obtain ⟨v, o, ho, hd⟩ := I.cell x c e
  obtain ⟨m, ⟨o', es, ep, ho', hd', _⟩, _⟩ := I.loc
  rw [z, ho'] at ho; cases ho; rw [hd'] at hd; cases hd
theorem Inv.funs (I : Inv X pins σ H s) : s.heap.FunFrames X.base X.outer := by
  have all : ∀ (l : List Env), (∀ b ∈ frs l, b ∈ X.fs) -> X.s₀.heap.FunFrames X.base l -> s.heap.FunFrames X.base l := by
    intro l
    induction l with
    | nil => intro _ _; trivial
    | cons env r ih =>
      intro hs hl
      obtain ⟨hk, ⟨L, o, hf, hn, ho, hd⟩, hr⟩ := hl
      have hL : L ∈ X.fs := hs L (by unfold frs; rw [List.filterMap_cons, hf]; exact List.mem_cons_self)
      obtain ⟨sl, e⟩ := I.base.slot L o ho (I.ok.frf L hL) hL fun z => I.ok.exfs L z hL
      exact ⟨hk, ⟨L, _, hf, hn, e, hd⟩, ih (fun b hb => hs b (by unfold frs; rw [List.filterMap_cons, hf]; exact List.mem_cons_of_mem _ hb)) hr⟩
  exact all X.outer (fun _ hb => hb) I.ok.funs
theorem Inv.stack (I : Inv X pins σ H s) : s.heap.FunFrames X.base X.stack := by
  rcases I.ok.stk with e | ⟨e, hf⟩
  · rw [e]; exact I.funs
  · rw [e]
    obtain ⟨m, hn, _⟩ := I.loc
    refine .cons (by rw [I.ok.kind]; decide) hf hn ?_ I.funs
    exact Heap.get?_none_of_le (Nat.le_trans I.ok.bsz I.ok.above)
theorem Inv.stkSub (I : Inv X pins σ H s) : ∀ b ∈ frs X.stack, b ∈ X.env.locals :: X.fs := fun b hb => by
  rcases I.ok.stk with e | ⟨e, hf⟩
  · rw [e] at hb; exact List.mem_cons_of_mem _ hb
  · rw [e] at hb
    unfold frs at hb
    rw [List.filterMap_cons, hf] at hb
    exact hb
theorem Inv.stkFree (I : Inv X pins σ H s) : ∀ b ∈ frs X.stack, H b = none := fun b hb => by
  rcases List.mem_cons.mp (I.stkSub b hb) with e | hb
  · rw [e]; exact I.free
  · obtain ⟨_, o, ho, _⟩ := I.ok.funs.mem hb
    exact I.base.free b o ho (I.ok.frf b hb) fun z => I.ok.exfs b z hb
theorem Inv.step {g' : Array GenState} {t' : Nat} {d' : Drawn} {ch : List Addr} (I : Inv X pins σ H s)
    (hch : ∀ b ∈ ch, (b ∈ X.ex \/ X.s₀.heap.objs.size <= b) /\ b ≠ X.env.locals /\ (∀ x c, X.env.cells.lookup x = some c -> c ≠ b) /\ ∀ p ∈ X.pn ++ pins, p.1 ≠ b)
    (keep : ∀ b o, b ≠ X.env.locals -> b ∉ X.fs -> b ∉ ch -> s.heap.get? b = some o -> H b = none -> h'.get? b = some o)
    (slot : ∀ b o, b ≠ X.env.locals -> b ∈ X.fs -> b ∉ ch -> s.heap.get? b = some o -> H b = none -> ∃ sl, h'.get? b = some { o with slots := sl }) (free : ∀ b o, b ∉ ch -> s.heap.get? b = some o -> H b = none -> H' b = none)
    (there : ∀ b o, b ∉ ch -> s.heap.get? b = some o -> ∃ o', h'.get? b = some o')
    (tups : ∀ b xs, H b = some (.tup xs) -> H' b = some (.tup xs)) (frzs : ∀ b o u, H b = some (.frz o u) -> H' b = some (.frz o u)) (tbls : ∀ b ps, H b = some (.tbl ps) -> ∃ more, H' b = some (.tbl (ps ++ more)))
    (ns : ∀ m, s.heap.Ns X.env.locals m -> h'.Ns X.env.locals m) (hok : HOk X.prog X.w H' h') (hg : AllBare g') :
    Inv X pins σ H' { s with heap := h', gens := g', drawn := d', toks := t' } := by
  have neL : ∀ b o, X.s₀.heap.get? b = some o -> b ≠ X.env.locals := fun b o e => Nat.ne_of_lt (Nat.lt_of_lt_of_le (Heap.lt_size e) I.ok.above)
  have neC : ∀ b o, X.s₀.heap.get? b = some o -> b ∉ X.ex -> b ∉ ch := fun b o e hx hb => by
    rcases (hch b hb).1 with z | z
    · exact hx z
    · exact absurd (Nat.lt_of_lt_of_le (Heap.lt_size e) z) (Nat.lt_irrefl _)
  have cellK : ∀ x c, X.env.cells.lookup x = some c -> ∀ v, s.heap.IsCell c v -> h'.IsCell c v := fun x c e v ⟨o, ho, hd⟩ => by
    have nch : c ∉ ch := fun z => (hch c z).2.2.1 x c e rfl
    by_cases hc : c ∈ X.fs
    · obtain ⟨sl, q⟩ := slot c o (I.cne x c e) hc nch ho (I.freeC x c e)
      exact ⟨_, q, hd⟩
    · exact ⟨o, keep c o (I.cne x c e) hc nch ho (I.freeC x c e), hd⟩
  refine ⟨I.ok, I.os, hg, ⟨fun b o e n hb hx => ?_, fun b o e n hb hx => ?_, fun b o e n hx => ?_, fun b o e hx => ?_, fun b xs e => tups b xs (I.base.tups b xs e), fun b o xs e => frzs b o xs (I.base.frzs b o xs e), fun b ps e => ?_⟩, ?_, fun x c e => ?_, ?_, fun x c e => ?_, fun p hp => ?_, hok, I.len⟩
  · exact keep b o (neL b o e) hb (neC b o e hx) (I.base.keep b o e n hb hx) (I.base.free b o e n hx)
  · obtain ⟨sl, e1⟩ := I.base.slot b o e n hb hx
    obtain ⟨sl', e2⟩ := slot b _ (neL b o e) hb (neC b o e hx) e1 (I.base.free b o e n hx)
    exact ⟨sl', e2⟩
  · obtain ⟨o', e1⟩ := I.base.there b o e hx
    exact free b o' (neC b o e hx) e1 (I.base.free b o e n hx)
  · obtain ⟨o', e1⟩ := I.base.there b o e hx
    exact there b o' (neC b o e hx) e1
  · obtain ⟨m1, e1⟩ := I.base.tbls b ps e
    obtain ⟨m2, e2⟩ := tbls b _ e1
    exact ⟨m1 ++ m2, by rw [e2, Array.append_assoc]⟩
  · obtain ⟨m, hn, hl⟩ := I.loc
    refine ⟨m, ns m hn, fun i x v e1 e2 e3 => ?_⟩
    obtain ⟨u, r, l⟩ := hl i x v e1 e2 e3
    refine ⟨u, r, ?_⟩
    rcases l with l | ⟨k, c, e, z⟩
    · exact .inl l
    · exact .inr ⟨k, c, e, cellK x c e _ z⟩
  · obtain ⟨v, z⟩ := I.cell x c e
    exact ⟨v, cellK x c e v z⟩
  · obtain ⟨m, ⟨o, _, _, ho, _⟩, _⟩ := I.loc
    exact free _ o (fun z => (hch _ z).2.1 rfl) ho I.free
  · obtain ⟨v, o, ho, hd⟩ := I.cell x c e
    exact free c o (fun z => (hch c z).2.2.1 x c e rfl) ho (I.freeC x c e)
  · obtain ⟨e, n, ne, nf, d⟩ := I.pin p hp
    have nch : p.1 ∉ ch := fun z => (hch p.1 z).2.2.2 p hp rfl
    exact ⟨keep p.1 p.2 ne nf nch e n, free p.1 p.2 nch e n, ne, nf, d⟩
theorem Inv.un {t' : Nat} (I : Inv X pins σ H s) (u : Un X.fs [] H H' s.heap h') (hok : HOk X.prog X.w H' h') : Inv X pins σ H' { s with heap := h', toks := t' } := by
  obtain ⟨m, ⟨o, es, ep, ho, r⟩, _⟩ := id I.loc
  obtain ⟨sl, hL⟩ := u.any ho I.free (by simp)
  exact I.step (g' := s.gens) (d' := s.drawn) (ch := []) (fun _ z => nomatch z) (fun b o _ hb _ e n => u.keep b o e n hb (by simp)) (fun b o _ hb _ e n => u.slot b o e n hb (by simp)) (fun b o _ e n => u.free b o e n (by simp)) (fun b o _ e => u.there b o e (by simp)) u.tups u.frzs u.tbls (fun m' hm => by
    obtain ⟨o', es', ep', ho', r'⟩ := hm
    rw [ho] at ho'; cases ho'
    exact ⟨_, es', ep', hL, r'⟩) hok I.bare
theorem Inv.call {g' : Array GenState} {t' : Nat} {d' : Drawn} {ch : List Addr} (I : Inv X pins σ H s) (u : Un (frs X.stack) ch H H' s.heap h') (hok : HOk X.prog X.w H' h') (hg : AllBare g')
    (hch : ∀ b ∈ ch, (b ∈ X.ex \/ X.s₀.heap.objs.size <= b) /\ b ≠ X.env.locals /\ (∀ x c, X.env.cells.lookup x = some c -> c ≠ b) /\ ∀ p ∈ X.pn ++ pins, p.1 ≠ b) :
    Inv X pins σ H' { s with heap := h', gens := g', drawn := d', toks := t' } := by
  obtain ⟨m, ⟨o, es, ep, ho, r⟩, _⟩ := id I.loc
  obtain ⟨sl, hL⟩ := u.any ho I.free fun z => (hch _ z).2.1 rfl
  exact I.step (ch := ch) hch (fun b o hL hb hc e n => u.keep b o e n (fun z => (List.mem_cons.mp (I.stkSub b z)).elim hL hb) hc) (fun b o _ _ hc e n => u.any e n hc) (fun b o hc e n => u.free b o e n hc) (fun b o hc e => u.there b o e hc) u.tups u.frzs u.tbls (fun m' hm => by
    obtain ⟨o', es', ep', ho', r'⟩ := hm
    rw [ho] at ho'; cases ho'
    exact ⟨_, es', ep', hL, r'⟩) hok hg
theorem Inv.turned {t' : Nat} {it : Addr} (I : Inv X pins σ H s) (k : ∀ b o, b ≠ it -> s.heap.get? b = some o -> h'.get? b = some o) (hn : H it = none) (hL : it ≠ X.env.locals)
    (h1 : it ∈ X.ex \/ X.s₀.heap.objs.size <= it) (h2 : ∀ x c, X.env.cells.lookup x = some c -> c ≠ it) (h3 : ∀ p ∈ X.pn ++ pins, p.1 ≠ it) : Inv X pins σ H { s with heap := h', toks := t' } := by
  have nit : ∀ b u, H b = some u -> b ≠ it := fun b u e z => by rw [z, hn] at e; cases e
  refine I.step (g' := s.gens) (d' := s.drawn) (ch := [it]) (fun b hb => ?_) (fun b o _ _ hc e _ => k b o (fun z => hc (by simp [z])) e) (fun b o _ _ hc e _ => ⟨o.slots, k b o (fun z => hc (by simp [z])) e⟩) (fun _ _ _ _ n => n)
    (fun b o hc e => ⟨o, k b o (fun z => hc (by simp [z])) e⟩) (fun _ _ e => e) (fun _ _ _ e => e) (fun b ps e => ⟨#[], by rw [e]; simp⟩) (fun m hm => ?_) (fun b u e => ?_) I.bare
  · have e : b = it := by simpa using hb
    subst e
    exact ⟨h1, hL, h2, h3⟩
  · obtain ⟨o, es, ep, ho, r⟩ := hm
    exact ⟨o, es, ep, k _ o (Ne.symm hL) ho, r⟩
  · refine (I.hok b u e).stay (fun c v hc q => k c v ?_ q) (fun _ q => q) fun _ _ q => q
    rcases hc with z | z
    · rw [z]; exact nit b u e
    · exact nit c _ z
theorem Inv.tok (I : Inv X pins σ H s) (t : Nat) : Inv X pins σ H { s with toks := t } := I.un (h' := s.heap) (t' := t) Un.refl I.hok
theorem Inv.kept {t' : Nat} (I : Inv X pins σ H s) (k : ∀ b u, s.heap.get? b = some u -> h'.get? b = some u) : Inv X pins σ H { s with heap := h', toks := t' } := I.un (Un.kept k) (I.hok.kept k)
theorem Inv.laid {a : Addr} {o : HO} {t' : Nat} (I : Inv X pins σ H s) (k : ∀ b u, s.heap.get? b = some u -> h'.get? b = some u) (hp : s.heap.objs.size <= a) (new : ObjOk X.prog X.w (upd H a o) h' a o) :
    Inv X pins σ (upd H a o) { s with heap := h', toks := t' } := I.un (Un.laid k hp (I.hok.fresh hp)) (I.hok.laid k hp new)
theorem Inv.write {x e : Addr} {o : HO} {t' : Nat} (I : Inv X pins σ H s) (mu : Mut (H x)) (he : e = x \/ H e = some (.own x)) (k : ∀ b u, b ≠ e -> s.heap.get? b = some u -> h'.get? b = some u) (heo : ∃ u, h'.get? e = some u)
    (new : ObjOk X.prog X.w (upd H x o) h' x o) : Inv X pins σ (upd H x o) { s with heap := h', toks := t' } := I.un (Un.write mu he k heo) (I.hok.write mu he k heo new)
theorem Inv.weak {σ' : List (Option V)} (I : Inv X pins σ H s) (hl : σ'.length = σ.length) (w : ∀ (i : Nat) v, σ'[i]? = some (some v) -> σ[i]? = some (some v)) : Inv X pins σ' H s :=
  ⟨I.ok, I.os, I.bare, I.base, let ⟨m, hn, hl'⟩ := I.loc; ⟨m, hn, fun i x v e1 e2 e3 => hl' i x v e1 (w i v e2) e3⟩, I.cell, I.free, I.freeC, I.pin, I.hok, hl.trans I.len⟩
theorem Inv.pins_of {pins' : List (Addr × Obj)} (I : Inv X pins σ H s) (h : ∀ p ∈ pins', s.heap.get? p.1 = some p.2 /\ H p.1 = none /\ p.1 ≠ X.env.locals /\ p.1 ∉ X.fs /\ ∀ v, p.2.data ≠ .cell v) : Inv X pins' σ H s :=
  ⟨I.ok, I.os, I.bare, I.base, I.loc, I.cell, I.free, I.freeC, fun p hp => (List.mem_append.mp hp).elim (fun z => I.pin p (List.mem_append_left _ z)) (h p), I.hok, I.len⟩
theorem nodup_ix {N : List Str} (hN : N.Nodup) {i j : Nat} {x : Str} (a : N[i]? = some x) (b : N[j]? = some x) : i = j := by
  obtain ⟨h1, e1⟩ := List.getElem?_eq_some_iff.mp a
  obtain ⟨h2, e2⟩ := List.getElem?_eq_some_iff.mp b
  exact (List.getElem_inj hN).mp (e1.trans e2.symm)
theorem store_ok2 {M : Model} {A : Around} {E : Value -> Shared -> Prop} {i : Nat} {x : Str} {v : V} {u : Value} {Q : Unit -> Shared -> Prop} (I : Inv X pins σ H s) (hN : X.N.Nodup) (hi : X.N[i]? = some x) (hx : Loc X.env.scope x) (r : RelV v u)
    (h : ∀ s', Inv X pins (σ.set i (some v)) H s' -> (∃ a, Heap.SameBut a s.heap s'.heap /\ (a = X.env.locals \/ X.env.cells.lookup x = some a)) -> Q () s') (hf : X.fn x = true \/ X.env.scope.names.lookup x = some .local := by first | exact .inl rfl | exact .inr rfl | assumption) : wpAny M A (storeName X.env x u) Q E s := by
  obtain ⟨m, hn, hl⟩ := id I.loc
  have hcls : (X.env.scope.kind == .class || (X.env.scope.kind == .module && X.env.locals != X.env.globals)) = false := by rw [I.ok.kind]; rfl
  have hiσ : i < σ.length := by rw [I.len]; exact (List.getElem?_eq_some_iff.mp hi).1
  have cne := I.cne
  have tracked : ∀ {a : Addr} {h' : Heap}, (∃ o, s.heap.get? a = some o /\ H a = none) -> Heap.SameBut a s.heap h' -> HOk X.prog X.w H h' := fun {a h'} ha hs b ob e => by
    obtain ⟨_, _, hfree⟩ := ha
    refine (I.hok b ob e).stay (fun c w' hc q => (hs.2 c ?_).trans q) (fun _ q => q) fun _ _ q => q
    rintro rfl
    rcases hc with rfl | hc
    · rw [hfree] at e; cases e
    · rw [hfree] at hc; cases hc
  rcases hx with hk | hk
  · refine wpAny_storeName_local hk hn (fun h' hn' hs => ?_) hcls
    obtain ⟨oL, _, _, hoL, _⟩ := id hn
    refine h _ ⟨I.ok, I.os, I.bare, ⟨fun b o e n hb hx => ?_, fun b o e n hb hx => ?_, I.base.free, fun b o e hx => ?_, I.base.tups, I.base.frzs, I.base.tbls⟩, ⟨_, hn', fun j y v' e1 e2 e3 => ?_⟩, fun y c e => ?_, I.free, I.freeC, fun p hp => ?_, tracked ⟨oL, hoL, I.free⟩ hs, by simpa using I.len⟩ ⟨_, hs, .inl rfl⟩
    · exact (hs.2 b (Nat.ne_of_lt (Nat.lt_of_lt_of_le (Heap.lt_size e) I.ok.above))).trans (I.base.keep b o e n hb hx)
    · obtain ⟨sl, e1⟩ := I.base.slot b o e n hb hx
      exact ⟨sl, (hs.2 b (Nat.ne_of_lt (Nat.lt_of_lt_of_le (Heap.lt_size e) I.ok.above))).trans e1⟩
    · obtain ⟨o', e1⟩ := I.base.there b o e hx
      exact ⟨o', (hs.2 b (Nat.ne_of_lt (Nat.lt_of_lt_of_le (Heap.lt_size e) I.ok.above))).trans e1⟩
    · by_cases hj : j = i
      · subst hj
        rw [hi] at e1; cases e1
        rw [List.getElem?_set_self hiσ] at e2
        cases e2
        exact ⟨u, r, .inl ⟨hk, by simp⟩⟩
      · rw [List.getElem?_set_ne (Ne.symm hj)] at e2
        obtain ⟨u', r', q⟩ := hl j y v' e1 e2 e3
        refine ⟨u', r', ?_⟩
        rcases q with ⟨k, e⟩ | ⟨k, c, e, z⟩
        · refine .inl ⟨k, ?_⟩
          have : y ≠ x := fun e => hj (nodup_ix hN e1 (e ▸ hi))
          simp [this, e]
        · exact .inr ⟨k, c, e, z.sameBut hs (cne y c e)⟩
    · obtain ⟨w', z⟩ := I.cell y c e
      exact ⟨w', z.sameBut hs (cne y c e)⟩
    · obtain ⟨e, n, ne, nf, d⟩ := I.pin p hp
      exact ⟨(hs.2 p.1 ne).trans e, n, ne, nf, d⟩
  · have hfn : X.fn x = true := by
      rcases hf with z | z
      · exact z
      · rw [z] at hk; cases hk
    obtain ⟨c, hc⟩ := I.ok.has x (.inl hk)
    obtain ⟨w', z⟩ := I.cell x c hc
    refine wpAny_storeName_cell I.ok.kind hk hc z (fun h' hc' hs => ?_)
    obtain ⟨oc, hoc, hocd⟩ := id z
    refine h { s with heap := h' } ⟨I.ok, I.os, I.bare, ⟨fun b o e n hb hx => ?_, fun b o e n hb hx => ?_, I.base.free, fun b o e hx => ?_, I.base.tups, I.base.frzs, I.base.tbls⟩, ⟨m, hn.sameBut hs (Ne.symm (cne x c hc)), fun j y v' e1 e2 e3 => ?_⟩, fun y c' e => ?_, I.free, I.freeC, fun p hp => ?_, tracked ⟨oc, hoc, I.freeC x c hc⟩ hs, by simpa using I.len⟩ ⟨c, hs, .inr hc⟩
    · exact (hs.2 b (Nat.ne_of_lt (Nat.lt_of_lt_of_le (Heap.lt_size e) (I.ok.cab x c hfn hc)))).trans (I.base.keep b o e n hb hx)
    · obtain ⟨sl, e1⟩ := I.base.slot b o e n hb hx
      exact ⟨sl, (hs.2 b (Nat.ne_of_lt (Nat.lt_of_lt_of_le (Heap.lt_size e) (I.ok.cab x c hfn hc)))).trans e1⟩
    · obtain ⟨o', e1⟩ := I.base.there b o e hx
      exact ⟨o', (hs.2 b (Nat.ne_of_lt (Nat.lt_of_lt_of_le (Heap.lt_size e) (I.ok.cab x c hfn hc)))).trans e1⟩
    · by_cases hj : j = i
      · subst hj
        rw [hi] at e1; cases e1
        rw [List.getElem?_set_self hiσ] at e2
        cases e2
        exact ⟨u, r, .inr ⟨.inl hk, c, hc, hc'⟩⟩
      · rw [List.getElem?_set_ne (Ne.symm hj)] at e2
        obtain ⟨u', r', q⟩ := hl j y v' e1 e2 e3
        refine ⟨u', r', ?_⟩
        rcases q with q | ⟨k, c', e, z'⟩
        · exact .inl q
        · refine .inr ⟨k, c', e, z'.sameBut hs ?_⟩
          rintro rfl
          exact hj (nodup_ix hN e1 (I.ok.inj _ _ _ e hc ▸ hi))
    · by_cases hcc : c' = c
      · subst hcc; exact ⟨_, hc'⟩
      · obtain ⟨w2, z2⟩ := I.cell y c' e
        exact ⟨w2, z2.sameBut hs hcc⟩
    · obtain ⟨e, n, ne, nf, d⟩ := I.pin p hp
      refine ⟨(hs.2 p.1 ?_).trans e, n, ne, nf, d⟩
      intro q
      rw [q, hoc] at e
      have q' : oc = p.2 := Option.some.inj e
      exact d w' (by rw [← q']; exact hocd)
theorem store_ok {M : Model} {A : Around} {E : Value -> Shared -> Prop} {i : Nat} {x : Str} {v : V} {u : Value} {Q : Unit -> Shared -> Prop} (I : Inv X pins σ H s) (hN : X.N.Nodup) (hi : X.N[i]? = some x) (hx : Loc X.env.scope x) (r : RelV v u)
    (h : ∀ s', Inv X pins (σ.set i (some v)) H s' -> Q () s') (hf : X.fn x = true \/ X.env.scope.names.lookup x = some .local := by first | exact .inl rfl | exact .inr rfl | assumption) : wpAny M A (storeName X.env x u) Q E s :=
  store_ok2 I hN hi hx r (fun s' I' _ => h s' I') hf
theorem Inv.call' {s' : Shared} {ch : List Addr} (I : Inv X pins σ H s) (ho : s'.os = s.os) (u : Un (frs X.stack) ch H H' s.heap s'.heap) (hok : HOk X.prog X.w H' s'.heap) (hg : AllBare s'.gens)
    (hch : ∀ b ∈ ch, (b ∈ X.ex \/ X.s₀.heap.objs.size <= b) /\ b ≠ X.env.locals /\ (∀ x c, X.env.cells.lookup x = some c -> c ≠ b) /\ ∀ p ∈ X.pn ++ pins, p.1 ≠ b) : Inv X pins σ H' s' := by
  obtain ⟨h', g', d', t', o'⟩ := s'
  have e : o' = s.os := ho
  subst e
  exact I.call (g' := g') (t' := t') (d' := d') u hok hg hch
end
noncomputable abbrev XK := Value -> Option Addr -> Hp -> Prop
noncomputable abbrev St := List (Option V)
noncomputable abbrev VK := V -> Hp -> Prop
noncomputable abbrev TE := St -> Hp -> VK -> Prop
noncomputable abbrev TT := St -> Hp -> (Bool -> Hp -> Prop) -> Prop
noncomputable abbrev TA := St -> Hp -> (List V -> Hp -> Prop) -> Prop
structure Ends where
  nx : St -> Hp -> Prop
  rt : VK
  bk : St -> Hp -> Prop := fun _ _ => False
  ct : St -> Hp -> Prop := fun _ _ => False
noncomputable abbrev TS := Ends -> St -> Hp -> Prop
noncomputable def EP (X : Cx) (pins : List (Addr × Obj)) (σ : St) (Q : VK) (u : Value) (s' : Shared) : Prop := ∃ v H', Inv X pins σ H' s' /\ RelV v u /\ Q v H'
noncomputable def TP (X : Cx) (pins : List (Addr × Obj)) (σ : St) (Q : Bool -> Hp -> Prop) (b : Bool) (s' : Shared) : Prop := ∃ H', Inv X pins σ H' s' /\ Q b H'
noncomputable def AP (X : Cx) (pins : List (Addr × Obj)) (σ : St) (Q : List V -> Hp -> Prop) (us : List Value) (s' : Shared) : Prop := ∃ vs H', Inv X pins σ H' s' /\ Vals vs us /\ Q vs H'
noncomputable def SP (X : Cx) (pins : List (Addr × Obj)) (D : Ends) (f : Flow) (s' : Shared) : Prop :=
  match f with
  | .next => ∃ σ' H', Inv X pins σ' H' s' /\ D.nx σ' H'
  | .brk => ∃ σ' H', Inv X pins σ' H' s' /\ D.bk σ' H'
  | .cont => ∃ σ' H', Inv X pins σ' H' s' /\ D.ct σ' H'
  | .ret u => ∃ v σ' H', Inv X pins σ' H' s' /\ RelV v u /\ D.rt v H'
noncomputable def PE (X : Cx) (e : Expr) (t : TE) : Prop :=
  ∀ (pins : List (Addr × Obj)) (s : Shared) (σ : St) (H : Hp) (Q : VK), Inv X pins σ H s -> t σ H Q -> wpAny (model X.prog X.w) X.A (eval e X.env) (EP X pins σ Q) X.xe s
noncomputable def PT (X : Cx) (e : Expr) (t : TT) : Prop :=
  ∀ (pins : List (Addr × Obj)) (s : Shared) (σ : St) (H : Hp) (Q : Bool -> Hp -> Prop), Inv X pins σ H s -> t σ H Q -> wpAny (model X.prog X.w) X.A (isTrue e X.env (eval e X.env)) (TP X pins σ Q) X.xe s
noncomputable def PW (X : Cx) (e : Expr) (t : TT) : Prop :=
  ∀ (whole : Sem Value) (pins : List (Addr × Obj)) (s : Shared) (σ : St) (H : Hp) (Q : Bool -> Hp -> Prop), Inv X pins σ H s -> t σ H Q -> wpAny (model X.prog X.w) X.A (isTrue e X.env whole) (TP X pins σ Q) X.xe s
theorem PW.pt {X : Cx} {e : Expr} {t : TT} (h : PW X e t) : PT X e t := h _
noncomputable def PA (X : Cx) (es : List Expr) (t : TA) : Prop :=
  ∀ (pos : Pos) (pins : List (Addr × Obj)) (s : Shared) (σ : St) (H : Hp) (Q : List V -> Hp -> Prop), Inv X pins σ H s -> t σ H Q -> wpAny (model X.prog X.w) X.A (spliced (backTo pos (starEach es X.env))) (AP X pins σ Q) X.xe s
noncomputable def PS (X : Cx) (st : Stmt) (t : TS) : Prop :=
  ∀ (pins : List (Addr × Obj)) (s : Shared) (σ : St) (H : Hp) (D : Ends), Inv X pins σ H s -> t D σ H -> wpAny (model X.prog X.w) X.A (exec st X.env) (SP X pins D) X.xe s
noncomputable def PSs (X : Cx) (st : List Stmt) (t : TS) : Prop :=
  ∀ (pins : List (Addr × Obj)) (s : Shared) (σ : St) (H : Hp) (D : Ends), Inv X pins σ H s -> t D σ H -> wpAny (model X.prog X.w) X.A (execs st X.env) (SP X pins D) X.xe s
theorem thn {α : Type} {t : Sem α} {Q Q' : α -> Shared -> Prop} {M : Model} {A : Around} {E : Value -> Shared -> Prop} {s : Shared} (h : wpAny M A t Q E s) (hQ : ∀ a s, Q a s -> Q' a s) : wpAny M A t Q' E s := wpAny_mono h hQ fun _ _ x => x
end L2
namespace L2
open PySem PySem.Spec PyProof.Rows
section
variable {X : Cx}
noncomputable def tVar (i : Nat) : TE := fun σ H Q => ∃ v, σ[i]? = some (some v) /\ Q v H
noncomputable def tC (v : V) : TE := fun _ H Q => Q v H
theorem pe_var {i : Nat} {x : Str} {pos : Pos} (hN : X.N[i]? = some x) (hv : Vis X.env.scope x) (hd : (x == ("__debug__" : Str)) = false := by decide) (hcd : (x == ("__classdict__" : Str)) = false := by decide) : PE X (.Name x pos) (tVar i) := by
  intro pins s σ H Q I h
  obtain ⟨v, e, h⟩ := h
  obtain ⟨m, hn, hl⟩ := I.loc
  obtain ⟨u, r, l⟩ := hl i x v hN e hv
  have fin : EP X pins σ Q u s := ⟨v, H, I, r, h⟩
  rcases l with ⟨hk, hm⟩ | ⟨hk, c, hc, hcell⟩
  · exact wpAny_Name (wpAny_loadName_local I.ok.kind hk hn hm fin) hd
  · rcases hk with hk | hk
    · exact wpAny_Name (wpAny_loadName_cell I.ok.kind hk hc hcell fin) hd
    · exact wpAny_Name (wpAny_loadName_free I.ok.kind hk hc hcell fin hcd) hd
theorem pe_int {i j pos} : PE X (.Constant (.int i) j pos) (tC (.int i)) := fun _ _ _ H _ I h => wpAny_Constant_int ⟨.int i, H, I.tok _, ⟨_, rfl⟩, h⟩
theorem pe_bl {b j pos} : PE X (.Constant (.bool b) j pos) (tC (.bl b)) := fun _ _ _ H _ I h => Constant_bool ⟨.bl b, H, I, rfl, h⟩
theorem pe_non {j pos} : PE X (.Constant .none j pos) (tC .non) := fun _ _ _ H _ I h => Constant_none ⟨.non, H, I, rfl, h⟩
theorem pe_str {x j pos} : PE X (.Constant (.str x) j pos) (tC (.str x)) := fun _ _ _ H _ I h => Calls.Constant_str ⟨.str x, H, I.tok _, ⟨_, rfl⟩, h⟩
noncomputable def Gl (X : Cx) (x : Str) : Prop := X.env.kindOf x = some .globalImplicit
theorem ld_glob {E : Value -> Shared -> Prop} {pins : List (Addr × Obj)} {s : Shared} {σ : St} {H : Hp} {x : Str} {u : Value} {pos : Pos} {Q : Value -> Shared -> Prop} (I : Inv X pins σ H s) (hg : Gl X x) (hm : X.mg x = some u) (h : Q u s)
    (hd : (x == ("__debug__" : Str)) = false := by decide) : wpAny (model X.prog X.w) X.A (eval (.Name x pos) X.env) Q E s :=
  Calls.Name_function_global I.ok.kind hg (Calls.loadGlobal_global (by rw [I.ok.glob]; exact I.mod.glob.keeps I.bk) hm h) hd
theorem ld_blt {E : Value -> Shared -> Prop} {pins : List (Addr × Obj)} {s : Shared} {σ : St} {H : Hp} {x : Str} {u : Value} {pos : Pos} {Q : Value -> Shared -> Prop} (I : Inv X pins σ H s) (hg : Gl X x) (hm : X.mg x = none) (hv : bootBuiltins x = some u) (h : Q u s)
    (hn : x ≠ "__name__" := by decide) (hd : (x == ("__debug__" : Str)) = false := by decide) : wpAny (model X.prog X.w) X.A (eval (.Name x pos) X.env) Q E s := by
  obtain ⟨mb, h1, h2⟩ := I.mod.blt
  exact Calls.Name_function_global I.ok.kind hg (Calls.loadGlobal_builtin (by rw [I.ok.glob]; exact I.mod.glob.keeps I.bk) hm (by rw [I.ok.blt]; exact h1.keeps I.bk) ((h2 x hn).trans hv) h) hd
theorem pe_glob {x : Str} {v : V} {u : Value} {pos : Pos} (hg : Gl X x) (hm : X.mg x = some u) (r : RelV v u) (hd : (x == ("__debug__" : Str)) = false := by decide) : PE X (.Name x pos) (tC v) :=
  fun _ _ _ H _ I h => ld_glob I hg hm ⟨v, H, I, r, h⟩ hd
theorem pe_bltn {x : Str} {v : V} {u : Value} {pos : Pos} (hg : Gl X x) (hm : X.mg x = none) (hv : bootBuiltins x = some u) (r : RelV v u) (hn : x ≠ "__name__" := by decide) (hd : (x == ("__debug__" : Str)) = false := by decide) : PE X (.Name x pos) (tC v) :=
  fun _ _ _ H _ I h => ld_blt I hg hm hv ⟨v, H, I, r, h⟩ hn hd
variable {a b : Expr} {ta tb : TE} {pos : Pos}
noncomputable def tB (t : TE) : TT := fun σ H Q => t σ H fun x H1 => ∃ c, x = .bl c /\ Q c H1
variable {tA tB' : TT} {rest : List Expr}
noncomputable def tAnd (t u : TT) : TT := fun σ H Q => t σ H fun c H1 => if c = true then u σ H1 Q else Q false H1
noncomputable def tOr (t u : TT) : TT := fun σ H Q => t σ H fun c H1 => if c = true then Q true H1 else u σ H1 Q
noncomputable def tNot (t : TT) : TT := fun σ H Q => t σ H fun c H1 => Q (!c) H1
theorem pw_and1 (ha : PT X a tA) : PW X (.BoolOp .And [a] pos) tA := by
  intro wh pins s σ H Q I h
  refine isTrue_and (thn (ha pins s σ H Q I h) fun c s1 e => ?_)
  cases c with
  | true => exact isTrue_and_nil e
  | false => exact e
theorem pw_or1 (ha : PT X a tA) : PW X (.BoolOp .Or [a] pos) tA := by
  intro wh pins s σ H Q I h
  refine isTrue_or (thn (ha pins s σ H Q I h) fun c s1 e => ?_)
  cases c with
  | false => exact isTrue_or_nil e
  | true => exact e
theorem pw_and (ha : PT X a tA) (hb : PW X (.BoolOp .And (b :: rest) pos) tB') : PW X (.BoolOp .And (a :: b :: rest) pos) (tAnd tA tB') := by
  intro wh pins s σ H Q I h
  refine isTrue_and (thn (ha pins s σ H _ I h) fun c s1 ⟨H1, I1, q1⟩ => ?_)
  cases c with
  | true => exact hb wh pins s1 σ H1 Q I1 q1
  | false => exact ⟨H1, I1, q1⟩
theorem pw_or (ha : PT X a tA) (hb : PW X (.BoolOp .Or (b :: rest) pos) tB') : PW X (.BoolOp .Or (a :: b :: rest) pos) (tOr tA tB') := by
  intro wh pins s σ H Q I h
  refine isTrue_or (thn (ha pins s σ H _ I h) fun c s1 ⟨H1, I1, q1⟩ => ?_)
  cases c with
  | true => exact ⟨H1, I1, q1⟩
  | false => exact hb wh pins s1 σ H1 Q I1 q1
theorem pt_not (ha : PT X a tA) : PT X (.UnaryOp .Not a pos) (tNot tA) := by
  intro pins s σ H Q I h
  exact isTrue_not (ha pins s σ H (fun c H1 => Q (!c) H1) I h)
noncomputable def tAndV (ta tb : TE) : TE := fun σ H Q => ta σ H fun x H1 => ∃ c, x = .bl c /\ if c = true then tb σ H1 Q else Q (.bl false) H1
noncomputable def tOrV (ta tb : TE) : TE := fun σ H Q => ta σ H fun x H1 => ∃ c, x = .bl c /\ if c = true then Q (.bl true) H1 else tb σ H1 Q
noncomputable def tNotV (ta : TE) : TE := fun σ H Q => ta σ H fun x H1 => ∃ c, x = .bl c /\ Q (.bl (!c)) H1
theorem pe_one {op} {t : TE} (h : PE X a t) : PE X (.BoolOp op [a] pos) t := fun pins s σ H Q I hw => BoolOp_one (h pins s σ H Q I hw)
theorem pe_and (ha : PE X a ta) (hb : PE X (.BoolOp .And (b :: rest) pos) tb) : PE X (.BoolOp .And (a :: b :: rest) pos) (tAndV ta tb) := by
  intro pins s σ H Q I h
  refine BoolOp_and (thn (ha pins s σ H _ I h) fun v s1 ⟨x, H1, I1, r1, q1⟩ => ?_)
  obtain ⟨c, rfl, q1⟩ := q1
  cases r1
  refine wpAny_truthy_bool ?_
  cases c with
  | true => exact hb pins s1 σ H1 Q I1 q1
  | false => exact ⟨.bl false, H1, I1, rfl, q1⟩
theorem pe_or (ha : PE X a ta) (hb : PE X (.BoolOp .Or (b :: rest) pos) tb) : PE X (.BoolOp .Or (a :: b :: rest) pos) (tOrV ta tb) := by
  intro pins s σ H Q I h
  refine BoolOp_or (thn (ha pins s σ H _ I h) fun v s1 ⟨x, H1, I1, r1, q1⟩ => ?_)
  obtain ⟨c, rfl, q1⟩ := q1
  cases r1
  refine wpAny_truthy_bool ?_
  cases c with
  | false => exact hb pins s1 σ H1 Q I1 q1
  | true => exact ⟨.bl true, H1, I1, rfl, q1⟩
theorem pe_not (ha : PE X a ta) : PE X (.UnaryOp .Not a pos) (tNotV ta) := by
  intro pins s σ H Q I h
  refine UnaryOp_ (thn (ha pins s σ H _ I h) fun v s1 ⟨x, H1, I1, r1, q1⟩ => ?_)
  obtain ⟨c, rfl, q1⟩ := q1
  cases r1
  exact not_of (wpAny_truthy_bool ⟨.bl (!c), H1, I1, rfl, q1⟩)
noncomputable def tIf (t : TT) (ta tb : TE) : TE := fun σ H Q => t σ H fun c H1 => if c = true then ta σ H1 Q else tb σ H1 Q
theorem pe_ifExp {c : Expr} (hc : PT X c tA) (ha : PE X a ta) (hb : PE X b tb) : PE X (.IfExp c a b pos) (tIf tA ta tb) := by
  intro pins s σ H Q I h
  refine wpAny_IfExp (thn (hc pins s σ H _ I h) fun d s1 ⟨H1, I1, q1⟩ => ?_)
  cases d with
  | true => exact ha pins s1 σ H1 Q I1 q1
  | false => exact hb pins s1 σ H1 Q I1 q1
end
end L2
namespace L2
open PySem PySem.Spec PyProof.Rows
noncomputable def SqL (K : PySem.W.Frag) (H : Hp) (a : Addr) (xs : List V) : Prop :=
  Rd H a (.lst xs) \/
    ∃ (o : Obj) (its : Array Value) (n : Nat), K.lookup a = some o /\ o.cls = .type "list" /\ o.dict = none /\ o.data = .seq its n /\ its.size <= sizeLine /\ Vals xs its.toList
noncomputable def SqT (K : PySem.W.Frag) (H : Hp) (a : Addr) (xs : List V) : Prop :=
  Rd H a (.tup xs) \/
    ∃ (o : Obj) (its : Array Value) (n : Nat), K.lookup a = some o /\ o.cls = .type "tuple" /\ o.data = .seq its n /\ its.size <= sizeLine /\ Vals xs its.toList
noncomputable def absV : Value -> Option V
  | .none => some .non
  | .bool b => some (.bl b)
  | .int i _ => some (.int i)
  | .str x _ => some (.str x)
  | .bytes b _ => some (.byt b)
  | .float b _ => some (.flt b)
  | .ref a => some (.ref a)
  | .type n => some (.ty n)
  | _ => none
theorem RelV.abs {x : V} {u : Value} (r : RelV x u) : absV u = some x := by
  cases x with
  | non => cases r; rfl
  | bl _ => cases r; rfl
  | int _ => obtain ⟨t, rfl⟩ := r; rfl
  | str _ => obtain ⟨t, rfl⟩ := r; rfl
  | byt _ => obtain ⟨t, rfl⟩ := r; rfl
  | flt _ => obtain ⟨t, rfl⟩ := r; rfl
  | ref _ => cases r; rfl
  | ty _ => cases r; rfl
theorem RelV.inj {x y : V} {u : Value} (r : RelV x u) (q : RelV y u) : x = y := Option.some.inj (r.abs.symm.trans q.abs)
theorem Vals.inj : ∀ {xs ys : List V} {us : List Value}, Vals xs us -> Vals ys us -> xs = ys
  | _, _, _, .nil, .nil => rfl
  | _, _, _, .cons r t, .cons r' t' => by rw [r.inj r', Vals.inj t t']
section
variable {X : Cx} {pins : List (Addr × Obj)} {σ : St} {H : Hp} {s : Shared} {a : Addr} {xs ys : List V}
theorem Inv.list (I : Inv X pins σ H s) (h : SqL X.K H a xs) : ∃ its : List Value, Vals xs its /\ PlainL s.heap a its.toArray /\ xs.length <= sizeLine := by
  rcases h with h | ⟨o, its, n, hk, hc, hd, hs, hz, r⟩
  · obtain ⟨z, its, n, r, e⟩ := h.ok I.hok
    exact ⟨its, r, ⟨_, n, e, rfl, rfl, rfl⟩, z⟩
  · refine ⟨its.toList, r, ⟨o, n, I.kIn a o hk, hc, hd, by simpa using hs⟩, ?_⟩
    have e := r.length
    simp only [Array.length_toList] at e
    omega
theorem Inv.tuple (I : Inv X pins σ H s) (h : SqT X.K H a xs) : ∃ its : List Value, Vals xs its /\ IsTup s.heap a its.toArray /\ xs.length <= sizeLine := by
  rcases h with h | ⟨o, its, n, hk, hc, hs, hz, r⟩
  · obtain ⟨z, its, r, p⟩ := h.ok I.hok
    exact ⟨its, r, p, z⟩
  · refine ⟨its.toList, r, ⟨o, I.kIn a o hk, hc, n, by simpa using hs⟩, ?_⟩
    have e := r.length
    simp only [Array.length_toList] at e
    omega
theorem Inv.list_inj (I : Inv X pins σ H s) (h : SqL X.K H a xs) (h' : SqL X.K H a ys) : xs = ys := by
  obtain ⟨its, r, ⟨o, n, e, _, _, d⟩, _⟩ := I.list h
  obtain ⟨its', r', ⟨o', n', e', _, _, d'⟩, _⟩ := I.list h'
  rw [e] at e'; cases e'
  rw [d] at d'
  injection d' with d1 _
  have : its = its' := by simpa using congrArg Array.toList d1
  subst this
  exact r.inj r'
theorem Inv.tuple_inj (I : Inv X pins σ H s) (h : SqT X.K H a xs) (h' : SqT X.K H a ys) : xs = ys := by
  obtain ⟨its, r, ⟨o, e, _, n, d⟩, _⟩ := I.tuple h
  obtain ⟨its', r', ⟨o', e', _, n', d'⟩, _⟩ := I.tuple h'
  rw [e] at e'; cases e'
  rw [d] at d'
  injection d' with d1 _
  have : its = its' := by simpa using congrArg Array.toList d1
  subst this
  exact r.inj r'
end
noncomputable abbrev Cx.wish (X : Cx) (E : Value -> Shared -> Prop) : Cx := { X with xe := E }
noncomputable abbrev Cx.nox (X : Cx) : Cx := X.wish fun _ _ => False
theorem Cx.Ok.wish {X : Cx} (ok : X.Ok) (E : Value -> Shared -> Prop) : (X.wish E).Ok :=
  ⟨ok.mod, ok.kind, ok.glob, ok.blt, ok.above, ok.inj, ok.has, ok.cab, ok.hd, ok.frames, ok.stk, ok.exf, ok.bs, ok.bsz, ok.noex, ok.exfs, ok.funs, ok.frf⟩
theorem Cx.Ok.unwish {X : Cx} {E : Value -> Shared -> Prop} (ok : (X.wish E).Ok) : X.Ok :=
  ⟨ok.mod, ok.kind, ok.glob, ok.blt, ok.above, ok.inj, ok.has, ok.cab, ok.hd, ok.frames, ok.stk, ok.exf, ok.bs, ok.bsz, ok.noex, ok.exfs, ok.funs, ok.frf⟩
section
variable {X : Cx} {pins : List (Addr × Obj)} {σ : St} {H : Hp} {s : Shared} {E : Value -> Shared -> Prop}
theorem Inv.wish (I : Inv X pins σ H s) (E : Value -> Shared -> Prop) : Inv (X.wish E) pins σ H s := ⟨I.ok.wish E, I.os, I.bare, I.base, I.loc, I.cell, I.free, I.freeC, I.pin, I.hok, I.len⟩
theorem Inv.unwish (I : Inv (X.wish E) pins σ H s) : Inv X pins σ H s := ⟨I.ok.unwish, I.os, I.bare, I.base, I.loc, I.cell, I.free, I.freeC, I.pin, I.hok, I.len⟩
theorem SP.unwish {D : Ends} {f : Flow} {s' : Shared} (h : SP (X.wish E) pins D f s') : SP X pins D f s' := by
  cases f with
  | next => obtain ⟨σ', H', I, q⟩ := h; exact ⟨σ', H', I.unwish, q⟩
  | brk => obtain ⟨σ', H', I, q⟩ := h; exact ⟨σ', H', I.unwish, q⟩
  | cont => obtain ⟨σ', H', I, q⟩ := h; exact ⟨σ', H', I.unwish, q⟩
  | ret u => obtain ⟨v, σ', H', I, r, q⟩ := h; exact ⟨v, σ', H', I.unwish, r, q⟩
theorem PSs.nox {st : List Stmt} {t : TS} (h : PSs X.nox st t) : PSs X st t := fun pins s σ H D I hw =>
  wpAny_mono (h pins s σ H D (I.wish _) hw) (fun _ _ q => q.unwish) fun _ _ z => False.elim z
end
section
variable {X : Cx} {st : Stmt} {rest : List Stmt} {t u : TS} {e : Expr} {te : TE} {pos : Pos}
noncomputable def tNext : TS := fun D σ H => D.nx σ H
noncomputable def tSeq (t u : TS) : TS := fun D σ H => t { D with nx := u D } σ H
theorem pss_nil : PSs X [] tNext := fun _ _ σ H _ I h => wpAny_execs_nil ⟨σ, H, I, h⟩
theorem pss_cons (h1 : PS X st t) (h2 : PSs X rest u) : PSs X (st :: rest) (tSeq t u) := by
  intro pins s σ H D I h
  refine wpAny_execs_cons (thn (h1 pins s σ H { D with nx := u D } I h) fun f s1 q => ?_)
  cases f with
  | next =>
    obtain ⟨σ', H', I', q⟩ := q
    exact h2 pins s1 σ' H' D I' q
  | ret v => exact q
  | brk => exact q
  | cont => exact q
theorem pss_one (h1 : PS X st t) : PSs X [st] t := by
  intro pins s σ H D I h
  refine wpAny_execs_cons (thn (h1 pins s σ H D I h) fun f s1 q => ?_)
  cases f with
  | next => exact wpAny_execs_nil q
  | ret v => exact q
  | brk => exact q
  | cont => exact q
theorem Inv.quiet {pins : List (Addr × Obj)} {σ : St} {H : Hp} {s : Shared} (I : Inv X pins σ H s) : interactive X.env = false := by simp [interactive, I.ok.kind]
noncomputable def tDrop (te : TE) : TS := fun D σ H => te σ H fun _ H1 => D.nx σ H1
theorem ps_expr (he : PE X e te) (hs : swapsWith e none pos.line X.env = pure false := by rfl) : PS X (.Expr e pos) (tDrop te) := by
  intro pins s σ H D I h
  exact wpAny_Expr_any (thn (he pins s σ H _ I h) fun v s1 ⟨x, H1, I1, r1, q1⟩ => ⟨σ, H1, I1, q1⟩) I.quiet hs
noncomputable def tRet (te : TE) : TS := fun D σ H => te σ H D.rt
theorem ps_ret (he : PE X e te) : PS X (.Return (some e) pos) (tRet te) := by
  intro pins s σ H D I h
  exact wpAny_Return_some (thn (he pins s σ H _ I h) fun v s1 ⟨x, H1, I1, r1, q1⟩ => ⟨x, σ, H1, I1, r1, q1⟩)
noncomputable def tIfS (c : TT) (t u : TS) : TS := fun D σ H => c σ H fun b H1 => if b = true then t D σ H1 else u D σ H1
theorem ps_if {c : Expr} {a b : List Stmt} {tc : TT} (hc : PT X c tc) (ha : PSs X a t) (hb : PSs X b u) : PS X (.If c a b pos) (tIfS tc t u) := by
  intro pins s σ H D I h
  refine wpAny_If (thn (hc pins s σ H _ I h) fun d s1 ⟨H1, I1, q1⟩ => ?_)
  cases d with
  | true => exact ha pins s1 σ H1 D I1 q1
  | false => exact hb pins s1 σ H1 D I1 q1
end
noncomputable abbrev TG := V -> St -> Hp -> (St -> Hp -> Prop) -> Prop
noncomputable def PG (X : Cx) (target : Expr) (t : TG) : Prop :=
  ∀ (pins : List (Addr × Obj)) (s : Shared) (σ : St) (H : Hp) (v : V) (u : Value) (Q : St -> Hp -> Prop), Inv X pins σ H s -> RelV v u -> t v σ H Q ->
    wpAny (model X.prog X.w) X.A (assign target X.env u) (fun _ s' => ∃ σ' H', Inv X pins σ' H' s' /\ Q σ' H') X.xe s
section
variable {X : Cx} {pos : Pos}
noncomputable def gName (i : Nat) : TG := fun v σ H Q => Q (σ.set i (some v)) H
theorem pg_name {i : Nat} {x : Str} (hN : X.N.Nodup) (hi : X.N[i]? = some x) (hx : Loc X.env.scope x) (hf : X.fn x = true \/ X.env.scope.names.lookup x = some .local := by first | exact .inl rfl | exact .inr rfl | assumption) : PG X (.Name x pos) (gName i) := by
  intro pins s σ H v u Q I r h
  exact wpAny_assign_Name (store_ok I hN hi hx r (fun s' I' => ⟨_, H, I', h⟩) hf)
noncomputable def tAsg (te : TE) (g : TG) : TS := fun D σ H => te σ H fun x H1 => g x σ H1 D.nx
theorem ps_set {i : Nat} {x : Str} {e : Expr} {te : TE} {pos' : Pos} (hN : X.N.Nodup) (hi : X.N[i]? = some x) (hx : Loc X.env.scope x) (he : PE X e te) (hs : swapsWith e (some (.Name x pos')) pos.line X.env = pure false := by rfl) (hf : X.fn x = true \/ X.env.scope.names.lookup x = some .local := by first | exact .inl rfl | exact .inr rfl | assumption) :
    PS X (.Assign [.Name x pos'] e pos) (tAsg te (gName i)) := by
  intro pins s σ H D I h
  refine wpAny_Assign_Name (thn (he pins s σ H _ I h) fun v s1 ⟨y, H1, I1, r1, q1⟩ => ?_) hs
  exact store_ok I1 hN hi hx r1 (fun s2 I2 => ⟨_, H1, I2, q1⟩) hf
end
section
variable {X : Cx} {pos : Pos}
noncomputable def tWhile (c : TT) (tb : TS) : TS := fun D σ H => ∃ W : Nat -> St -> Hp -> Prop, (∃ m, W m σ H) /\ ∀ m σ H, W m σ H ->
  c σ H fun b H1 => if b = true then ∃ N : St -> Hp -> Prop, (∀ σ' H', N σ' H' -> ∃ m', m' < m /\ W m' σ' H') /\ tb { D with nx := N, ct := N, bk := D.nx } σ H1 else D.nx σ H1
theorem ps_while {c : Expr} {body : List Stmt} {tc : TT} {tb : TS} (hp : PassesOwn (model X.prog X.w) X.A X.env X.xe) (hc : PT X c tc) (hb : PSs X body tb) : PS X (.While c body [] pos) (tWhile tc tb) := by
  intro pins s σ H D I h
  obtain ⟨W, ⟨m0, w0⟩, turn⟩ := h
  refine wpAny_While (codeAny_whileLoop (fun n s' => ∃ σ' H', Inv X pins σ' H' s' /\ W n σ' H') ?_ m0 ⟨σ, H, I, w0⟩)
  rintro n s1 ⟨σ1, H1, I1, w1⟩
  refine wpAny_passesOwn hp (thn (hc pins s1 σ1 H1 _ I1 (turn n σ1 H1 w1)) fun b s2 ⟨H2, I2, q2⟩ => ?_)
  cases b with
  | true =>
    obtain ⟨N, hN, q2⟩ := q2
    rw [if_pos rfl]
    refine wpAny_passesOwn hp (thn (hb pins s2 σ1 H2 _ I2 q2) fun f s3 q3 => ?_)
    cases f with
    | next =>
      obtain ⟨σ3, H3, I3, n3⟩ := q3
      obtain ⟨m', hm, w3⟩ := hN σ3 H3 n3
      exact ⟨m', hm, σ3, H3, I3, w3⟩
    | cont =>
      obtain ⟨σ3, H3, I3, n3⟩ := q3
      obtain ⟨m', hm, w3⟩ := hN σ3 H3 n3
      exact ⟨m', hm, σ3, H3, I3, w3⟩
    | brk => exact q3
    | ret v => exact q3
  | false =>
    rw [if_neg Bool.false_ne_true]
    exact wpAny_execs_nil ⟨σ1, H2, I2, q2⟩
end
structure It where
  go : Nat -> Hp -> Prop
  yld : Nat -> Hp -> V -> Hp -> Prop
  stop : Nat -> Hp -> Prop
noncomputable def FpOk (X : Cx) (pins : List (Addr × Obj)) (H : Hp) (b : Addr) : Prop :=
  H b = none /\ b ≠ X.env.locals /\ b ∉ X.fs /\ (b ∈ X.ex \/ X.s₀.heap.objs.size <= b) /\ (∀ x c, X.env.cells.lookup x = some c -> c ≠ b) /\ ∀ p ∈ X.pn ++ pins, p.1 ≠ b
theorem Inv.fpOk {X : Cx} {pins : List (Addr × Obj)} {σ : St} {H H' : Hp} {s : Shared} {b : Addr} (I : Inv X pins σ H s) (hb : s.heap.objs.size <= b) (hn : H' b = none) : FpOk X pins H' b := by
  refine ⟨hn, Nat.ne_of_gt (Nat.lt_of_lt_of_le I.lt hb), I.nofs hb, .inr (Nat.le_trans I.sz hb), fun x c e z => ?_, fun p hp z => ?_⟩
  · obtain ⟨v, q⟩ := I.cell x c e
    exact absurd (Nat.lt_of_lt_of_le q.lt (by rw [z]; exact hb)) (Nat.lt_irrefl _)
  · exact absurd (Nat.lt_of_lt_of_le (Heap.lt_size (I.pin p hp).1) (by rw [z]; exact hb)) (Nat.lt_irrefl _)
structure Turn (P : Program) (w : World) (K : PySem.W.Frag) (tg : Expr) (J : It) (fp : List Addr) (it : Addr) (tn : Nat -> Heap -> Prop) : Prop where
  mem : it ∈ fp
  obj : ∀ i h, tn i h -> ∀ b ∈ fp, ∃ o, h.get? b = some o /\ ∀ v, o.data ≠ .cell v
  keep : ∀ i h h', tn i h -> (∀ b ∈ fp, ∀ o, h.get? b = some o -> h'.get? b = some o) -> tn i h'
  item : ∀ (X : Cx), X.prog = P -> X.w = w -> X.K = K -> X.calm = true -> ∀ (i : Nat) (pins : List (Addr × Obj)) (s : Shared) (σ : St) (H : Hp) (E : Value -> Shared -> Prop), Inv X pins σ H s -> (∀ b ∈ fp, FpOk X pins H b) -> tn i s.heap -> J.go i H ->
    wpAny (model P w) X.A (pyNext (.ref it)) (fun r s1 => ∃ u, r = some u /\
      wpAny (model P w) X.A (letOwnedTupleGo tg (.ref it) u) (fun _ s2 => ∃ x H', Inv X pins σ H' s2 /\ RelV x u /\ J.yld i H x H' /\ tn (i + 1) s2.heap /\ ∀ b ∈ fp, H' b = none) E s1) E s
  done : ∀ (X : Cx), X.prog = P -> X.w = w -> X.K = K -> X.calm = true -> ∀ (i : Nat) (pins : List (Addr × Obj)) (s : Shared) (σ : St) (H : Hp) (E : Value -> Shared -> Prop), Inv X pins σ H s -> (∀ b ∈ fp, FpOk X pins H b) -> tn i s.heap -> J.stop i H ->
    wpAny (model P w) X.A (pyNext (.ref it)) (fun r s1 => r = none /\ Inv X pins σ H s1) E s
  self : ∀ (A : Around) (i : Nat) (s : Shared) (Q : Value -> Shared -> Prop) (E : Value -> Shared -> Prop), tn i s.heap -> Q (.ref it) s -> wpAny (model P w) A (pyIter (.ref it)) Q E s
noncomputable abbrev TI := St -> Hp -> (It -> Hp -> Prop) -> Prop
noncomputable def PIE (X : Cx) (pins : List (Addr × Obj)) (σ : St) (tg : Expr) (R : It -> Hp -> Prop) (itv : Value) (s2 : Shared) : Prop :=
  ∃ (it : Addr) (fp : List Addr) (tn : Nat -> Heap -> Prop) (J : It) (H' : Hp), itv = .ref it /\ Inv X pins σ H' s2 /\ Turn X.prog X.w X.K tg J fp it tn /\ tn 0 s2.heap /\ (∀ b ∈ fp, FpOk X pins H' b) /\ R J H'
noncomputable def PI (X : Cx) (tg iter : Expr) (wi : TI) : Prop :=
  ∀ (pins : List (Addr × Obj)) (s : Shared) (σ : St) (H : Hp) (R : It -> Hp -> Prop), Inv X pins σ H s -> wi σ H R ->
    wpAny (model X.prog X.w) X.A (eval iter X.env) (fun v s1 => wpAny (model X.prog X.w) X.A (pyIter v) (PIE X pins σ tg R) X.xe s1) X.xe s
theorem go_of {M : Model} {A : Around} {E : Value -> Shared -> Prop} {s : Shared} {tg : Expr} {it : Addr} {u : Value} {o : Obj} {n : String} {vs : Array Value} {Q : Unit -> Shared -> Prop} (ho : s.heap.get? it = some o) (hc : o.cls = .type n) (hd : o.data = .fields vs)
    (hn : ["enumerate", "zip", "dict_itemiterator", "dict_reverseitemiterator", "odict_iterator", "itertools.zip_longest", "itertools.pairwise"].contains n = false) (hQ : Q () s) : wpAny M A (letOwnedTupleGo tg (.ref it) u) Q E s := by
  unfold letOwnedTupleGo
  cases tg <;> first
    | exact wpAny_pure hQ
    | (cases u <;> first
        | exact wpAny_pure hQ
        | (refine wpAny_bind (wpAny_load ho ?_)
           rw [hc, hd]
           show wpAny M A (if (["enumerate", "zip", "dict_itemiterator", "dict_reverseitemiterator", "odict_iterator", "itertools.zip_longest", "itertools.pairwise"].contains n && vs[0]? == some (rawInt _)) = true then _ else _) Q E s
           rw [if_neg (by intro h; rw [hn, Bool.false_and] at h; cases h)]
           exact wpAny_pure hQ))
noncomputable def Itl (K : PySem.W.Frag) (a : Addr) : It :=
  ⟨fun i H => ∃ xs x, SqL K H a xs /\ xs[i]? = some x, fun i H x H' => H' = H /\ ∀ xs, SqL K H a xs -> xs[i]? = some x, fun i H => ∃ xs, SqL K H a xs /\ xs.length <= i⟩
noncomputable def Itt (K : PySem.W.Frag) (a : Addr) : It :=
  ⟨fun i H => ∃ xs x, SqT K H a xs /\ xs[i]? = some x, fun i H x H' => H' = H /\ ∀ xs, SqT K H a xs -> xs[i]? = some x, fun i H => ∃ xs, SqT K H a xs /\ xs.length <= i⟩
noncomputable def Itr (lo : Int) (n : Nat) : It := ⟨fun i _ => i < n, fun i H x H' => H' = H /\ x = .int (lo + i), fun i _ => n <= i⟩
theorem turn_list {P : Program} {w : World} {K : PySem.W.Frag} {tg : Expr} (a it : Addr) : Turn P w K tg (Itl K a) [it] it (fun i h => h.IsListIter it a i) where
  mem := by simp
  obj := fun i h st b hb => by
    have e : b = it := by simpa using hb
    subst e
    obtain ⟨o, e, c, d⟩ := st
    exact ⟨o, e, fun v z => by rw [d] at z; cases z⟩
  keep := fun i h h' st k => st.at fun o e => k it (by simp) o e
  item := by
    intro X hP hw hK hc i pins s σ H E I hf st hg
    subst hP hw hK
    obtain ⟨xs, x, hq, hx⟩ := hg
    obtain ⟨its, rv, p, hz⟩ := I.list hq
    obtain ⟨u, hu, ru⟩ := rv.get hx
    obtain ⟨f0, f1, f2, f3, f4, f5⟩ := hf it (by simp)
    refine wpAny_pyNext_list_item st p.isList (x := u) (by simpa using hu) fun h' st' sb => ?_
    have I1 : Inv X pins σ H { s with heap := h' } := I.turned (t' := s.toks) (fun b o hb e => (sb.2 b hb).trans e) f0 f1 f3 f4 f5
    obtain ⟨o, e, c, d⟩ := id st'
    exact ⟨u, rfl, go_of (s := { s with heap := h' }) e c d (by decide) ⟨x, H, I1, ru, ⟨rfl, fun ys hy => by rw [I.list_inj hy hq]; exact hx⟩, st', fun b hb => (hf b hb).1⟩⟩
  done := by
    intro X hP hw hK hc i pins s σ H E I hf st hg
    subst hP hw hK
    obtain ⟨xs, hq, hx⟩ := hg
    obtain ⟨its, rv, p, hz⟩ := I.list hq
    obtain ⟨f0, f1, f2, f3, f4, f5⟩ := hf it (by simp)
    have hl := rv.length
    exact wpAny_pyNext_list_end (I.ok.hd hc) st p.isList (by simp; omega) fun h' eb => ⟨rfl, I.turned (t' := s.toks) (fun b o hb e => eb b o hb e) f0 f1 f3 f4 f5⟩
  self := fun _ _ _ _ _ st h => wpAny_pyIter_listiter st h
theorem turn_tuple {P : Program} {w : World} {K : PySem.W.Frag} {tg : Expr} (a it : Addr) : Turn P w K tg (Itt K a) [it] it (fun i h => h.IsTupleIter it a i) where
  mem := by simp
  obj := fun i h st b hb => by
    have e : b = it := by simpa using hb
    subst e
    obtain ⟨o, e, c, d⟩ := st
    exact ⟨o, e, fun v z => by rw [d] at z; cases z⟩
  keep := fun i h h' st k => st.at fun o e => k it (by simp) o e
  item := by
    intro X hP hw hK hc i pins s σ H E I hf st hg
    subst hP hw hK
    obtain ⟨xs, x, hq, hx⟩ := hg
    obtain ⟨its, rv, p, hz⟩ := I.tuple hq
    obtain ⟨u, hu, ru⟩ := rv.get hx
    obtain ⟨f0, f1, f2, f3, f4, f5⟩ := hf it (by simp)
    refine wpAny_pyNext_tuple_item st (show s.heap.IsTuple a its.toArray from p) (x := u) (by simpa using hu) fun h' st' sb => ?_
    have I1 : Inv X pins σ H { s with heap := h' } := I.turned (t' := s.toks) (fun b o hb e => (sb.2 b hb).trans e) f0 f1 f3 f4 f5
    obtain ⟨o, e, c, d⟩ := id st'
    exact ⟨u, rfl, go_of (s := { s with heap := h' }) e c d (by decide) ⟨x, H, I1, ru, ⟨rfl, fun ys hy => by rw [I.tuple_inj hy hq]; exact hx⟩, st', fun b hb => (hf b hb).1⟩⟩
  done := by
    intro X hP hw hK hc i pins s σ H E I hf st hg
    subst hP hw hK
    obtain ⟨xs, hq, hx⟩ := hg
    obtain ⟨its, rv, p, hz⟩ := I.tuple hq
    obtain ⟨f0, f1, f2, f3, f4, f5⟩ := hf it (by simp)
    have hl := rv.length
    exact wpAny_pyNext_tuple_end (I.ok.hd hc) st (show s.heap.IsTuple a its.toArray from p) (by simp; omega) fun h' eb => ⟨rfl, I.turned (t' := s.toks) (fun b o hb e => eb b o hb e) f0 f1 f3 f4 f5⟩
  self := fun _ _ _ _ _ st h => wpAny_pyIter_tupleiter st h
theorem turn_range {P : Program} {w : World} {K : PySem.W.Frag} {tg : Expr} (it : Addr) (lo : Int) (n : Nat) : Turn P w K tg (Itr lo n) [it] it (fun i h => IsRangeIter h it (lo + (i : Nat) * 1) ((n : Int) - (i : Nat)) 1) where
  mem := by simp
  obj := fun i h st b hb => by
    have e : b = it := by simpa using hb
    subst e
    exact ⟨_, st, fun v z => by
      have z' : Data.fields _ = Data.cell v := z
      cases z'⟩
  keep := fun i h h' st k => k it (by simp) _ st
  item := by
    intro X hP hw hK hc i pins s σ H E I hf st hg
    subst hP hw hK
    obtain ⟨f0, f1, f2, f3, f4, f5⟩ := hf it (by simp)
    have W := Walks.range (prog := X.prog) (w := X.w) (I.ok.hd hc) it lo 1 n
    refine W.item i s _ _ hg st fun v h' tk hv st' kk => ?_
    obtain ⟨t, rfl⟩ := hv
    have I1 : Inv X pins σ H { s with heap := h', toks := tk } := I.turned (fun b o hb e => kk b o (by simpa using hb) e) f0 f1 f3 f4 f5
    refine ⟨_, rfl, go_of (s := { s with heap := h', toks := tk }) (n := "range_iterator") st' rfl rfl (by decide) ⟨.int (lo + i), H, I1, ⟨t, ?_⟩, ⟨rfl, rfl⟩, st', fun b hb => (hf b hb).1⟩⟩
    rw [Int.mul_one]
  done := by
    intro X hP hw hK hc i pins s σ H E I hf st hg
    subst hP hw hK
    obtain ⟨f0, f1, f2, f3, f4, f5⟩ := hf it (by simp)
    exact wpAny_pyNext_range_end (I.ok.hd hc) st (by have : n <= i := hg; omega) fun h' eb => ⟨rfl, I.turned (t' := s.toks) (fun b o hb e => eb b o hb e) f0 f1 f3 f4 f5⟩
  self := fun _ _ _ _ _ st h => wpAny_pyIter_rangeiter st h
end L2
namespace L2
open PySem PySem.Spec PyProof.Rows
section
variable {X : Cx} {tg : Expr}
noncomputable def iList (K : PySem.W.Frag) (tl : TE) : TI := fun σ H R => tl σ H fun x H1 => ∃ a, x = .ref a /\ (∃ xs, SqL K H1 a xs) /\ R (Itl K a) H1
noncomputable def iTup (K : PySem.W.Frag) (tl : TE) : TI := fun σ H R => tl σ H fun x H1 => ∃ a, x = .ref a /\ (∃ xs, SqT K H1 a xs) /\ R (Itt K a) H1
theorem pi_list {l : Expr} {tl : TE} (hl : PE X l tl) : PI X tg l (iList X.K tl) := by
  intro pins s σ H R I h
  refine thn (hl pins s σ H _ I h) fun v s1 ⟨x, H1, I1, r1, q1⟩ => ?_
  obtain ⟨a, e, ⟨xs, hq⟩, q⟩ := q1
  subst e
  cases r1
  obtain ⟨its, rv, p, hz⟩ := I1.list hq
  refine wpAny_pyIter_list p.isList ?_
  refine ⟨s1.heap.objs.size, [s1.heap.objs.size], _, _, H1, rfl, I1.kept (t' := s1.toks) fun b o e => Heap.get?_push_of_some _ e, turn_list a _, ⟨_, Heap.get?_push_size _ rfl, rfl, rfl⟩, fun b hb => ?_, q⟩
  have e : b = s1.heap.objs.size := by simpa using hb
  subst e
  exact I1.fpOk (Nat.le_refl _) (I1.hok.fresh (Nat.le_refl _))
theorem pi_tup {l : Expr} {tl : TE} (hl : PE X l tl) : PI X tg l (iTup X.K tl) := by
  intro pins s σ H R I h
  refine thn (hl pins s σ H _ I h) fun v s1 ⟨x, H1, I1, r1, q1⟩ => ?_
  obtain ⟨a, e, ⟨xs, hq⟩, q⟩ := q1
  subst e
  cases r1
  obtain ⟨its, rv, p, hz⟩ := I1.tuple hq
  refine wpAny_pyIter_tuple (show s1.heap.IsTuple a its.toArray from p) ?_
  refine ⟨s1.heap.objs.size, [s1.heap.objs.size], _, _, H1, rfl, I1.kept (t' := s1.toks) fun b o e => Heap.get?_push_of_some _ e, turn_tuple a _, ⟨_, Heap.get?_push_size _ rfl, rfl, rfl⟩, fun b hb => ?_, q⟩
  have e : b = s1.heap.objs.size := by simpa using hb
  subst e
  exact I1.fpOk (Nat.le_refl _) (I1.hok.fresh (Nat.le_refl _))
theorem range_it {pins : List (Addr × Obj)} {σ : St} {H : Hp} {s : Shared} {R : It -> Hp -> Prop} {E : Value -> Shared -> Prop} {lo hi : Int} {t u v : Tok} {tk : Nat} (I : Inv X pins σ H s) (h1 : -(2 ^ 62) <= lo) (h2 : lo < 2 ^ 62) (h3 : -(2 ^ 62) <= hi) (h4 : hi < 2 ^ 62)
    (q : R (Itr lo (hi - lo).toNat) H) : wpAny (model X.prog X.w) X.A (pyIter (.ref s.heap.objs.size)) (PIE X pins σ tg R) E { s with heap := s.heap.push { cls := .type "range", data := .fields #[.int lo t, .int hi u, .int 1 v] }, toks := tk } := by
  refine wpAny_pyIter_range (IsRange.new ..) (small_one h1 h2 h3 h4) ?_
  have I1 : Inv X pins σ H { s with heap := s.heap.push { cls := .type "range", data := .fields #[.int lo t, .int hi u, .int 1 v] }, toks := tk } := I.kept fun b o e => Heap.get?_push_of_some _ e
  refine ⟨(s.heap.push { cls := .type "range", data := .fields #[.int lo t, .int hi u, .int 1 v] }).objs.size, [(s.heap.push { cls := .type "range", data := .fields #[.int lo t, .int hi u, .int 1 v] }).objs.size], _, _, H, rfl,
    I1.kept (t' := tk) fun b o e => Heap.get?_push_of_some _ e, turn_range _ lo (hi - lo).toNat, ?_, fun b hb => ?_, q⟩
  · have e1 : lo + ((0 : Nat) : Int) * 1 = lo := by simp
    have e2 : (((hi - lo).toNat : Nat) : Int) - ((0 : Nat) : Int) = Builtin.Range.rangeSize lo hi 1 := by rw [rangeSize_one]; split <;> omega
    show IsRangeIter _ _ (lo + ((0 : Nat) : Int) * 1) ((((hi - lo).toNat : Nat) : Int) - ((0 : Nat) : Int)) 1
    rw [e1, e2]
    exact Heap.get?_push_size _ rfl
  · have e : b = (s.heap.push { cls := .type "range", data := .fields #[.int lo t, .int hi u, .int 1 v] }).objs.size := by simpa using hb
    subst e
    exact I1.fpOk (Nat.le_refl _) (I1.hok.fresh (Nat.le_refl _))
noncomputable def iRng1 (ta : TA) : TI := fun σ H R => ta σ H fun vs H1 => ∃ j : Int, vs = [.int j] /\ -(2 ^ 62) <= j /\ j < 2 ^ 62 /\ R (Itr 0 j.toNat) H1
theorem pi_range1 {a : Expr} {ta : TA} {p pos : Pos} (hg : Gl X "range") (hm : X.mg "range" = none) (ha : PA X [a] ta) (hs : starEach [a] X.env = [(false, eval a X.env)] := by rfl) : PI X tg (.Call (.Name "range" p) [a] [] pos) (iRng1 ta) := by
  intro pins s σ H R I h
  refine Call_ (ld_blt I hg hm boot_range (PyProof.Rows.callWith_type1 (thn (ha pos pins s σ H _ I h) fun us s1 ⟨vs, H1, I1, r1, q1⟩ => ?_) hs rfl))
  obtain ⟨j, e, q1, q2, q⟩ := q1
  subst e
  cases r1 with
  | cons r rr =>
    cases rr
    obtain ⟨t, rfl⟩ := r
    exact call_range_1 (range_it I1 (by omega) (by omega) q1 q2 (by simpa using q))
noncomputable def tFor (wi : TI) (g : TG) (tb : TS) : TS := fun D σ H => wi σ H fun J H1 => ∃ W : Nat -> Nat -> St -> Hp -> Prop, (∃ m, W 0 m σ H1) /\ ∀ i m σ H, W i m σ H ->
  (J.stop i H /\ D.nx σ H) \/ (J.go i H /\ ∃ N : St -> Hp -> Prop, (∀ σ' H', N σ' H' -> ∃ m', m' < m /\ W (i + 1) m' σ' H') /\ ∀ x H', J.yld i H x H' -> g x σ H' fun σ2 H2 => tb { D with nx := N, ct := N, bk := D.nx } σ2 H2)
noncomputable def pinsAt (fp : List Addr) (h : Heap) : List (Addr × Obj) := fp.filterMap fun b => (h.get? b).map fun o => (b, o)
theorem mem_pinsAt {fp : List Addr} {h : Heap} {b : Addr} {o : Obj} (hb : b ∈ fp) (e : h.get? b = some o) : (b, o) ∈ pinsAt fp h := List.mem_filterMap.mpr ⟨b, hb, by rw [e]; rfl⟩
theorem of_pinsAt {fp : List Addr} {h : Heap} {p : Addr × Obj} (hp : p ∈ pinsAt fp h) : p.1 ∈ fp /\ h.get? p.1 = some p.2 := by
  obtain ⟨b, hb, e⟩ := List.mem_filterMap.mp hp
  cases q : h.get? b with
  | none => rw [q] at e; cases e
  | some o =>
    rw [q] at e
    have e' : (b, o) = p := Option.some.inj e
    subst e'
    exact ⟨hb, q⟩
theorem Inv.pinned {pins : List (Addr × Obj)} {σ : St} {H : Hp} {s : Shared} {fp : List Addr} (I : Inv X pins σ H s) (hf : ∀ b ∈ fp, FpOk X pins H b) (ho : ∀ b ∈ fp, ∃ o, s.heap.get? b = some o /\ ∀ v, o.data ≠ .cell v) : Inv X (pins ++ pinsAt fp s.heap) σ H s :=
  I.pins_of fun p hp => (List.mem_append.mp hp).elim (fun z => I.pin p (List.mem_append_right _ z)) fun z => by
    obtain ⟨hb, e⟩ := of_pinsAt z
    obtain ⟨f0, f1, f2, _⟩ := hf p.1 hb
    obtain ⟨o, e', d⟩ := ho p.1 hb
    rw [e] at e'; cases e'
    exact ⟨e, f0, f1, f2, d⟩
theorem Inv.unpinned {pins pl : List (Addr × Obj)} {σ : St} {H : Hp} {s : Shared} (I : Inv X (pins ++ pl) σ H s) : Inv X pins σ H s := I.pins_of fun p hp => I.pin p (List.mem_append_right _ (List.mem_append_left _ hp))
theorem ps_for {iter : Expr} {body : List Stmt} {wi : TI} {g : TG} {tb : TS} {pos : Pos} (hp : PassesOwn (model X.prog X.w) X.A X.env X.xe) (hc : X.calm = true) (hi : PI X tg iter wi) (hg : PG X tg g) (hb : PSs X body tb)
    (hs : ∀ x, foldedSetIterable iter X.env x = pure x := by intro _; rfl) : PS X (.For tg iter body [] pos) (tFor wi g tb) := by
  intro pins s σ H D I h
  refine wpAny_For (thn (hi pins s σ H _ I h) fun v s1 h1 => thn h1 fun itv s2 h2 => ?_) hs
  obtain ⟨it, fp, tn, J, H2, e, I2, T, st2, f2, W, ⟨m0, w0⟩, turn⟩ := h2
  subst e
  -- what stays true of the iterator's objects through the loop
  have stat : ∀ {H' : Hp}, (∀ b ∈ fp, H' b = none) -> ∀ b ∈ fp, FpOk X pins H' b := fun hn b hb => ⟨hn b hb, (f2 b hb).2⟩
  refine codeAny_forLoop_any (fun n s' => ∃ i σ' H', Inv X pins σ' H' s' /\ tn i s'.heap /\ (∀ b ∈ fp, H' b = none) /\ W i n σ' H') ?_ m0 ⟨0, σ, H2, I2, st2, fun b hb => (f2 b hb).1, w0⟩
  rintro n s3 ⟨i, σ3, H3, I3, st3, fr3, w3⟩
  rcases turn i n σ3 H3 w3 with ⟨stop, qn⟩ | ⟨go, N, hN, step⟩
  · refine wpAny_passesOwn hp (thn (T.done X rfl rfl rfl hc i pins s3 σ3 H3 X.xe I3 (stat fr3) st3 stop) fun r s4 ⟨hr, I4⟩ => ?_)
    subst hr
    exact wpAny_execs_nil ⟨σ3, H3, I4, qn⟩
  · refine wpAny_passesOwn hp (thn (T.item X rfl rfl rfl hc i pins s3 σ3 H3 X.xe I3 (stat fr3) st3 go) fun r s4 ⟨u, hr, h4⟩ => ?_)
    subst hr
    refine wpAny_passesOwn hp (thn h4 fun _ s5 ⟨x, H5, I5, r5, y5, st5, fr5⟩ => ?_)
    have I5' := I5.pinned (stat fr5) (T.obj _ _ st5)
    refine wpAny_passesOwn hp (thn (hg _ s5 σ3 H5 x u _ I5' r5 (step x H5 y5)) fun _ s6 ⟨σ6, H6, I6, q6⟩ => ?_)
    refine wpAny_passesOwn hp (thn (hb _ s6 σ6 H6 _ I6 q6) fun f s7 q7 => ?_)
    have again : ∀ {σ7 : St} {H7 : Hp}, Inv X (pins ++ pinsAt fp s5.heap) σ7 H7 s7 -> N σ7 H7 -> ∃ m, m < n /\ ∃ i σ' H', Inv X pins σ' H' s7 /\ tn i s7.heap /\ (∀ b ∈ fp, H' b = none) /\ W i m σ' H' := fun {σ7 H7} I7 n7 => by
      obtain ⟨m', hm, w7⟩ := hN σ7 H7 n7
      refine ⟨m', hm, i + 1, σ7, H7, I7.unpinned, T.keep _ _ _ st5 fun b hb o e => (I7.pin (b, o) (List.mem_append_right _ (List.mem_append_right _ (mem_pinsAt hb e)))).1, fun b hb => ?_, w7⟩
      obtain ⟨o, e, d⟩ := T.obj _ _ st5 b hb
      exact (I7.pin (b, o) (List.mem_append_right _ (List.mem_append_right _ (mem_pinsAt hb e)))).2.1
    cases f with
    | next => obtain ⟨σ7, H7, I7, n7⟩ := q7; exact again I7 n7
    | cont => obtain ⟨σ7, H7, I7, n7⟩ := q7; exact again I7 n7
    | brk => obtain ⟨σ7, H7, I7, q7⟩ := q7; exact ⟨σ7, H7, I7.unpinned, q7⟩
    | ret v => obtain ⟨x7, σ7, H7, I7, r7, q7⟩ := q7; exact ⟨x7, σ7, H7, I7.unpinned, r7, q7⟩
end
end L2
namespace L2
open PySem PySem.Spec PyProof.Rows
noncomputable abbrev R2 := V -> V -> Hp -> VK -> Prop
noncomputable def OpR (X : Cx) (f : Value -> Value -> Sem Value) (r : R2) : Prop :=
  ∀ (pins : List (Addr × Obj)) (s : Shared) (σ : St) (H : Hp) (x y : V) (v u : Value) (Q : VK), Inv X pins σ H s -> RelV x v -> RelV y u -> r x y H Q ->
    wpAny (model X.prog X.w) X.A (f v u) (EP X pins σ Q) X.xe s
noncomputable def UnR (X : Cx) (f : Value -> Sem Value) (r : V -> Hp -> VK -> Prop) : Prop :=
  ∀ (pins : List (Addr × Obj)) (s : Shared) (σ : St) (H : Hp) (x : V) (v : Value) (Q : VK), Inv X pins σ H s -> RelV x v -> r x H Q ->
    wpAny (model X.prog X.w) X.A (f v) (EP X pins σ Q) X.xe s
noncomputable def CallR (X : Cx) (f : Value) (r : List V -> Hp -> VK -> Prop) : Prop :=
  ∀ (pins : List (Addr × Obj)) (s : Shared) (σ : St) (H : Hp) (xs : List V) (us : List Value) (Q : VK), Inv X pins σ H s -> Vals xs us -> r xs H Q ->
    wpAny (model X.prog X.w) X.A (call f us) (EP X pins σ Q) X.xe s
noncomputable def TruR (X : Cx) (r : V -> Hp -> (Bool -> Hp -> Prop) -> Prop) : Prop :=
  ∀ (pins : List (Addr × Obj)) (s : Shared) (σ : St) (H : Hp) (x : V) (v : Value) (Q : Bool -> Hp -> Prop), Inv X pins σ H s -> RelV x v -> r x H Q ->
    wpAny (model X.prog X.w) X.A (truthy v) (TP X pins σ Q) X.xe s
noncomputable def tOp (r : R2) (ta tb : TE) : TE := fun σ H Q => ta σ H fun x H1 => tb σ H1 fun y H2 => r x y H2 Q
noncomputable def tUn (r : V -> Hp -> VK -> Prop) (ta : TE) : TE := fun σ H Q => ta σ H fun x H1 => r x H1 Q
noncomputable def rI (C : Int -> Int -> Prop) (g : Int -> Int -> V) : R2 := fun x y H Q => ∃ i j, x = .int i /\ y = .int j /\ C i j /\ Q (g i j) H
noncomputable def rI0 (g : Int -> Int -> V) : R2 := fun x y H Q => ∃ i j, x = .int i /\ y = .int j /\ Q (g i j) H
noncomputable def rU (g : Int -> V) : V -> Hp -> VK -> Prop := fun x H Q => ∃ i, x = .int i /\ Q (g i) H
section
variable {X : Cx} {a b c : Expr} {ta tb tc : TE} {pos : Pos}
theorem binT (ha : PE X a ta) (hb : PE X b tb) {pins : List (Addr × Obj)} {s : Shared} {σ : St} {H : Hp} {R : V -> V -> Hp -> Prop} (I : Inv X pins σ H s)
    (h : ta σ H fun x H1 => tb σ H1 fun y H2 => R x y H2) {Q : Value -> Shared -> Prop} {f : Value -> Value -> Sem Value}
    (hf : ∀ v u s2 x y H2, Inv X pins σ H2 s2 -> RelV x v -> RelV y u -> R x y H2 -> wpAny (model X.prog X.w) X.A (f v u) Q X.xe s2) :
    wpAny (model X.prog X.w) X.A (eval a X.env) (fun v s₁ => wpAny (model X.prog X.w) X.A (eval b X.env) (fun u s₂ => wpAny (model X.prog X.w) X.A (f v u) Q X.xe s₂) X.xe s₁) X.xe s := by
  refine thn (ha pins s σ H _ I h) fun v s1 ⟨x, H1, I1, r1, q1⟩ => ?_
  refine thn (hb pins s1 σ H1 _ I1 q1) fun u s2 ⟨y, H2, I2, r2, q2⟩ => ?_
  exact hf v u s2 x y H2 I2 r1 r2 q2
theorem pe_op {op : Operator} {r : R2} (ho : OpR X (binaryOp op) r) (ha : PE X a ta) (hb : PE X b tb) : PE X (.BinOp a op b pos) (tOp r ta tb) := by
  intro pins s σ H Q I h
  exact wpAny_BinOp (binT ha hb I h fun v u s2 x y H2 I2 rx ry q => ho pins s2 σ H2 x y v u Q I2 rx ry q)
theorem pe_un {op : UnaryOp} {r : V -> Hp -> VK -> Prop} (ho : UnR X (unaryOp op) r) (ha : PE X a ta) : PE X (.UnaryOp op a pos) (tUn r ta) := by
  intro pins s σ H Q I h
  exact UnaryOp_ (thn (ha pins s σ H _ I h) fun v s1 ⟨x, H1, I1, r1, q1⟩ => ho pins s1 σ H1 x v Q I1 r1 q1)
theorem opI {f : Value -> Value -> Sem Value} {C : Int -> Int -> Prop} {g : Int -> Int -> Int}
    (rule : ∀ (i j : Int) (t u : Tok) (s : Shared) (Q : Value -> Shared -> Prop) (E : Value -> Shared -> Prop), C i j -> Q (.int (g i j) s.toks) { s with toks := s.toks + 1 } -> wpAny (model X.prog X.w) X.A (f (.int i t) (.int j u)) Q E s) :
    OpR X f (rI C fun i j => .int (g i j)) := by
  intro pins s σ H x y v u Q I rx ry h
  obtain ⟨i, j, rfl, rfl, hc, q⟩ := h
  obtain ⟨t, rfl⟩ := rx
  obtain ⟨t', rfl⟩ := ry
  exact rule i j t t' s _ _ hc ⟨.int (g i j), H, I.tok _, ⟨_, rfl⟩, q⟩
theorem opI0 {f : Value -> Value -> Sem Value} {g : Int -> Int -> Int}
    (rule : ∀ (i j : Int) (t u : Tok) (s : Shared) (Q : Value -> Shared -> Prop) (E : Value -> Shared -> Prop), Q (.int (g i j) s.toks) { s with toks := s.toks + 1 } -> wpAny (model X.prog X.w) X.A (f (.int i t) (.int j u)) Q E s) :
    OpR X f (rI0 fun i j => .int (g i j)) := by
  intro pins s σ H x y v u Q I rx ry h
  obtain ⟨i, j, rfl, rfl, q⟩ := h
  obtain ⟨t, rfl⟩ := rx
  obtain ⟨t', rfl⟩ := ry
  exact rule i j t t' s _ _ ⟨.int (g i j), H, I.tok _, ⟨_, rfl⟩, q⟩
theorem opB0 {f : Value -> Value -> Sem Value} {g : Int -> Int -> Bool}
    (rule : ∀ (i j : Int) (t u : Tok) (s : Shared) (Q : Value -> Shared -> Prop) (E : Value -> Shared -> Prop), Q (.bool (g i j)) s -> wpAny (model X.prog X.w) X.A (f (.int i t) (.int j u)) Q E s) :
    OpR X f (rI0 fun i j => .bl (g i j)) := by
  intro pins s σ H x y v u Q I rx ry h
  obtain ⟨i, j, rfl, rfl, q⟩ := h
  obtain ⟨t, rfl⟩ := rx
  obtain ⟨t', rfl⟩ := ry
  exact rule i j t t' s _ _ ⟨.bl (g i j), H, I, rfl, q⟩
noncomputable def CMul (i j : Int) : Prop := (-(2 ^ 64) < i /\ i < 2 ^ 64) \/ (-(2 ^ 64) < j /\ j < 2 ^ 64)
theorem CMul.ok {i j : Int} (h : CMul i j) : IntMulOk i j := by
  rcases h with ⟨h1, h2⟩ | ⟨h1, h2⟩
  · exact .of_left (intBits_le_64 h1 h2)
  · exact .of_right (intBits_le_64 h1 h2)
theorem op_add : OpR X (binaryOp .Add) (rI0 fun i j => .int (i + j)) := opI0 fun _ _ _ _ _ _ _ q => add_int q
theorem op_mul : OpR X (binaryOp .Mult) (rI CMul fun i j => .int (i * j)) := opI fun _ _ _ _ _ _ _ hc q => mul_int q hc.ok
theorem op_modN : OpR X (binaryOp .Mod) (rI (fun _ j => j ≠ 0) fun i j => .int (i.fmod j)) := opI fun _ _ _ _ _ _ _ hc q => mod_int' hc q
theorem unI {f : Value -> Sem Value} {g : Int -> Int}
    (rule : ∀ (i : Int) (t : Tok) (s : Shared) (Q : Value -> Shared -> Prop) (E : Value -> Shared -> Prop), Q (.int (g i) s.toks) { s with toks := s.toks + 1 } -> wpAny (model X.prog X.w) X.A (f (.int i t)) Q E s) :
    UnR X f (rU fun i => .int (g i)) := by
  intro pins s σ H x v Q I rx h
  obtain ⟨i, rfl, q⟩ := h
  obtain ⟨t, rfl⟩ := rx
  exact rule i t s _ _ ⟨.int (g i), H, I.tok _, ⟨_, rfl⟩, q⟩
theorem un_neg : UnR X (unaryOp .USub) (rU fun i => .int (-i)) := unI fun _ _ _ _ _ q => neg_int q
end
noncomputable def scal : V -> V -> Bool
  | .non, .non => true | .non, .int _ => true | .int _, .non => true | .non, .bl _ => true | .bl _, .non => true | .non, .str _ => true | .str _, .non => true
  | .int _, .int _ => true | .bl _, .bl _ => true | .str _, .str _ => true | .byt _, .byt _ => true
  | .int _, .str _ => true | .str _, .int _ => true | .bl _, .str _ => true | .str _, .bl _ => true
  | _, _ => false
noncomputable def rEq : R2 := fun x y H Q => scal x y = true /\ Q (.bl (decide (x = y))) H
noncomputable def rNe : R2 := fun x y H Q => scal x y = true /\ Q (.bl (!decide (x = y))) H
theorem dec_int {i j : Int} : decide (V.int i = V.int j) = (i == j) := by
  rw [Bool.eq_iff_iff]
  simp
theorem dec_bl {i j : Bool} : decide (V.bl i = V.bl j) = (i == j) := by
  rw [Bool.eq_iff_iff]
  simp
theorem dec_str {i j : Str} : decide (V.str i = V.str j) = (i == j) := by
  rw [Bool.eq_iff_iff]
  simp
theorem dec_byt {i j : Array UInt8} : decide (V.byt i = V.byt j) = (i.toList == j.toList) := by
  rw [Bool.eq_iff_iff]
  cases i
  cases j
  simp
section
variable {X : Cx} {a b c : Expr} {ta tb tc : TE} {pos : Pos}
theorem fin_bl {pins : List (Addr × Obj)} {σ : St} {H : Hp} {s : Shared} {Q : VK} {k k' : Bool} (I : Inv X pins σ H s) (q : Q (.bl k) H) (e : k = k') : EP X pins σ Q (.bool k') s := by
  subst e
  exact ⟨.bl k, H, I, rfl, q⟩
theorem op_eq : OpR X (compareOp .Eq) rEq := by
  intro pins s σ H x y v u Q I rx ry h
  obtain ⟨hs, q⟩ := h
  cases x with
  | non =>
    cases rx
    cases y with
    | non => cases ry; exact PySem.EqNone.eq_none_none (fin_bl I q (by simp))
    | bl j => cases ry; exact PySem.EqNone.eq_none_bool (fin_bl I q (by simp))
    | int j => obtain ⟨t', rfl⟩ := ry; exact PySem.EqNone.eq_none_int (fin_bl I q (by simp))
    | str j => obtain ⟨t', rfl⟩ := ry; exact PySem.EqNone.eq_none_str (fin_bl I q (by simp))
    | _ => exact absurd (show false = true from hs) Bool.false_ne_true
  | bl i =>
    cases rx
    cases y with
    | non => cases ry; exact PySem.EqNone.eq_bool_none (fin_bl I q (by simp))
    | bl j => cases ry; exact eq_bool (fin_bl I q dec_bl)
    | str j => obtain ⟨t', rfl⟩ := ry; exact PySem.EqMixed.eq_bool_str (fin_bl I q (by simp))
    | _ => exact absurd (show false = true from hs) Bool.false_ne_true
  | int i =>
    obtain ⟨t, rfl⟩ := rx
    cases y with
    | non => cases ry; exact PySem.EqNone.eq_int_none (fin_bl I q (by simp))
    | int j => obtain ⟨t', rfl⟩ := ry; exact eq_int (fin_bl I q dec_int)
    | str j => obtain ⟨t', rfl⟩ := ry; exact PySem.EqMixed.eq_int_str (fin_bl I q (by simp))
    | _ => exact absurd (show false = true from hs) Bool.false_ne_true
  | str i =>
    obtain ⟨t, rfl⟩ := rx
    cases y with
    | non => cases ry; exact PySem.EqNone.eq_str_none (fin_bl I q (by simp))
    | bl j => cases ry; exact PySem.EqMixed.eq_str_bool (fin_bl I q (by simp))
    | int j => obtain ⟨t', rfl⟩ := ry; exact PySem.EqMixed.eq_str_int (fin_bl I q (by simp))
    | str j => obtain ⟨t', rfl⟩ := ry; exact eq_str (fin_bl I q dec_str)
    | _ => exact absurd (show false = true from hs) Bool.false_ne_true
  | byt i =>
    obtain ⟨t, rfl⟩ := rx
    cases y with
    | byt j => obtain ⟨t', rfl⟩ := ry; exact PySem.W.eq_bytes (fin_bl I q dec_byt)
    | _ => exact absurd (show false = true from hs) Bool.false_ne_true
  | _ => cases y <;> exact absurd (show false = true from hs) Bool.false_ne_true
theorem op_ne : OpR X (compareOp .NotEq) rNe := by
  intro pins s σ H x y v u Q I rx ry h
  obtain ⟨hs, q⟩ := h
  cases x with
  | non =>
    cases rx
    cases y with
    | non => cases ry; exact PySem.EqNone.ne_none_none (fin_bl I q (by simp))
    | bl j => cases ry; exact PySem.EqNone.ne_none_bool (fin_bl I q (by simp))
    | int j => obtain ⟨t', rfl⟩ := ry; exact PySem.EqNone.ne_none_int (fin_bl I q (by simp))
    | str j => obtain ⟨t', rfl⟩ := ry; exact PySem.EqNone.ne_none_str (fin_bl I q (by simp))
    | _ => exact absurd (show false = true from hs) Bool.false_ne_true
  | bl i =>
    cases rx
    cases y with
    | non => cases ry; exact PySem.EqNone.ne_bool_none (fin_bl I q (by simp))
    | bl j => cases ry; exact ne_bool (fin_bl I q (congrArg not dec_bl))
    | str j => obtain ⟨t', rfl⟩ := ry; exact PySem.EqMixed.ne_bool_str (fin_bl I q (by simp))
    | _ => exact absurd (show false = true from hs) Bool.false_ne_true
  | int i =>
    obtain ⟨t, rfl⟩ := rx
    cases y with
    | non => cases ry; exact PySem.EqNone.ne_int_none (fin_bl I q (by simp))
    | int j => obtain ⟨t', rfl⟩ := ry; exact ne_int (fin_bl I q (congrArg not dec_int))
    | str j => obtain ⟨t', rfl⟩ := ry; exact PySem.EqMixed.ne_int_str (fin_bl I q (by simp))
    | _ => exact absurd (show false = true from hs) Bool.false_ne_true
  | str i =>
    obtain ⟨t, rfl⟩ := rx
    cases y with
    | non => cases ry; exact PySem.EqNone.ne_str_none (fin_bl I q (by simp))
    | bl j => cases ry; exact PySem.EqMixed.ne_str_bool (fin_bl I q (by simp))
    | int j => obtain ⟨t', rfl⟩ := ry; exact PySem.EqMixed.ne_str_int (fin_bl I q (by simp))
    | str j => obtain ⟨t', rfl⟩ := ry; exact ne_str (fin_bl I q (congrArg not dec_str))
    | _ => exact absurd (show false = true from hs) Bool.false_ne_true
  | byt i =>
    obtain ⟨t, rfl⟩ := rx
    cases y with
    | byt j => obtain ⟨t', rfl⟩ := ry; exact PySem.W.ne_bytes (fin_bl I q (congrArg not dec_byt))
    | _ => exact absurd (show false = true from hs) Bool.false_ne_true
  | _ => cases y <;> exact absurd (show false = true from hs) Bool.false_ne_true
theorem op_lt : OpR X (compareOp .Lt) (rI0 fun i j => .bl (decide (i < j))) := opB0 fun _ _ _ _ _ _ _ q => lt_int q
theorem op_gt : OpR X (compareOp .Gt) (rI0 fun i j => .bl (decide (j < i))) := opB0 fun _ _ _ _ _ _ _ q => gt_int q
theorem op_ge : OpR X (compareOp .GtE) (rI0 fun i j => .bl (decide (j <= i))) := opB0 fun _ _ _ _ _ _ _ q => ge_int q
theorem op_in_str : OpR X (compareOp .In) (fun x y H Q => ∃ i j, x = .str i /\ y = .str j /\ Q (.bl (!(Builtin.Str.occurrences j i 0 j.length 1).isEmpty)) H) := by
  intro pins s σ H x y v u Q I rx ry h
  obtain ⟨i, j, rfl, rfl, q⟩ := h
  obtain ⟨t, rfl⟩ := rx
  obtain ⟨t', rfl⟩ := ry
  exact in_str (fin_bl I q rfl)
theorem nomark (b : Expr) {op : CmpOp} (h : op ≠ .In := by decide) (h2 : op ≠ .NotIn := by decide) : behindInMarks op b = false := by
  have e1 : (op == CmpOp.In) = false := by cases op <;> first | rfl | exact absurd rfl h
  have e2 : (op == CmpOp.NotIn) = false := by cases op <;> first | rfl | exact absurd rfl h2
  cases b <;> simp [behindInMarks, e1, e2]
theorem pe_cmpR {op : CmpOp} {r : R2} (ho : OpR X (compareOp op) r) (ha : PE X a ta) (hb : PE X b tb) (hm : behindInMarks op b = false) : PE X (.Compare a [op] [b] pos) (tOp r ta tb) := by
  intro pins s σ H Q I h
  exact wpAny_Compare1 (binT ha hb I h fun v u s2 x y H2 I2 rx ry q => ho pins s2 σ H2 x y v u Q I2 rx ry q) hm
noncomputable def tTest (t : TE) : TT := fun σ H Q => t σ H fun x H' => ∃ k, x = .bl k /\ Q k H'
theorem pt_cmpR {op : CmpOp} {r : R2} (ho : OpR X (compareOp op) r) (ha : PE X a ta) (hb : PE X b tb) (hm : behindInMarks op b = false) : PT X (.Compare a [op] [b] pos) (tTest (tOp r ta tb)) := by
  intro pins s σ H Q I h
  refine wpAny_isTrue_Compare1 (thn (ha pins s σ H _ I h) fun v s1 ⟨x, H1, I1, r1, q1⟩ => thn (hb pins s1 σ H1 _ I1 q1) fun u s2 ⟨y, H2, I2, r2, q2⟩ =>
    thn (ho pins s2 σ H2 x y v u _ I2 r1 r2 q2) fun c s3 ⟨z, H3, I3, r3, k, e, q3⟩ => ?_) hm
  subst e
  cases r3
  exact wpAny_truthy_bool ⟨H3, I3, q3⟩
noncomputable def TruV (K : PySem.W.Frag) (x : V) (H : Hp) (k : Bool) : Prop :=
  match x with
  | .non => k = false
  | .bl b => k = b
  | .int i => k = (i != 0)
  | .str y => y.length <= sizeLine /\ k = ((y.length : Int) != 0)
  | .byt y => y.size <= sizeLine /\ k = ((y.size : Int) != 0)
  | .ref p => (∃ xs, SqL K H p xs /\ k = !xs.isEmpty) \/ (∃ xs, SqT K H p xs /\ k = !xs.isEmpty) \/ ∃ kvs, H p = some (.dK kvs) /\ k = !kvs.isEmpty
  | _ => False
theorem isEmpty_kv {κ : Type} {kvs : List (κ × V)} {vs : List (κ × Value)} (r : KV kvs vs) : (!vs.isEmpty) = !kvs.isEmpty := by
  cases r <;> rfl
theorem isEmpty_of {xs : List V} {its : List Value} (r : Vals xs its) : (!its.toArray.isEmpty) = !xs.isEmpty := by
  cases r <;> simp
theorem line63 : (sizeLine : Nat) < 2 ^ 63 := by rw [sizeLine_eq]; decide
theorem tru_ok : TruR X (fun x H Q => ∃ k, TruV X.K x H k /\ Q k H) := by
  intro pins s σ H x v Q I rx h
  obtain ⟨k, e, q⟩ := h
  have hl := line63
  have hs : sizeLine = 16777216 := sizeLine_eq
  cases x with
  | non =>
    cases rx
    have e' : k = false := e
    subst e'
    exact truthy_none ⟨H, I, q⟩
  | bl b =>
    cases rx
    have e' : k = b := e
    subst e'
    exact wpAny_truthy_bool ⟨H, I, q⟩
  | int i =>
    obtain ⟨t, rfl⟩ := rx
    have e' : k = (i != 0) := e
    subst e'
    exact PySem.P.truthy_int ⟨H, I, q⟩
  | str y =>
    obtain ⟨t, rfl⟩ := rx
    obtain ⟨hy, e'⟩ : y.length <= sizeLine /\ k = ((y.length : Int) != 0) := e
    subst e'
    exact PySem.P.truthy_str (by omega) ⟨H, I.tok _, q⟩
  | byt y =>
    obtain ⟨t, rfl⟩ := rx
    obtain ⟨hy, e'⟩ : y.size <= sizeLine /\ k = ((y.size : Int) != 0) := e
    subst e'
    exact PySem.W.truthy_bytes (by omega) ⟨H, I.tok _, q⟩
  | ref p =>
    cases rx
    have e' : (∃ xs, SqL X.K H p xs /\ k = !xs.isEmpty) \/ (∃ xs, SqT X.K H p xs /\ k = !xs.isEmpty) \/ ∃ kvs, H p = some (.dK kvs) /\ k = !kvs.isEmpty := e
    rcases e' with ⟨xs, hx, e'⟩ | ⟨xs, hx, e'⟩ | ⟨kvs, hx, e'⟩
    · subst e'
      obtain ⟨its, r, pl, hz⟩ := I.list hx
      have hlen := r.length
      exact wpAny_truthy_list pl.isList (by simp only [List.size_toArray]; omega) ⟨H, I.tok _, by rw [isEmpty_of r]; exact q⟩
    · subst e'
      obtain ⟨its, r, pl, hz⟩ := I.tuple hx
      have hlen := r.length
      exact truthy_tuple pl (by simp only [List.size_toArray]; omega) ⟨H, I.tok _, by rw [isEmpty_of r]; exact q⟩
    · subst e'
      obtain ⟨hz, hS, vs, r, m⟩ : kvs.length <= sizeLine /\ (p == sysModules) = false /\ ∃ vs, KV kvs vs /\ s.heap.DictOf (mixKind X.prog X.w) p vs := I.hok p _ hx
      have hlen : kvs.length = vs.length := Paired.length r
      exact wpAny_truthy_dict hS m (by omega) ⟨H, I.tok _, by rw [isEmpty_kv r]; exact q⟩
  | _ => exact (show False from e).elim
theorem pt_truth (ha : PE X a ta) (he : ∀ whole, isTrue a X.env whole = (do let v ← whole; standAt a.pos; holding [v] (truthy v))) :
    PT X a (fun σ H Q => ta σ H fun x H' => ∃ k, TruV X.K x H' k /\ Q k H') := by
  intro pins s σ H Q I h
  exact isTrue_plain (thn (ha pins s σ H _ I h) fun v s1 ⟨x, H1, I1, r1, q1⟩ => tru_ok pins s1 σ H1 x v Q I1 r1 q1) (he _)
theorem op_add_str : OpR X (binaryOp .Add) (fun x y H Q => ∃ i j, x = .str i /\ y = .str j /\ i.length + j.length <= sizeLine /\ Q (.str (i ++ j)) H) := by
  intro pins s σ H x y v u Q I rx ry h
  obtain ⟨i, j, rfl, rfl, hz, q⟩ := h
  obtain ⟨t, rfl⟩ := rx
  obtain ⟨t', rfl⟩ := ry
  exact add_str (fun t' tk => ⟨.str (i ++ j), H, I.tok _, ⟨_, rfl⟩, q⟩) hz
theorem vals1 {x : V} {us : List Value} (r : Vals [x] us) : ∃ u, us = [u] /\ RelV x u := by
  cases r with
  | cons r1 r2 => cases r2; exact ⟨_, rfl, r1⟩
theorem vals2 {x y : V} {us : List Value} (r : Vals [x, y] us) : ∃ u w', us = [u, w'] /\ RelV x u /\ RelV y w' := by
  cases r with
  | cons r1 r2 =>
    cases r2 with
    | cons r3 r4 => cases r4; exact ⟨_, _, rfl, r1, r3⟩
theorem call_abs : CallR X (.builtin "abs") (fun xs H Q => ∃ i, xs = [.int i] /\ Q (.int (if i < 0 then -i else i)) H) := by
  intro pins s σ H xs us Q I r h
  obtain ⟨i, rfl, q⟩ := h
  obtain ⟨u, rfl, t, rfl⟩ := vals1 r
  exact call_abs_int fun u tk => ⟨.int (if i < 0 then -i else i), H, I.tok _, ⟨_, rfl⟩, q⟩
theorem call_str_int : CallR X (.type "str") (fun xs H Q => ∃ i, xs = [.int i] /\ i.natAbs.log2 < 1920 /\ Q (.str (toString i)) H) := by
  intro pins s σ H xs us Q I r h
  obtain ⟨i, rfl, hz, q⟩ := h
  obtain ⟨u, rfl, t, rfl⟩ := vals1 r
  exact PySem.P.str_of_int hz ⟨.str _, H, I.tok _, ⟨_, rfl⟩, q⟩
end
end L2
namespace L2
open PySem PySem.Spec PyProof.Rows
structure ObjM (h : Heap) (x dx C : Addr) (mA : Str -> Option Value) : Prop where
  obj : h.get? x = some (PySem.W.instObj C dx)
  ns : h.Ns1 dx mA
  ne : dx ≠ x
theorem lookIn_ns {h : Heap} {dx : Addr} {mA : Str -> Option Value} (n : h.Ns1 dx mA) : ∃ od, h.get? dx = some od /\ ∀ name, PySem.W.lookIn name od = some (mA name) := by
  obtain ⟨o, es, ep, ho, hd, hk, _, hm⟩ := n
  refine ⟨o, ho, fun name => ?_⟩
  have e := hm name
  unfold nsFind findBy at e
  rw [← Array.find?_toList] at e
  unfold PySem.W.lookIn
  rw [hd]
  dsimp only
  split
  · rename_i y q
    rw [q] at e
    exact congrArg some e
  · rename_i q
    rw [q] at e
    have a : es.toList.any (·.refKey) = false := by
      rw [List.any_eq_false]
      intro y hy
      obtain ⟨z, t, hkey⟩ := hk y (Array.mem_toList_iff.mp hy)
      simp [DictEntry.refKey, hkey]
    have a' : ¬ es.toList.any (·.refKey) = true := by rw [a]; exact Bool.false_ne_true
    rw [if_neg a']
    exact congrArg some e
theorem ObjM.look {h : Heap} {x dx C : Addr} {mA : Str -> Option Value} (I : ObjM h x dx C mA) : ∃ od, PySem.W.InstAt h x (PySem.W.instObj C dx) C (some od) /\ ∀ name, PySem.W.lookIn name od = some (mA name) :=
  let ⟨od, ho, hl⟩ := lookIn_ns I.ns
  ⟨od, ⟨I.obj, rfl, rfl, ho⟩, hl⟩
section
variable {prog : Program} {w : World} {A : Around} {E : Value -> Shared -> Prop} {s : Shared} {K : PySem.W.Frag} {x dx C f : Addr} {mA : Str -> Option Value} {name : Str} {v : Value}
theorem get_map {expr : Bool} {Q : Value -> Shared -> Prop} (X : K.In s.heap) (I : ObjM s.heap x dx C mA) (hg : PySem.W.plainGet K C name = true) (hh : PySem.W.hasDictIn K C = true)
    (ha : PySem.W.findIn K (.ref C) name = some none) (hv : mA name = some v) (hv' : PySem.W.handedIn v = true) (h : Q v { s with toks := s.toks + 1 }) :
    wpAny (model prog w) A (getAttr (.ref x) name expr) Q E s := by
  obtain ⟨od, J, hl⟩ := I.look
  exact PySem.W.get_value X J (PySem.W.plainGet_of hg).1 (PySem.W.findObj_own hh ha rfl (by rw [hl, hv])) hv' h
theorem get_meth {pl : Sem Bool} {Q : Value × List Value -> Shared -> Prop} (X : K.In s.heap) (I : ObjM s.heap x dx C mA) (hg : PySem.W.plainGet K C name = true)
    (hf : PySem.W.findIn K (.ref C) name = some (some (.ref f))) (ht : PySem.W.isFn K (.ref f) = true) (hv : mA name = none) (h : Q (.ref f, [.ref x]) s) :
    wpAny (model prog w) A (getMethod (.ref x) name pl) Q E s := by
  obtain ⟨od, J, hl⟩ := I.look
  exact PySem.W.method_fn X J (PySem.W.plainGet_of hg).1 (PySem.W.plainGet_of hg).2 hf (beq_iff_eq.mp ht) (by show (PySem.W.lookIn name od).map (·.isSome) = some false; rw [hl, hv]; rfl) h
theorem set_map {ns : List Str} {Q : Unit -> Shared -> Prop} (X : K.In s.heap) (I : ObjM s.heap x dx C mA)
    (hs : PySem.W.findIn K (.ref C) "__setattr__" = some (some (.builtin "object.__setattr__"))) (hp : PySem.W.plainOver K C = true) (ht : PySem.W.takerIn K C name = some none) (hh : PySem.W.hasDictIn K C = true)
    (hw : PySem.Within mA ns) (hsz : ns.length <= sizeLine)
    (h : ∀ h', ObjM h' x dx C (fun y => if y = name then some v else mA y) -> Heap.SameBut dx s.heap h' -> Q () { s with heap := h', toks := s.toks + 2 }) :
    wpAny (model prog w) A (setAttr (.ref x) name v) Q E s := by
  obtain ⟨od, J, hl⟩ := I.look
  refine PySem.W.set_plain X J hs (PySem.W.osa_open (s := { s with toks := s.toks + 1 }) (r := none) X J hp ht fun b => ?_)
  obtain ⟨cd, hc, hd'⟩ := PySem.W.any_some hh
  have hx : s.heap.get? x = some ⟨.ref C, some dx, .plain, #[]⟩ := I.obj
  refine wpAny_bind (wpAny_pure (wpAny_bind (wpAny_bind (wpAny_loadPart hx (wpAny_bind (PySem.W.Looks.here (s := { s with toks := s.toks + 1 }) (PySem.W.looks_clsIn X hc) ?_))))))
  rw [hd']
  refine wpAny_pure (a := some dx) (wpAny_bind (wpAny_pure (wpAny_bind ?_)))
  refine wpAny_nsSet1 (s := { s with toks := s.toks + 1 }) I.ns fun h' hn2 hs2 => ?_
  obtain ⟨oD, esD, epD, hoD, hdD, hcD⟩ := hn2.count (PySem.Within.cons name v hw)
  refine wpAny_bind (wpAny_lookBehind hoD (by rw [hdD]; exact pastItsLine_dict (Nat.le_trans hcD (by rw [List.length_cons]; omega))) ?_)
  exact wpAny_pure (h _ ⟨(hs2.2 _ (Ne.symm I.ne)).trans I.obj, hn2, I.ne⟩ hs2)
theorem make_map {R : Result -> Shared -> Prop} {vs : List Value} {kw : List (Str × Value)} (X : K.In s.heap) (hm : PySem.W.makesIn K C = true)
    (hi : PySem.W.findIn K (.ref C) "__init__" = some (some (.ref f))) (hf : PySem.W.typeIn K (.ref f) = some (.type "function"))
    (h : codeAny (model prog w) (A.under (.builtin "type.__call__" ⟨.ref C :: vs, kw⟩)) (.call (.ref f) ⟨.ref (s.heap.objs.size + 1) :: vs, kw⟩) (PySem.W.InitBack (s.heap.objs.size + 1) R)
      { s with heap := (s.heap.push PySem.W.emptyDict).push (PySem.W.instObj C s.heap.objs.size) }) :
    codeAny (model prog w) A (.call (.ref C) ⟨vs, kw⟩) R s := by
  obtain ⟨hh, g, d, t, os⟩ := s
  exact PySem.W.make_core (PySem.W.makes_of X hm) (PySem.W.looks_findIn X hi) (fun self => PySem.W.bind_fn X self hf) (.inl rfl) h
end
noncomputable def putF (f : Str) (v : V) : List (Str × V) -> List (Str × V)
  | [] => [(f, v)]
  | (g, x) :: r => if g = f then (g, v) :: r else (g, x) :: putF f v r
theorem lookup_putF (f g : Str) (v : V) : ∀ fs : List (Str × V), (putF f v fs).lookup g = if g = f then some v else fs.lookup g
  | [] => by
    show List.lookup g [(f, v)] = _
    by_cases h : g = f
    · have hb : (g == f) = true := beq_iff_eq.mpr h
      simp only [List.lookup, hb, if_pos h]
    · have hb : (g == f) = false := beq_eq_false_iff_ne.mpr h
      simp only [List.lookup, hb, if_neg h]
  | (k, x) :: r => by
    have ih := lookup_putF f g v r
    rw [show putF f v ((k, x) :: r) = (if k = f then (k, v) :: r else (k, x) :: putF f v r) from rfl]
    by_cases hk : k = f
    · rw [if_pos hk]
      by_cases h : g = k
      · have hb : (g == k) = true := beq_iff_eq.mpr h
        simp only [List.lookup, hb, if_pos (h.trans hk)]
      · have hb : (g == k) = false := beq_eq_false_iff_ne.mpr h
        simp only [List.lookup, hb, if_neg (fun e : g = f => h (e.trans hk.symm))]
    · rw [if_neg hk]
      by_cases h : g = k
      · have hb : (g == k) = true := beq_iff_eq.mpr h
        simp only [List.lookup, hb, if_neg (fun e : g = f => hk (h.symm.trans e))]
      · have hb : (g == k) = false := beq_eq_false_iff_ne.mpr h
        simp only [List.lookup, hb]
        exact ih
theorem keys_putF (f : Str) (v : V) : ∀ fs : List (Str × V), f ∈ (putF f v fs).map (·.1) /\ ∀ g, g ∈ fs.map (·.1) -> g ∈ (putF f v fs).map (·.1)
  | [] => ⟨by simp [putF], fun g h => by simp at h⟩
  | (k, x) :: r => by
    obtain ⟨i1, i2⟩ := keys_putF f v r
    rw [show putF f v ((k, x) :: r) = (if k = f then (k, v) :: r else (k, x) :: putF f v r) from rfl]
    by_cases hk : k = f
    · rw [if_pos hk]
      subst hk
      exact ⟨by simp, fun g h => by simpa using h⟩
    · rw [if_neg hk]
      refine ⟨?_, fun g h => ?_⟩
      · rw [List.map_cons]
        exact List.mem_cons_of_mem _ i1
      · rw [List.map_cons] at h ⊢
        rcases List.mem_cons.mp h with e | e
        · exact List.mem_cons.mpr (.inl e)
        · exact List.mem_cons_of_mem _ (i2 g e)
theorem length_putF (f : Str) (v : V) : ∀ fs : List (Str × V), (putF f v fs).length <= fs.length + 1
  | [] => by simp [putF]
  | (k, x) :: r => by
    have ih := length_putF f v r
    rw [show putF f v ((k, x) :: r) = (if k = f then (k, v) :: r else (k, x) :: putF f v r) from rfl]
    by_cases hk : k = f
    · rw [if_pos hk, List.length_cons, List.length_cons]; omega
    · rw [if_neg hk, List.length_cons, List.length_cons]; omega
theorem RelO.some_of {v : V} {o : Option Value} (r : RelO (some v) o) : ∃ u, o = some u /\ RelV v u := by
  cases o with
  | none => exact (show False from r).elim
  | some u => exact ⟨u, rfl, r⟩
theorem RelO.none_of {o : Option Value} (r : RelO none o) : o = none := by
  cases o with
  | none => rfl
  | some u => exact (show False from r).elim
theorem handed_of {v : V} {u : Value} (r : RelV v u) : PySem.W.handedIn u = true := by
  cases v with
  | non => cases (show u = Value.none from r); rfl
  | bl b => cases (show u = Value.bool b from r); rfl
  | int i => obtain ⟨t, e⟩ := (show ∃ t, u = Value.int i t from r); cases e; rfl
  | str x => obtain ⟨t, e⟩ := (show ∃ t, u = Value.str x t from r); cases e; rfl
  | byt b => obtain ⟨t, e⟩ := (show ∃ t, u = Value.bytes b t from r); cases e; rfl
  | flt b => obtain ⟨t, e⟩ := (show ∃ t, u = Value.float b t from r); cases e; rfl
  | ref a => cases (show u = Value.ref a from r); rfl
  | ty n => cases (show u = Value.type n from r); rfl
section
variable {P : Program} {w : World} {H H' : Hp} {h h' : Heap} {a C dx : Addr} {fs fs' : List (Str × V)}
theorem ins_get (hok : HOk P w H h) (e : H a = some (.ins C dx fs)) : ∃ mA, ObjM h a dx C mA /\ (∀ f, RelO (fs.lookup f) (mA f)) /\ PySem.Within mA (fs.map (·.1)) /\ fs.length <= 1000 /\ H dx = some (.own a) := by
  obtain ⟨d, z, ne, ob, mA, n, r, q⟩ := (show ObjOk P w H h a (.ins C dx fs) from hok a _ e)
  exact ⟨mA, ⟨ob, n, ne⟩, r, q, z, d⟩
end
structure Cls (K : PySem.W.Frag) (C : Addr) : Prop where
  pg : PySem.W.plainGet K C Str.empty = true
  hd : PySem.W.hasDictIn K C = true
  po : PySem.W.plainOver K C = true
  sa : PySem.W.findIn K (.ref C) "__setattr__" = some (some (.builtin "object.__setattr__"))
theorem Cls.get {K : PySem.W.Frag} {C : Addr} (c : Cls K C) (f : Str) : PySem.W.plainGet K C f = true := c.pg
noncomputable def NoAttr (K : PySem.W.Frag) (C : Addr) (f : Str) : Prop := PySem.W.findIn K (.ref C) f = some none
theorem NoAttr.taker {K : PySem.W.Frag} {C : Addr} {f : Str} (n : NoAttr K C f) : PySem.W.takerIn K C f = some none := by
  unfold PySem.W.takerIn
  rw [show PySem.W.findIn K (.ref C) f = some none from n]
  rfl
structure Con (K : PySem.W.Frag) (C : Addr) (f : Str) (v : V) (u : Value) : Prop where
  at_ : PySem.W.findIn K (.ref C) f = some (some u)
  rel : RelV v u
  get : PySem.W.specialIn K u "__get__" = some none
  cp : PySem.W.copiedNames.contains f = false
structure Meth (K : PySem.W.Frag) (C : Addr) (m : Str) (f : Addr) : Prop where
  at_ : PySem.W.findIn K (.ref C) m = some (some (.ref f))
  fn : PySem.W.isFn K (.ref f) = true
  kp : PySem.W.keepIn K (.ref f) = true
section
variable {X : Cx} {pins : List (Addr × Obj)} {σ : St} {H : Hp} {s : Shared} {a C dx : Addr} {fs : List (Str × V)} {f : Str} {v : V} {A : Around} {E : Value -> Shared -> Prop}
theorem getattr_ok {b : Bool} {Q : Value -> Shared -> Prop} (I : Inv X pins σ H s) (e : H a = some (.ins C dx fs)) (c : Cls X.K C) (n : NoAttr X.K C f) (l : fs.lookup f = some v)
    (h : ∀ u s', Inv X pins σ H s' -> RelV v u -> Q u s') : wpAny (model X.prog X.w) A (getAttr (.ref a) f b) Q E s := by
  obtain ⟨mA, O, r, _, _, _⟩ := ins_get I.hok e
  obtain ⟨u, hu, ru⟩ := RelO.some_of (v := v) (o := mA f) (by rw [← l]; exact r f)
  exact get_map I.kIn O (c.get f) c.hd n hu (handed_of ru) (h u _ (I.tok _) ru)
theorem getmeth_ok {m : Str} {g : Addr} {pl : Sem Bool} {Q : Value × List Value -> Shared -> Prop} (I : Inv X pins σ H s) (e : H a = some (.ins C dx fs)) (c : Cls X.K C) (k : Meth X.K C m g) (l : fs.lookup m = none)
    (h : Q (.ref g, [.ref a]) s) : wpAny (model X.prog X.w) A (getMethod (.ref a) m pl) Q E s := by
  obtain ⟨mA, O, r, _, _, _⟩ := ins_get I.hok e
  have hn : mA m = none := RelO.none_of (by rw [← l]; exact r m)
  exact get_meth I.kIn O (c.get m) k.at_ k.fn hn h
theorem setattr_ok {y : V} {u : Value} {Q : Unit -> Shared -> Prop} (I : Inv X pins σ H s) (e : H a = some (.ins C dx fs)) (c : Cls X.K C) (n : NoAttr X.K C f) (hl : fs.length < 1000) (ry : RelV y u)
    (h : ∀ s', Inv X pins σ (upd H a (.ins C dx (putF f y fs))) s' -> Q () s') : wpAny (model X.prog X.w) A (setAttr (.ref a) f u) Q E s := by
  obtain ⟨mA, O, r, wi, _, ho⟩ := ins_get I.hok e
  have hz : (fs.map (·.1)).length <= sizeLine := by rw [List.length_map, sizeLine_eq]; omega
  refine set_map I.kIn O c.sa c.po n.taker c.hd wi hz fun h' O' sb => h _ ?_
  have hd : ∃ o, h'.get? dx = some o := let ⟨o, _, _, e', _⟩ := O'.ns; ⟨o, e'⟩
  refine I.write (x := a) (e := dx) (by rw [e]; exact True.intro) (.inr ho) (fun b q hb z => (sb.2 b hb).trans z) hd ?_
  refine ⟨by rw [upd_ne O.ne]; exact ho, ?_, O.ne, O'.obj, _, O'.ns, fun g => ?_, fun g hg => ?_⟩
  · have := length_putF f y fs; omega
  · show RelO ((putF f y fs).lookup g) (if g = f then some u else mA g)
    rw [lookup_putF]
    by_cases q : g = f
    · rw [if_pos q, if_pos q]; exact ry
    · rw [if_neg q, if_neg q]; exact r g
  · by_cases q : g = f
    · rw [q]; exact (keys_putF f y fs).1
    · refine (keys_putF f y fs).2 g (wi g fun z => hg ?_)
      show (if g = f then some u else mA g) = none
      rw [if_neg q]; exact z
theorem Inv.made (I : Inv X pins σ H s) : Inv X pins σ (upd (upd H s.heap.objs.size (.own (s.heap.objs.size + 1))) (s.heap.objs.size + 1) (.ins C s.heap.objs.size []))
    { s with heap := (s.heap.push PySem.W.emptyDict).push (PySem.W.instObj C s.heap.objs.size) } := by
  have e1 : (s.heap.push PySem.W.emptyDict).get? s.heap.objs.size = some PySem.W.emptyDict := Heap.get?_push_size s.heap rfl
  have e2 : ((s.heap.push PySem.W.emptyDict).push (PySem.W.instObj C s.heap.objs.size)).get? (s.heap.objs.size + 1) = some (PySem.W.instObj C s.heap.objs.size) := by
    have := Heap.get?_push_size (s.heap.push PySem.W.emptyDict) (o := PySem.W.instObj C s.heap.objs.size) rfl
    rwa [Heap.size_push] at this
  have e3 : (s.heap.push PySem.W.emptyDict).Ns s.heap.objs.size (fun _ => none) := ⟨PySem.W.emptyDict, #[], _, e1, rfl, (fun e he => absurd he (by simp)), fun _ => rfl⟩
  have I1 := I.laid (a := s.heap.objs.size) (o := .own (s.heap.objs.size + 1)) (h' := s.heap.push PySem.W.emptyDict) (t' := s.toks) (fun b u q => Heap.get?_push_of_some _ q) (Nat.le_refl _) ⟨_, e1⟩
  refine I1.laid (a := s.heap.objs.size + 1) (o := .ins C s.heap.objs.size []) (t' := s.toks) (fun b u q => Heap.get?_push_of_some _ q) (Nat.le_of_eq (Heap.size_push _ _)) ?_
  have ne : s.heap.objs.size ≠ s.heap.objs.size + 1 := Nat.ne_of_lt (Nat.lt_succ_self _)
  refine ⟨by rw [upd_ne ne, upd_same], Nat.zero_le _, ne, e2, fun _ => none, (Heap.Ns1.of_empty e3).at fun o q => Heap.get?_push_of_some _ q, fun _ => True.intro, fun y hy => absurd rfl hy⟩
theorem attr_of {prog : Program} {w : World} {env : Env} {e : Expr} {f : Str} {pos : Pos} {s : Shared} {Q : Value -> Shared -> Prop} (hb : attributeBase e f env (eval e env) = eval e env)
    (h : wpAny (model prog w) A (eval e env) (fun o s₁ => wpAny (model prog w) A (getAttr o f true) Q E s₁) E s) : wpAny (model prog w) A (eval (.Attribute e f pos) env) Q E s :=
  Attribute_any_ h (by rw [arm_eval_Attribute, hb])
end
noncomputable def tFld (K : PySem.W.Frag) (ta : TE) (f : Str) : TE := fun σ H Q => ta σ H fun x H1 => ∃ a C dx fs v, x = .ref a /\ H1 a = some (.ins C dx fs) /\ Cls K C /\ NoAttr K C f /\ fs.lookup f = some v /\ Q v H1
noncomputable def sFld (K : PySem.W.Frag) (ta tv : TE) (f : Str) : TS := fun D σ H => tv σ H fun y H1 => ta σ H1 fun x H2 => ∃ a C dx fs, x = .ref a /\ H2 a = some (.ins C dx fs) /\ Cls K C /\ NoAttr K C f /\ fs.length < 1000 /\
  D.nx σ (upd H2 a (.ins C dx (putF f y fs)))
noncomputable def InOp (X : Cx) (op : Operator) (rd : V -> V -> Hp -> VK -> Prop) : Prop :=
  ∀ (pins : List (Addr × Obj)) (s : Shared) (σ : St) (H : Hp) (x y : V) (u v : Value) (Q : VK), Inv X pins σ H s -> RelV x u -> RelV y v -> rd x y H Q -> wpAny (model X.prog X.w) X.A (inplaceOp op u v) (EP X pins σ Q) X.xe s
noncomputable def sFldAug (K : PySem.W.Frag) (ta tv : TE) (rd : V -> V -> Hp -> VK -> Prop) (f : Str) : TS := fun D σ H => ta σ H fun x H1 => ∃ a C dx fs v, x = .ref a /\ H1 a = some (.ins C dx fs) /\ Cls K C /\ NoAttr K C f /\ fs.lookup f = some v /\
  tv σ H1 fun y H2 => rd v y H2 fun z H3 => ∃ dx' fs', H3 a = some (.ins C dx' fs') /\ fs'.length < 1000 /\ D.nx σ (upd H3 a (.ins C dx' (putF f z fs')))
section
variable {X : Cx} {o e value : Expr} {f : Str} {pos pos' tpos : Pos} {ta tv : TE}
theorem pe_fld (he : PE X e ta) (hb : attributeBase e f X.env (eval e X.env) = eval e X.env) : PE X (.Attribute e f pos) (tFld X.K ta f) := by
  intro pins s σ H Q I h
  refine attr_of hb (thn (he pins s σ H _ I h) fun u s1 ⟨x, H1, I1, rx, a, C, dx, fs, v, ex, ea, c, n, l, q⟩ => ?_)
  subst ex
  obtain rfl : u = Value.ref a := rx
  exact getattr_ok I1 ea c n l fun u' s2 I2 ru => ⟨v, H1, I2, ru, q⟩
theorem ps_fld (ha : PE X o ta) (hv : PE X value tv) (hs : swapsWith value (some (.Attribute o f pos')) pos.line X.env = pure false) : PS X (.Assign [.Attribute o f pos'] value pos) (sFld X.K ta tv f) := by
  intro pins s σ H D I h
  refine plainObj_wpAny_Assign_Attribute (thn (hv pins s σ H _ I h) fun u s1 ⟨y, H1, I1, ry, q⟩ => thn (ha pins s1 σ H1 _ I1 q) fun ov s2 ⟨x, H2, I2, rx, a, C, dx, fs, ex, ea, c, n, l, q2⟩ => ?_) hs
  subst ex
  obtain rfl : ov = Value.ref a := rx
  exact setattr_ok I2 ea c n l ry fun s3 I3 => ⟨σ, _, I3, q2⟩
theorem ps_fldaug {op : Operator} {rd : V -> V -> Hp -> VK -> Prop} (ha : PE X o ta) (hv : PE X value tv) (hop : InOp X op rd) : PS X (.AugAssign (.Attribute o f tpos) op value pos) (sFldAug X.K ta tv rd f) := by
  intro pins s σ H D I h
  refine wpAny_AugAssign_AttributeAny (thn (ha pins s σ H _ I h) fun ov s1 ⟨x, H1, I1, rx, a, C, dx, fs, v, ex, ea, c, n, l, q⟩ => ?_)
  subst ex
  obtain rfl : ov = Value.ref a := rx
  refine getattr_ok I1 ea c n l fun u s2 I2 ru => thn (hv pins s2 σ H1 _ I2 q) fun w3 s3 ⟨y, H2, I3, ry, q3⟩ => thn (hop pins s3 σ H2 v y u w3 _ I3 ru ry q3) fun w4 s4 ⟨z, H3, I4, rz, dx', fs', ea', l', q4⟩ => ?_
  exact setattr_ok I4 ea' c n l' rz fun s5 I5 => ⟨σ, _, I5, q4⟩
noncomputable def rAdd : V -> V -> Hp -> VK -> Prop := fun x y H Q => ∃ i j, x = .int i /\ y = .int j /\ Q (.int (i + j)) H
noncomputable def rSub : V -> V -> Hp -> VK -> Prop := fun x y H Q => ∃ i j, x = .int i /\ y = .int j /\ Q (.int (i - j)) H
theorem in_add : InOp X .Add rAdd := by
  rintro pins s σ H x y u v Q I rx ry ⟨i, j, rfl, rfl, q⟩
  obtain ⟨t, rfl⟩ := (show ∃ t, u = Value.int i t from rx)
  obtain ⟨t', rfl⟩ := (show ∃ t', v = Value.int j t' from ry)
  exact PyProof.Rows.iadd_int ⟨.int (i + j), H, I.tok _, ⟨_, rfl⟩, q⟩
theorem in_sub : InOp X .Sub rSub := by
  rintro pins s σ H x y u v Q I rx ry ⟨i, j, rfl, rfl, q⟩
  obtain ⟨t, rfl⟩ := (show ∃ t, u = Value.int i t from rx)
  obtain ⟨t', rfl⟩ := (show ∃ t', v = Value.int j t' from ry)
  exact PyProof.Rows.isub_int ⟨.int (i - j), H, I.tok _, ⟨_, rfl⟩, q⟩
end
section
variable {X : Cx} {pins : List (Addr × Obj)} {σ : St} {H : Hp} {s : Shared} {A : Around} {E : Value -> Shared -> Prop} {Q : Value -> Shared -> Prop} {c : Value} {b : Bool}
inductive TyOf (K : PySem.W.Frag) (H : Hp) : V -> Value -> Prop where
  | non : TyOf K H .non (.type "NoneType")
  | bl (x : Bool) : TyOf K H (.bl x) (.type "bool")
  | int (i : Int) : TyOf K H (.int i) (.type "int")
  | str (x : Str) : TyOf K H (.str x) (.type "str")
  | flt (x : UInt64) : TyOf K H (.flt x) (.type "float")
  | lst {a : Addr} {xs : List V} (e : H a = some (.lst xs)) : TyOf K H (.ref a) (.type "list")
  | frz {a : Addr} {o : Obj} {xs : List V} (e : H a = some (.frz o (.lst xs))) : TyOf K H (.ref a) (.type "list")
  | tup {a : Addr} {xs : List V} (e : H a = some (.tup xs)) : TyOf K H (.ref a) (.type "tuple")
  | dK {a : Addr} {kvs : List (Key × V)} (e : H a = some (.dK kvs)) : TyOf K H (.ref a) (.type "dict")
  | dT {a : Addr} {kvs : List (List Key × V)} (e : H a = some (.dT kvs)) : TyOf K H (.ref a) (.type "dict")
  | ins {a C dx : Addr} {fs : List (Str × V)} (e : H a = some (.ins C dx fs)) (cl : Cls K C) (ha : PySem.W.findIn K (.ref C) "__class__" = some (some (.builtin "object.__class__")))
      (hn : PySem.W.specialIn K (.builtin "object.__class__") "__get__" = some (some (.builtin "getset_descriptor.__get__"))) (htk : PySem.W.takesIn K (.builtin "object.__class__") = some true)
      (hm : PySem.W.mroIn K C (.type "object") = some true) : TyOf K H (.ref a) (.ref C)
end
end L2
namespace L2
open PySem PySem.Spec PyProof.Rows
structure Room (k : Nat) (A : Around) : Prop where
  hd : A.handled = none
  dp : A.depth + 3 * k + 5 < recursionLimit
  un : A.units + 16 * k + 200 < cLine
theorem Room.mono {j k : Nat} {A : Around} (r : Room k A) (h : j <= k) : Room j A := ⟨r.hd, by have := r.dp; omega, by have := r.un; omega⟩
theorem Room.deeper {k : Nat} {A : Around} (r : Room (k + 1) A) (env : Env) : Room k (A.deeper env) :=
  ⟨r.hd, by have := r.dp; show A.depth + 1 + 3 * k + 5 < _; omega, by have := r.un; show A.units + 3 + 16 * k + 200 < _; omega⟩
theorem make_depth {A : Around} {C : Addr} {us : List Value} {kw : List (Str × Value)} : (A.under (.builtin "type.__call__" ⟨.ref C :: us, kw⟩)).depth = A.depth + 1 := by
  first | rfl | simp [Around.under, Code.weight, Code.isCreation, Code.isGuard, Code.isCaller, Code.frames, Code.isFrame, guardIds]
theorem make_units {A : Around} {C : Addr} {us : List Value} {kw : List (Str × Value)} : (A.under (.builtin "type.__call__" ⟨.ref C :: us, kw⟩)).units = A.units + 1 := by
  first | rfl | simp [Around.under, Code.cUnits, Code.frames, Code.isFrame]
theorem Room.make {k : Nat} {A : Around} (r : Room (k + 1) A) (C : Addr) (us : List Value) (kw : List (Str × Value)) : Room k (A.under (.builtin "type.__call__" ⟨.ref C :: us, kw⟩)) :=
  ⟨r.hd, by have := r.dp; rw [make_depth]; omega, by have := r.un; rw [make_units]; omega⟩
theorem Room.depth {k : Nat} {A : Around} (r : Room k A) : A.depth < recursionLimit := by have := r.dp; omega
theorem Room.units {k : Nat} {A : Around} (r : Room k A) : A.units + 64 < cLine := by have := r.un; omega
noncomputable def tNil : TA := fun _ H Q => Q [] H
noncomputable def tCons (ta : TE) (tr : TA) : TA := fun σ H Q => ta σ H fun x H1 => tr σ H1 fun xs H2 => Q (x :: xs) H2
section
variable {X : Cx} {e : Expr} {es : List Expr} {te : TE} {t : TA} {pos : Pos}
theorem pa_nil : PA X [] tNil := fun _ _ _ _ H Q I h => Calls.spliced_nil ⟨[], H, I, .nil, h⟩
theorem pa_cons (ha : PE X e te) (hr : PA X es t) (hs : starEach (e :: es) X.env = (false, eval e X.env) :: starEach es X.env := by rfl) : PA X (e :: es) (tCons te t) := by
  intro pos pins s σ H Q I h
  rw [hs]
  show wpAny _ _ (spliced ((false, eval e X.env) :: backTo pos (starEach es X.env))) _ _ s
  refine Calls.spliced_cons (thn (ha pins s σ H _ I h) fun u s1 ⟨x, H1, I1, r1, q1⟩ => ?_)
  exact thn (hr pos pins s1 σ H1 _ I1 q1) fun us s2 ⟨xs, H2, I2, r2, q2⟩ => ⟨x :: xs, H2, I2, .cons r1 r2, q2⟩
noncomputable def tTup (t : TA) : TE := fun σ H Q => t σ H fun xs H1 => xs.length <= sizeLine /\ ∀ p, H1 p = none -> Q (.ref p) (upd H1 p (.tup xs))
noncomputable def tLst (t : TA) : TE := fun σ H Q => t σ H fun xs H1 => xs.length <= sizeLine /\ ∀ p, H1 p = none -> Q (.ref p) (upd H1 p (.lst xs))
theorem pe_tup {x1} (h : PA X es t) : PE X (.Tuple es x1 pos) (tTup t) := by
  intro pins s σ H Q I hq
  refine wpAny_Tuple_spliced (thn (h pos pins s σ H _ I hq) fun us s1 ⟨xs, H1, I1, r, z, q⟩ => ⟨by rw [← r.length]; exact z, ?_⟩)
  have hf : H1 s1.heap.objs.size = none := I1.hok.fresh (Nat.le_refl _)
  refine ⟨.ref s1.heap.objs.size, upd H1 s1.heap.objs.size (.tup xs), I1.laid (t' := s1.toks) (fun b u e => Heap.get?_push_of_some _ e) (Nat.le_refl _) ?_, rfl, q _ hf⟩
  exact ⟨z, us, r, ⟨_, Heap.get?_push_size _ rfl, rfl, _, rfl⟩⟩
theorem pe_lst (h : PA X es t) : PE X (.List es pos) (tLst t) := by
  intro pins s σ H Q I hq
  refine wpAny_List_spliced (thn (h pos pins s σ H _ I hq) fun us s1 ⟨xs, H1, I1, r, z, q⟩ => ⟨by rw [← r.length]; exact z, ?_⟩)
  have hf : H1 s1.heap.objs.size = none := I1.hok.fresh (Nat.le_refl _)
  refine ⟨.ref s1.heap.objs.size, upd H1 s1.heap.objs.size (.lst xs), I1.laid (t' := s1.toks) (fun b u e => Heap.get?_push_of_some _ e) (Nat.le_refl _) ?_, rfl, q _ hf⟩
  exact ⟨z, us, 0, r, Heap.get?_push_size _ rfl⟩
end
noncomputable abbrev Sp := List V -> Hp -> VK -> XK -> Prop
noncomputable abbrev CXT := List Env -> Hp -> Shared -> XK -> Value -> Shared -> Prop
structure Env0 (P : Program) (w : World) (K : PySem.W.Frag) (mg : Str -> Option Value) (base : Heap) (A : Around) (outer : List Env) (s : Shared) (H : Hp) : Prop where
  frames : A.frames = some outer
  mod : Mod K mg base
  bs : ∀ b o, base.get? b = some o -> s.heap.get? b = some o /\ H b = none
  bsz : base.objs.size <= s.heap.objs.size
  funs : s.heap.FunFrames base outer
  frf : ∀ b ∈ frs outer, H b = none
  hok : HOk P w H s.heap
  bare : AllBare s.gens
noncomputable def CE (outer : List Env) (P : Program) (w : World) (H : Hp) (s : Shared) (Q : VK) (u : Value) (s' : Shared) : Prop :=
  ∃ v H', s'.os = s.os /\ AllBare s'.gens /\ Un (frs outer) [] H H' s.heap s'.heap /\ HOk P w H' s'.heap /\ RelV v u /\ Q v H'
noncomputable def CR (CX : CXT) (outer : List Env) (P : Program) (w : World) (H : Hp) (s : Shared) (Q : VK) (E : XK) (r : Result) (s' : Shared) : Prop :=
  match r with
  | .ok (.ret u) => CE outer P w H s Q u s'
  | .ok _ => False
  | .error e => CX outer H s E e s'
structure FnOk (P : Program) (w : World) (K : PySem.W.Frag) (mg : Str -> Option Value) (base : Heap) (CX : CXT) (k : Nat) (f : Addr) (fd : FuncData) (ps : List Str) (sp : Sp) : Prop where
  len : ∀ vs H Q E, sp vs H Q E -> vs.length = ps.length
  run : ∀ (A : Around) (outer : List Env) (s : Shared) (H : Hp) (args : Args) (us : List Value) (vs : List V) (Q : VK) (E : XK), Room k A -> Env0 P w K mg base A outer s H -> BindsTo s fd args (ps.zip us) -> Vals vs us -> sp vs H Q E ->
    codeAny (model P w) A (.call (.ref f) args) (CR CX outer P w H s Q E) s
theorem FnOk.mono {P : Program} {w : World} {K : PySem.W.Frag} {mg : Str -> Option Value} {base : Heap} {CX : CXT} {j k : Nat} {f : Addr} {fd : FuncData} {ps : List Str} {sp : Sp} (F : FnOk P w K mg base CX j f fd ps sp) (h : j <= k) :
    FnOk P w K mg base CX k f fd ps sp := ⟨F.len, fun A outer s H args us vs Q E hr => F.run A outer s H args us vs Q E (hr.mono h)⟩
theorem FnOk.imp {P : Program} {w : World} {K : PySem.W.Frag} {mg : Str -> Option Value} {base : Heap} {CX : CXT} {k : Nat} {f : Addr} {fd : FuncData} {ps : List Str} {sp sp' : Sp} (F : FnOk P w K mg base CX k f fd ps sp)
    (h : ∀ vs H Q E, sp' vs H Q E -> sp vs H Q E) : FnOk P w K mg base CX k f fd ps sp' :=
  ⟨fun vs H Q E q => F.len vs H Q E (h _ _ _ _ q), fun A outer s H args us vs Q E hr he hb hv hs => F.run A outer s H args us vs Q E hr he hb hv (h _ _ _ _ hs)⟩
theorem Env0.make {P : Program} {w : World} {K : PySem.W.Frag} {mg : Str -> Option Value} {base : Heap} {A : Around} {outer : List Env} {s : Shared} {H : Hp} (e : Env0 P w K mg base A outer s H) (C : Addr) (us : List Value) (kw : List (Str × Value)) :
    Env0 P w K mg base (A.under (.builtin "type.__call__" ⟨.ref C :: us, kw⟩)) outer s H := ⟨by first | exact e.frames | (simpa [Around.under, Code.envs, Code.isFrame, pushEnvs] using e.frames), e.mod, e.bs, e.bsz, e.funs, e.frf, e.hok, e.bare⟩
section
variable {X : Cx} {pins : List (Addr × Obj)} {σ : St} {H : Hp} {s s' : Shared}
theorem Inv.env0 (I : Inv X pins σ H s) : Env0 X.prog X.w X.K X.mg X.base X.A X.stack s H :=
  ⟨I.ok.frames, I.ok.mod, I.bs, Nat.le_trans I.ok.bsz I.sz, I.stack, I.stkFree, I.hok, I.bare⟩
theorem Inv.after {Q : VK} {u : Value} (I : Inv X pins σ H s) (h : CE X.stack X.prog X.w H s Q u s') : EP X pins σ Q u s' := by
  obtain ⟨v, H', os, bare, un, hok, r, q⟩ := h
  obtain ⟨hh, g, d, t, os'⟩ := s'
  obtain rfl : os' = s.os := os
  exact ⟨v, H', I.call (h' := hh) (g' := g) (d' := d) (t' := t) (ch := []) un hok bare (fun b z => absurd z (by simp)), r, q⟩
end
noncomputable def tCall (sp : Sp) (dvs : List V) (E : XK) (t : TA) : TE := fun σ H Q => t σ H fun vs H1 => sp (vs ++ dvs) H1 Q E
noncomputable def tMeth (C : Addr) (m : Str) (sp : Sp) (dvs : List V) (E : XK) (ta : TE) (t : TA) : TE := fun σ H Q => ta σ H fun x H1 => ∃ a dx fs, x = .ref a /\ H1 a = some (.ins C dx fs) /\ fs.lookup m = none /\
  t σ H1 fun vs H2 => sp (x :: (vs ++ dvs)) H2 Q E
noncomputable def tMake (C : Addr) (sp : Sp) (dvs : List V) (E : XK) (t : TA) : TE := fun σ H Q => t σ H fun vs H1 => ∀ x dx, H1 x = none -> H1 dx = none -> dx ≠ x ->
  sp (.ref x :: (vs ++ dvs)) (upd (upd H1 dx (.own x)) x (.ins C dx [])) (fun v H2 => v = .non /\ Q (.ref x) H2) E
noncomputable def Binds (K : PySem.W.Frag) (fd : FuncData) (ps : List Str) (ds : List Value) : Prop :=
  ∀ (s : Shared) (us : List Value), K.In s.heap -> (us ++ ds).length = ps.length -> BindsTo s fd ⟨us, []⟩ (ps.zip (us ++ ds))
theorem Binds.all {K : PySem.W.Frag} {fd : FuncData} {ps : List Str} (h : ∀ us : List Value, us.length = ps.length -> bindArgs fd ⟨us, []⟩ = pure (ps.zip us)) : Binds K fd ps [] := fun s us _ hl => by
  rw [List.append_nil] at hl ⊢
  exact .of_eq (h us hl)
noncomputable def Passes (CX : CXT) (X : Cx) (E : XK) : Prop := ∀ (pins : List (Addr × Obj)) (σ : St) (H : Hp) (s : Shared) (e : Value) (s' : Shared), Inv X pins σ H s -> CX X.stack H s E e s' -> X.xe e s'
section
variable {X : Cx} {CX : CXT} {k : Nat} {f C : Addr} {fd : FuncData} {ps : List Str} {sp : Sp} {dvs : List V} {ds : List Value} {E : XK} {x m : Str} {p pos apos : Pos} {e o : Expr} {es : List Expr} {ta : TE} {t : TA}
theorem run_fn {pins : List (Addr × Obj)} {σ : St} {H : Hp} {s : Shared} {Q : VK} {us : List Value} {vs : List V} (F : FnOk X.prog X.w X.K X.mg X.base CX k f fd ps sp) (hr : Room k X.A) (hb : Binds X.K fd ps ds) (hd : Vals dvs ds) (hx : Passes CX X E)
    (I : Inv X pins σ H s) (r : Vals vs us) (h : sp (vs ++ dvs) H Q E) : wpAny (model X.prog X.w) X.A (call (.ref f) us) (EP X pins σ Q) X.xe s := by
  have r2 : Vals (vs ++ dvs) (us ++ ds) := r.append hd
  have hl : (us ++ ds).length = ps.length := by rw [← r2.length]; exact F.len _ _ _ _ h
  refine wpAny_call (codeAny_mono (F.run X.A X.stack s H ⟨us, []⟩ (us ++ ds) (vs ++ dvs) Q E hr I.env0 (hb s us I.kIn hl) r2 h) fun r s' hq => ?_)
  cases r with
  | error e => exact hx pins σ H s e s' I hq
  | ok fl =>
    cases fl with
    | ret u => exact I.after hq
    | next => exact False.elim hq
    | brk => exact False.elim hq
    | cont => exact False.elim hq
theorem pe_call (F : FnOk X.prog X.w X.K X.mg X.base CX k f fd ps sp) (hr : Room k X.A) (hg : Gl X x) (hm : X.mg x = some (.ref f)) (hk : PySem.W.keepIn X.K (.ref f) = true) (hb : Binds X.K fd ps ds) (hd : Vals dvs ds) (hx : Passes CX X E)
    (ha : PA X (e :: es) t) (hdb : (x == ("__debug__" : Str)) = false := by decide) (he : starEach (e :: es) X.env = (false, eval e X.env) :: starEach es X.env := by rfl) (hpl : (backTo pos (starEach es X.env)).any (·.1) = false := by rfl) :
    PE X (.Call (.Name x p) (e :: es) [] pos) (tCall sp dvs E t) := by
  intro pins s σ H Q I h
  refine wpAny_Call_Name_kw (ld_glob I hg hm ?_ hdb)
  refine PySem.W.callWith_K (h₀ := X.base) I.ok.mod.kin hk (thn (ha pos pins s σ H _ I h) fun us s1 ⟨vs, H1, I1, r, q⟩ => ⟨I1.kIn, ?_⟩) he hpl
  exact run_fn F hr hb hd hx I1 r q
theorem pe_meth {pl : Sem Bool} (he : PE X o ta) (c : Cls X.K C) (hm : Meth X.K C m f) (F : FnOk X.prog X.w X.K X.mg X.base CX k f fd ps sp) (hr : Room k X.A) (hb : Binds X.K fd ps ds) (hd : Vals dvs ds) (hx : Passes CX X E) (ha : PA X (e :: es) t)
    (hst : starEach (e :: es) X.env = (false, eval e X.env) :: starEach es X.env := by rfl) (hpl : (backTo pos (starEach es X.env)).any (·.1) = false := by rfl)
    (ht : eval (.Call (.Attribute o m apos) (e :: es) [] pos) X.env = (do
      let ov ← eval o X.env
      standAt apos.atName
      let (f, first) ← holding [ov] (getMethod ov m pl)
      callWith pos f first (backTo pos (starEach (e :: es) X.env)) (backToKw pos (keywordEach [] X.env))) := by rfl) :
    PE X (.Call (.Attribute o m apos) (e :: es) [] pos) (tMeth C m sp dvs E ta t) := by
  intro pins s σ H Q I h
  refine PySem.W.methodCall_KW (pl := pl) (thn (he pins s σ H _ I h) fun u s1 ⟨x, H1, I1, rx, a, dx, fs, ex, ea, l, q⟩ => ?_) ht
  subst ex
  obtain rfl : u = Value.ref a := rx
  refine getmeth_ok I1 ea c hm l ?_
  refine PySem.W.callWith_K (first := [.ref a]) (h₀ := X.base) I.ok.mod.kin hm.kp (thn (ha pos pins s1 σ H1 _ I1 q) fun us s2 ⟨vs, H2, I2, r, q2⟩ => ⟨I2.kIn, ?_⟩) hst hpl
  exact run_fn (us := .ref a :: us) (vs := .ref a :: vs) F hr hb hd hx I2 (.cons rfl r) q2
theorem pe_meth0 {pl : Sem Bool} (he : PE X o ta) (c : Cls X.K C) (hm : Meth X.K C m f) (F : FnOk X.prog X.w X.K X.mg X.base CX k f fd ps sp) (hr : Room k X.A) (hb : Binds X.K fd ps ds) (hd : Vals dvs ds) (hx : Passes CX X E)
    (ht : eval (.Call (.Attribute o m apos) [] [] pos) X.env = (do
      let ov ← eval o X.env
      standAt apos.atName
      let (f, first) ← holding [ov] (getMethod ov m pl)
      callWith pos f first (backTo pos (starEach [] X.env)) (backToKw pos (keywordEach [] X.env))) := by rfl) :
    PE X (.Call (.Attribute o m apos) [] [] pos) (tMeth C m sp dvs E ta tNil) := by
  intro pins s σ H Q I h
  refine PySem.W.methodCall_KW (pl := pl) (thn (he pins s σ H _ I h) fun u s1 ⟨x, H1, I1, rx, a, dx, fs, ex, ea, l, q⟩ => ?_) ht
  subst ex
  obtain rfl : u = Value.ref a := rx
  refine getmeth_ok I1 ea c hm l ?_
  exact PySem.W.callWith_K0 (first := [.ref a]) I1.kIn hm.kp (run_fn (us := [.ref a]) (vs := [.ref a]) F hr hb hd hx I1 (.cons rfl .nil) q)
structure Mk (K : PySem.W.Frag) (C f : Addr) : Prop where
  makes : PySem.W.makesIn K C = true
  init : PySem.W.findIn K (.ref C) "__init__" = some (some (.ref f))
  fn : PySem.W.isFn K (.ref f) = true
  kp : PySem.W.keepIn K (.ref C) = true
theorem run_make {pins : List (Addr × Obj)} {σ : St} {H : Hp} {s : Shared} {Q : VK} {us : List Value} {vs : List V} (M : Mk X.K C f) (F : FnOk X.prog X.w X.K X.mg X.base CX k f fd ps sp) (hr : Room (k + 1) X.A) (hb : Binds X.K fd ps ds) (hd : Vals dvs ds)
    (hx : Passes CX X E) (I : Inv X pins σ H s) (r : Vals vs us)
    (h : ∀ x dx, H x = none -> H dx = none -> dx ≠ x -> sp (.ref x :: (vs ++ dvs)) (upd (upd H dx (.own x)) x (.ins C dx [])) (fun v H2 => v = .non /\ Q (.ref x) H2) E) :
    wpAny (model X.prog X.w) X.A (call (.ref C) us) (EP X pins σ Q) X.xe s := by
  have hq := h (s.heap.objs.size + 1) s.heap.objs.size (I.hok.fresh (Nat.le_succ _)) (I.hok.fresh (Nat.le_refl _)) (Nat.ne_of_lt (Nat.lt_succ_self _))
  have I2 := Inv.made (C := C) I
  have r2 : Vals (V.ref (s.heap.objs.size + 1) :: (vs ++ dvs)) (Value.ref (s.heap.objs.size + 1) :: (us ++ ds)) := .cons rfl (r.append hd)
  have hl : (Value.ref (s.heap.objs.size + 1) :: us ++ ds).length = ps.length := by
    have e := r2.length
    rw [F.len _ _ _ _ hq] at e
    exact e.symm
  refine wpAny_call (make_map (f := f) I.kIn M.makes M.init (beq_iff_eq.mp M.fn) (codeAny_mono (F.run _ X.stack _ _ ⟨Value.ref (s.heap.objs.size + 1) :: us, []⟩ (Value.ref (s.heap.objs.size + 1) :: (us ++ ds)) _ _ E (hr.make C us [])
    (I2.env0.make C us []) (hb _ (Value.ref (s.heap.objs.size + 1) :: us) I2.kIn hl) r2 hq) fun r s' hq' => ?_))
  cases r with
  | error e => exact hx pins σ _ _ e s' I2 hq'
  | ok fl =>
    cases fl with
    | ret u =>
      obtain ⟨v, H', I3, rv, ev, q3⟩ := I2.after hq'
      subst ev
      exact ⟨rv, ⟨V.ref (s.heap.objs.size + 1), H', I3, rfl, q3⟩⟩
    | next => exact False.elim hq'
    | brk => exact False.elim hq'
    | cont => exact False.elim hq'
theorem pe_make (M : Mk X.K C f) (F : FnOk X.prog X.w X.K X.mg X.base CX k f fd ps sp) (hr : Room (k + 1) X.A) (hg : Gl X x) (hm : X.mg x = some (.ref C)) (hb : Binds X.K fd ps ds) (hd : Vals dvs ds) (hx : Passes CX X E)
    (ha : PA X (e :: es) t) (hdb : (x == ("__debug__" : Str)) = false := by decide) (he : starEach (e :: es) X.env = (false, eval e X.env) :: starEach es X.env := by rfl) (hpl : (backTo pos (starEach es X.env)).any (·.1) = false := by rfl) :
    PE X (.Call (.Name x p) (e :: es) [] pos) (tMake C sp dvs E t) := by
  intro pins s σ H Q I h
  refine wpAny_Call_Name_kw (ld_glob I hg hm ?_ hdb)
  refine PySem.W.callWith_K (h₀ := X.base) I.ok.mod.kin M.kp (thn (ha pos pins s σ H _ I h) fun us s1 ⟨vs, H1, I1, r, q⟩ => ⟨I1.kIn, ?_⟩) he hpl
  exact run_make M F hr hb hd hx I1 r q
end
section
variable {X : Cx} {CX : CXT} {k : Nat} {f C : Addr} {fd : FuncData} {ps ks : List Str} {sp : Sp} {E : XK} {x m : Str} {p pos apos kpos : Pos} {e o : Expr} {es : List Expr} {kws : List Keyword} {te ta : TE} {t tk : TA} {nm : Option Str}
structure KBinds (K : PySem.W.Frag) (fd : FuncData) (ps ks : List Str) (g : List Value -> List Value -> List Value) (gV : List V -> List V -> List V) : Prop where
  to : ∀ (s : Shared) (us ws : List Value), K.In s.heap -> (g us ws).length = ps.length -> BindsTo s fd ⟨us, ks.zip ws⟩ (ps.zip (g us ws))
  rel : ∀ {vs : List V} {us : List Value} {zs : List V} {ws : List Value}, Vals vs us -> Vals zs ws -> Vals (gV vs zs) (g us ws)
variable {g : List Value -> List Value -> List Value} {gV : List V -> List V -> List V}
end
structure FnScope (N P : List Str) (sc : Scope) : Prop where
  kind : sc.kind = .function
  co : sc.isCoroutine = false
  gen : sc.isGenerator = false
  nd : N.Nodup
  pre : N.take P.length = P
  par : ∀ x ∈ P, sc.names.lookup x = some .local \/ sc.names.lookup x = some .cell
  nofree : ∀ y ∈ sc.names, y.2 ≠ .free
theorem bindL_out {kindOf : Str -> Option NameKind} {x : Str} : ∀ {binds : List (Str × Value)} {m : Str -> Option Value}, (∀ v, (x, v) ∉ binds) -> bindL kindOf binds m x = m x
  | [], _, _ => rfl
  | (n, v) :: r, m, h => by
    unfold bindL
    rw [bindL_out fun w hw => h w (List.mem_cons_of_mem _ hw)]
    split
    · have : x ≠ n := by rintro rfl; exact h v List.mem_cons_self
      simp [this]
    · rfl
theorem bindC_out {kindOf : Str -> Option NameKind} {x : Str} : ∀ {binds : List (Str × Value)} {m : Str -> Option Value}, (∀ v, (x, v) ∉ binds) -> bindC kindOf binds m x = m x
  | [], _, _ => rfl
  | (n, v) :: r, m, h => by
    unfold bindC
    rw [bindC_out fun w hw => h w (List.mem_cons_of_mem _ hw)]
    split
    · rfl
    · have : x ≠ n := by rintro rfl; exact h v List.mem_cons_self
      simp [this]
theorem bindL_get {kindOf : Str -> Option NameKind} {x : Str} {v : Value} : ∀ {P : List Str} {vs : List Value} {i : Nat} {m : Str -> Option Value}, P.Nodup -> P[i]? = some x -> vs[i]? = some v -> kindOf x = some .local ->
    bindL kindOf (P.zip vs) m x = some v
  | [], _, _, _, _, h, _, _ => by simp at h
  | _ :: _, [], _, _, _, _, h, _ => by simp at h
  | p :: P, w :: vs, 0, m, nd, h1, h2, hk => by
    simp at h1 h2; subst h1; subst h2
    show bindL kindOf ((p, w) :: P.zip vs) m p = _
    unfold bindL
    rw [bindL_out fun v hv => (List.nodup_cons.mp nd).1 (List.of_mem_zip hv).1, if_pos hk]
    simp
  | p :: P, w :: vs, i + 1, m, nd, h1, h2, hk => by
    show bindL kindOf ((p, w) :: P.zip vs) m x = _
    unfold bindL
    exact bindL_get (i := i) (List.nodup_cons.mp nd).2 (by simpa using h1) (by simpa using h2) hk
theorem bindC_get {kindOf : Str -> Option NameKind} {x : Str} {v : Value} : ∀ {P : List Str} {vs : List Value} {i : Nat} {m : Str -> Option Value}, P.Nodup -> P[i]? = some x -> vs[i]? = some v -> kindOf x ≠ some .local ->
    bindC kindOf (P.zip vs) m x = some v
  | [], _, _, _, _, h, _, _ => by simp at h
  | _ :: _, [], _, _, _, _, h, _ => by simp at h
  | p :: P, w :: vs, 0, m, nd, h1, h2, hk => by
    simp at h1 h2; subst h1; subst h2
    show bindC kindOf ((p, w) :: P.zip vs) m p = _
    unfold bindC
    rw [bindC_out fun v hv => (List.nodup_cons.mp nd).1 (List.of_mem_zip hv).1, if_neg hk]
    simp
  | p :: P, w :: vs, i + 1, m, nd, h1, h2, hk => by
    show bindC kindOf ((p, w) :: P.zip vs) m x = _
    unfold bindC
    exact bindC_get (i := i) (List.nodup_cons.mp nd).2 (by simpa using h1) (by simpa using h2) hk
noncomputable def start (N : List Str) (vs : List V) : St := vs.map some ++ List.replicate (N.length - vs.length) none
noncomputable def cxOf (CX : CXT) (P : Program) (w : World) (K : PySem.W.Frag) (mg : Str -> Option Value) (base : Heap) (N : List Str) (qual : Str) (scope : Scope) (f : Addr) (cd : Value) (A : Around) (outer : List Env) (s : Shared) (H : Hp) (E : XK) : Cx where
  prog := P
  w := w
  K := K
  mg := mg
  base := base
  A := A.deeper (envOfC qual scope s.heap.objs.size f cd)
  N := N
  s₀ := s
  H₀ := H
  env := envOfC qual scope s.heap.objs.size f cd
  outer := outer
  stack := envOfC qual scope s.heap.objs.size f cd :: outer
  ex := []
  calm := true
  fn := fun _ => true
  pn := []
  xe := fun e s' => wpAny (model P w) (A.deeper (envOfC qual scope s.heap.objs.size f cd)) (leaving (envOfC qual scope s.heap.objs.size f cd) e) (fun _ s'' => CX outer H s E e s'') (fun e' s'' => CX outer H s E e' s'') s'
theorem cell_has {sc : Scope} {n : Nat} {x : Str} (h : sc.names.lookup x = some .cell) : ∃ c, (cellsFrom n sc.names []).lookup x = some c := by
  have q := PySem.W.cellsFrom_some sc.names n [] (.inl h)
  exact Option.isSome_iff_exists.mp q
theorem inv_start {CX : CXT} {P : Program} {w : World} {K : PySem.W.Frag} {mg : Str -> Option Value} {base : Heap} {N ps : List Str} {qual : Str} {scope : Scope} {f : Addr} {cd : Value} {A : Around} {outer : List Env} {s s1 : Shared} {H : Hp} {E : XK} {us : List Value} {vs : List V}
    (S : FnScope N ps scope) (hd : A.handled = none) (e0 : Env0 P w K mg base A outer s H) (hl : vs.length = ps.length) (r : Vals vs us)
    (x : InCallC s s.heap.objs.size (bindL (envOfC qual scope s.heap.objs.size f cd).kindOf (ps.zip us) fun _ => none) (cellsFrom (s.heap.objs.size + 1) scope.names []) (bindC (envOfC qual scope s.heap.objs.size f cd).kindOf (ps.zip us) fun _ => none) s1) :
    Inv (cxOf CX P w K mg base N qual scope f cd A outer s H E) [] (start N vs) H s1 := by
  have hpl : ps.length <= N.length := by have := congrArg List.length S.pre; rw [List.length_take] at this; omega
  obtain ⟨h1, tk, rfl, hk⟩ := x.done
  have noA : ∀ b : Addr, b ∉ (cxOf CX P w K mg base N qual scope f cd A outer s H E).ex := fun b z => absurd (show b ∈ ([] : List Addr) from z) (by simp)
  refine ⟨⟨e0.mod, S.kind, rfl, rfl, Nat.le_refl _, fun y z c h1 h2 => ?_, fun y hy => ?_, fun y c _ h => ?_, fun _ => hd, Around.frames_deeper e0.frames, .inr ⟨rfl, rfl⟩, fun b z => absurd z (noA b), e0.bs, e0.bsz, fun b _ _ => noA b, fun b z => absurd z (noA b), e0.funs, e0.frf⟩,
    rfl, e0.bare, Un.kept hk, ⟨_, x.toInCall.ns, fun i y v h1 h2 h3 => ?_⟩, fun y c h => ⟨_, x.cell y c h⟩, e0.hok.fresh (Nat.le_refl _), fun y c h => ?_, fun p hp => absurd (show p ∈ ([] : List (Addr × Obj)) from hp) (by simp), e0.hok.kept hk, ?_⟩
  · exact name_of_addr x.apart (PySem.mem_of_lookup h1) (PySem.mem_of_lookup h2)
  · have hy : scope.names.lookup y = some .cell \/ scope.names.lookup y = some .free := hy
    rcases hy with hy | hy
    · exact cell_has hy
    · exact absurd rfl (S.nofree _ (PySem.mem_of_lookup hy))
  · exact Nat.le_of_lt (x.above y c (PySem.mem_of_lookup h))
  · have hi : i < vs.length := by
      unfold start at h2
      by_cases hi : i < vs.length
      · exact hi
      · rw [List.getElem?_append_right (by simpa using hi)] at h2
        rw [List.getElem?_replicate] at h2
        split at h2 <;> cases h2
    have ha : vs[i]? = some v := by
      unfold start at h2
      rw [List.getElem?_append_left (by simpa using hi), List.getElem?_map] at h2
      cases e : vs[i]? with
      | none => rw [e] at h2; cases h2
      | some a => rw [e] at h2; cases h2; rfl
    obtain ⟨u, hu, rv⟩ := r.get ha
    have hp : ps[i]? = some y := by
      rw [← S.pre, List.getElem?_take_of_lt (by omega)]; exact h1
    have ndP : ps.Nodup := by rw [← S.pre]; exact S.nd.sublist (List.take_sublist _ _)
    refine ⟨u, rv, ?_⟩
    rcases S.par y (List.mem_of_getElem? hp) with k | k
    · exact .inl ⟨k, bindL_get ndP hp hu k⟩
    · obtain ⟨c, e⟩ := cell_has (n := s.heap.objs.size + 1) k
      refine .inr ⟨.inl k, c, e, ?_⟩
      have q := x.cell y c e
      rw [bindC_get ndP hp hu (by show scope.names.lookup y ≠ _; rw [k]; decide)] at q
      exact q
  · exact e0.hok.fresh (Nat.le_of_lt (x.above y c (PySem.mem_of_lookup h)))
  · unfold start
    show _ = N.length
    rw [List.length_append, List.length_map, List.length_replicate]
    omega
theorem fn_of {CX : CXT} {P : Program} {w : World} {K : PySem.W.Frag} {mg : Str -> Option Value} {base : Heap} {k : Nat} {f : Addr} {name qual : Str} {params : Arguments} {body : List Stmt} {scope : Scope} {dV kV doc pm cdv ct oc : Value} {an od : Option Addr}
    {osl : Array (Option Value)} {N ps : List Str} {sp : Sp} (lk : K.lookup f = some ⟨oc, od, .func (PySem.W.fnOf name qual params body scope dV kV doc pm an cdv ct), osl⟩) (hcd : PySem.W.codeIn K cdv qual = true) (S : FnScope N ps scope)
    (len : ∀ vs H Q E, sp vs H Q E -> vs.length = ps.length)
    (hbody : ∀ (A : Around) (outer : List Env) (s : Shared) (H : Hp) (vs : List V) (Q : VK) (E : XK), Room k (A.deeper (envOfC qual scope s.heap.objs.size f cdv)) -> sp vs H Q E ->
      ∃ t, PSs (cxOf CX P w K mg base N qual scope f cdv A outer s H E) body t /\ t { nx := fun _ H' => Q .non H', rt := Q } (start N vs) H) :
    FnOk P w K mg base CX (k + 1) f (PySem.W.fnOf name qual params body scope dV kV doc pm an cdv ct) ps sp := by
  refine ⟨len, fun A outer s H args us vs Q E hr e0 hb r hsp => ?_⟩
  have hl := len _ _ _ _ hsp
  have KX : K.In s.heap := e0.mod.kin.keeps fun b o e => (e0.bs b o e).1
  have lim : s.heap.NoLimit := e0.mod.nolimit.keeps fun b o e => (e0.bs b o e).1
  have hkind : ∀ y ∈ ps.zip us, scope.names.lookup y.1 = some .local \/ (scope.names.lookup y.1 = some .cell /\ ((cellsFrom (s.heap.objs.size + 1) scope.names []).lookup y.1).isSome = true) := fun ⟨n, v⟩ hy => by
    rcases S.par n (List.of_mem_zip hy).1 with q | q
    · exact .inl q
    · exact .inr ⟨q, PySem.W.cellsFrom_some _ _ _ (.inl q)⟩
  refine codeAny_call_function hr.depth (KX _ _ lk) rfl S.co S.gen rfl (PySem.W.codeRec_of KX hcd) (hb _ _ _ _ ?_)
  refine wpAny_newFunctionEnv_cells S.kind hkind fun env he s1 x => ?_
  subst he
  refine ⟨lim.keeps x.toInCall.keep, codeAny_func ?_⟩
  obtain ⟨t, ht, hq⟩ := hbody A outer s H vs Q E (hr.deeper _) hsp
  have I : Inv (cxOf CX P w K mg base N qual scope f cdv A outer s H E) [] (start N vs) H s1 := inv_start S hr.hd e0 hl r x
  refine wpAny_mono (ht [] s1 (start N vs) H _ I hq) (fun fl s' hs => ?_) fun e s' hs => hs
  have fin : ∀ {σ' : St} {H' : Hp} {v : V} {u : Value}, Inv (cxOf CX P w K mg base N qual scope f cdv A outer s H E) [] σ' H' s' -> RelV v u -> Q v H' -> CE outer P w H s Q u s' :=
    fun {σ' H' v u} J rv q => ⟨v, H', J.os, J.bare, J.base, J.hok, rv, q⟩
  cases fl with
  | ret u =>
    obtain ⟨v, σ', H', J, rv, q⟩ := hs
    exact fin J rv q
  | next =>
    obtain ⟨σ', H', J, q⟩ := hs
    exact fin (v := V.non) (u := Value.none) J rfl q
  | brk =>
    obtain ⟨_, _, _, q⟩ := hs
    exact False.elim q
  | cont =>
    obtain ⟨_, _, _, q⟩ := hs
    exact False.elim q
end L2
namespace L2
open PySem PySem.Spec PyProof.Rows
section
variable {X : Cx} {x : Str} {p pos : Pos} {e : Expr} {es : List Expr} {t : TA} {id T : String} {r : List V -> Hp -> VK -> Prop}
noncomputable def tCB (r : List V -> Hp -> VK -> Prop) (t : TA) : TE := fun σ H Q => t σ H fun vs H1 => r vs H1 Q
theorem pe_callB (hc : CallR X (.builtin id) r) (hg : Gl X x) (hm : X.mg x = none) (hv : bootBuiltins x = some (.builtin id)) (ha : PA X (e :: es) t) (hn : x ≠ "__name__" := by decide) (hdb : (x == ("__debug__" : Str)) = false := by decide)
    (he : starEach (e :: es) X.env = (false, eval e X.env) :: starEach es X.env := by rfl) (hpl : (backTo pos (starEach es X.env)).any (·.1) = false := by rfl) : PE X (.Call (.Name x p) (e :: es) [] pos) (tCB r t) := by
  intro pins s σ H Q I h
  refine wpAny_Call_Name_kw (ld_blt I hg hm hv ?_ hn hdb)
  exact PyProof.Rows.callWith_builtin1 (thn (ha pos pins s σ H _ I h) fun us s1 ⟨vs, H1, I1, r1, q1⟩ => hc pins s1 σ H1 vs us Q I1 r1 q1) he hpl
theorem pe_callTy (hc : CallR X (.type T) r) (hg : Gl X x) (hm : X.mg x = none) (hv : bootBuiltins x = some (.type T)) (ha : PA X (e :: es) t) (hn : x ≠ "__name__" := by decide) (hdb : (x == ("__debug__" : Str)) = false := by decide)
    (he : starEach (e :: es) X.env = (false, eval e X.env) :: starEach es X.env := by rfl) (hpl : (backTo pos (starEach es X.env)).any (·.1) = false := by rfl) : PE X (.Call (.Name x p) (e :: es) [] pos) (tCB r t) := by
  intro pins s σ H Q I h
  refine wpAny_Call_Name_kw (ld_blt I hg hm hv ?_ hn hdb)
  exact PyProof.Rows.callWith_type1 (thn (ha pos pins s σ H _ I h) fun us s1 ⟨vs, H1, I1, r1, q1⟩ => hc pins s1 σ H1 vs us Q I1 r1 q1) he hpl
end
end L2
namespace HT
open PySem PyProof.Rows
section
open PySem.SeqAt
open PySem.AutoSeq1 (wpAny_loadPart')
open PySem.MeetsSeq PySem.MeetsSeq2 PySem.MeetsSeq3
end
section
variable {prog : Program} {w : World} {A : Around} {E : Value -> Shared -> Prop} {s : Shared}
noncomputable def sIx (n d : Nat) : Option Int -> Nat
  | none => d
  | some v => if v < 0 then (v + (n : Int)).toNat else min v.toNat n
theorem sIx_le (n d : Nat) (hd : d <= n) (o : Option Int) : sIx n d o <= n := by
  cases o with
  | none => exact hd
  | some v =>
    show (if v < 0 then (v + (n : Int)).toNat else min v.toNat n) <= n
    by_cases hv : v < 0
    · rw [if_pos hv]; omega
    · rw [if_neg hv]; exact Nat.min_le_right _ _
theorem clip_eq (v : Int) (n d : Nat) : (if v < 0 then max (v + (n : Int)) 0 else min v (n : Int)) = ((sIx n d (some v) : Nat) : Int) := by
  show (if v < 0 then max (v + (n : Int)) 0 else min v (n : Int)) = (((if v < 0 then (v + (n : Int)).toNat else min v.toNat n) : Nat) : Int)
  by_cases hv : v < 0
  · simp only [if_pos hv]; omega
  · simp only [if_neg hv]; omega
theorem adjust_gen (lo hi : Option Int) (n : Nat) : Builtin.Slice.sliceAdjust lo hi 1 (n : Int) = (((sIx n 0 lo : Nat) : Int), ((sIx n n hi : Nat) : Int)) := by
  have h1 : ¬ ((1 : Int) < 0) := by omega
  unfold Builtin.Slice.sliceAdjust
  simp only [h1, if_false]
  refine Prod.ext ?_ ?_
  · cases lo with
    | none => rfl
    | some v => exact clip_eq v n 0
  · cases hi with
    | none => rfl
    | some v => exact clip_eq v n n
theorem places_gen (i j : Nat) : Builtin.Slice.slicePlaces (i : Int) (j : Int) 1 = j - i := by
  unfold Builtin.Slice.slicePlaces
  have h1 : (1 : Int) > 0 := by omega
  simp only [h1, if_true, Int.ediv_one]
  split <;> omega
theorem slicePart_ {v : Value} {o : Option Int} {Q : Option Int -> Shared -> Prop} (p : IsPart v o) (h : Q o s) : wpAny (model prog w) A (Builtin.Slice.slicePartIndex v) Q E s := by
  cases p with
  | none => exact slicePart_none h
  | int i t => exact slicePart_int h
theorem sliceApplied_gen {sl : Addr} {vl vu : Value} {lo hi : Option Int} {n : Nat} {Q : Int × Int × Nat -> Shared -> Prop} (hs : s.heap.IsSliceOf sl vl vu .none) (pl : IsPart vl lo) (pu : IsPart vu hi)
    (h : Q (((sIx n 0 lo : Nat) : Int), 1, sIx n n hi - sIx n 0 lo) s) : wpAny (model prog w) A (Builtin.Slice.sliceApplied (.ref sl) (pure (n : Int))) Q E s := by
  obtain ⟨os, hos, hcs, hds⟩ := id hs
  unfold Builtin.Slice.sliceApplied Builtin.Slice.sliceFields
  refine wpAny_bind (wpAny_bind (wpAny_field hos hds (x := vl) rfl (wpAny_bind (wpAny_field hos hds (x := vu) rfl (wpAny_bind (wpAny_field hos hds (x := .none) rfl (wpAny_pure ?_)))))))
  refine wpAny_bind (slicePart_none ?_)
  show wpAny _ _ (if ((1 : Int) == 0) = true then _ else _) _ _ s
  rw [if_neg (by decide)]
  refine wpAny_bind (slicePart_ pl (wpAny_bind (slicePart_ pu (wpAny_bind (wpAny_pure ?_)))))
  show wpAny _ _ (match Builtin.Slice.sliceAdjust lo hi 1 (n : Int) with | (lo, hi) => pure (lo, (1 : Int), Builtin.Slice.slicePlaces lo hi 1)) _ _ s
  rw [adjust_gen lo hi n]
  show wpAny _ _ (pure (((sIx n 0 lo : Nat) : Int), (1 : Int), Builtin.Slice.slicePlaces ((sIx n 0 lo : Nat) : Int) ((sIx n n hi : Nat) : Int) 1)) _ _ s
  rw [places_gen]
  exact wpAny_pure h
theorem pick_gen (xs : Array Value) (i k : Nat) : ((List.range k).filterMap fun (m : Nat) => xs[((i : Int) + (m : Int) * 1).toNat]?).toArray = ((xs.toList.drop i).take k).toArray := by
  have e : (fun (m : Nat) => xs[((i : Int) + (m : Int) * 1).toNat]?) = fun m => xs[i + m]? := by
    funext m
    have : ((i : Int) + (m : Int) * 1).toNat = i + m := by omega
    rw [this]
  rw [e]
  have := pick_run xs i k
  rw [List.filterMap_map] at this
  have e2 : ((fun x => xs[x]?) ∘ fun x => i + x) = fun m => xs[i + m]? := rfl
  rw [e2] at this
  rw [this]
theorem getItem_tuple_cut {t sl : Addr} {items : Array Value} {vl vu : Value} {lo hi : Option Int} {Q : Value -> Shared -> Prop} (ht : IsTup s.heap t items) (hs : s.heap.IsSliceOf sl vl vu .none) (pl : IsPart vl lo) (pu : IsPart vu hi)
    (hw : ¬ (sIx items.size 0 lo = 0 /\ sIx items.size items.size hi = items.size))
    (h : Q (.ref s.heap.objs.size) { s with heap := s.heap.push { cls := .type "tuple", data := .seq ((items.toList.drop (sIx items.size 0 lo)).take (sIx items.size items.size hi - sIx items.size 0 lo)).toArray } })
    (hsz : items.size <= sizeLine) : wpAny (model prog w) A (getItem (.ref t) (.ref sl)) Q E s := by
  have htake : sizeOk (.seq ((items.toList.drop (sIx items.size 0 lo)).take (sIx items.size items.size hi - sIx items.size 0 lo)).toArray) := by
    show ((items.toList.drop (sIx items.size 0 lo)).take (sIx items.size items.size hi - sIx items.size 0 lo)).toArray.size <= sizeLine
    rw [List.size_toArray, List.length_take, List.length_drop, Array.length_toList]
    omega
  have hj : sIx items.size items.size hi <= items.size := sIx_le _ _ (Nat.le_refl _) hi
  obtain ⟨os, hos, hcs, hds⟩ := id hs
  have hTs : s.TypeIs (.ref sl) "slice" := ⟨os, hos, hcs⟩
  unfold getItem
  try with_reducible refine wpAny_holding ?_
  first | refine wpAny_bind (wpAny_pure ?_) | skip
  refine wpAny_bind (wpAny_sequenceKey ht.typeIs (by decide) ?_)
  refine wpAny_bind (wpAny_callSpecial?_slot (name := Str.ofString "__getitem__") ht.typeIs PyProof.Rows.slot_tuple_getitem
    (wpAny_call_entry PyProof.Rows.slot_tuple_getitem ht.typeIs entry_tuple_getitem ?_ (args_tuple_getitem _ _)))
  show wpAny _ _ (Builtin.Tuple.tupleItemsOf (.ref t) >>= _) _ _ s
  refine wpAny_bind (tupleItemsOf_ ht ?_)
  refine wpAny_bind (wpAny_typeOf hTs ?_)
  rw [if_pos (by decide)]
  refine wpAny_bind (sliceApplied_gen hs pl pu ?_)
  have hno : ¬ ((((sIx items.size 0 lo : Nat) : Int) == 0 && (1 : Int) == 1 && (sIx items.size items.size hi - sIx items.size 0 lo) == items.size) = true) := by
    intro q
    rw [Bool.and_eq_true, Bool.and_eq_true] at q
    have q1 : ((sIx items.size 0 lo : Nat) : Int) = 0 := eq_of_beq q.1.1
    have q2 : sIx items.size items.size hi - sIx items.size 0 lo = items.size := eq_of_beq q.2
    exact hw ⟨by omega, by omega⟩
  show wpAny _ _ (if (((sIx items.size 0 lo : Nat) : Int) == 0 && (1 : Int) == 1 && (sIx items.size items.size hi - sIx items.size 0 lo) == items.size) = true then _ else _) _ _ s
  rw [if_neg hno, pick_gen]
  first
    | exact wpAny_bind (m := Builtin.Tuple.tupleExact _) (wpAny_newObj_type (wpAny_pure ⟨_, rfl, wpAny_pure h⟩) htake)
    | exact wpAny_bind (m := Builtin.Tuple.tupleExact _) (wpAny_newObj_type (wpAny_bind (wpAny_pure (wpAny_pure ⟨_, rfl, wpAny_pure h⟩))) htake)
    | exact wpAny_bind (wpAny_bind (m := Builtin.Tuple.tupleExact _) (wpAny_newObj_type (wpAny_pure (wpAny_pure ⟨_, rfl, wpAny_pure h⟩)) htake))
    | exact wpAny_bind (wpAny_bind (m := Builtin.Tuple.tupleExact _) (wpAny_newObj_type (wpAny_pure ⟨_, rfl, wpAny_pure h⟩) htake))
end
end HT
namespace L2
open PySem PySem.Spec PyProof.Rows
noncomputable abbrev TO := St -> Hp -> (Option Int -> Hp -> Prop) -> Prop
noncomputable def PO (X : Cx) (e : Option Expr) (t : TO) : Prop :=
  ∀ (pins : List (Addr × Obj)) (s : Shared) (σ : St) (H : Hp) (Q : Option Int -> Hp -> Prop), Inv X pins σ H s -> t σ H Q ->
    wpAny (model X.prog X.w) X.A (evalPart e X.env) (fun u s' => ∃ o H', Inv X pins σ H' s' /\ IsPart u o /\ Q o H') X.xe s
noncomputable def tNoPart : TO := fun _ H Q => Q none H
noncomputable def tPart (t : TE) : TO := fun σ H Q => t σ H fun x H1 => ∃ i, x = .int i /\ Q (some i) H1
section
variable {X : Cx} {e : Expr} {te : TE} {lo hi : Option Expr} {tl th : TO} {pos p2 : Pos}
theorem po_none : PO X none tNoPart := by
  intro pins s σ H Q I h
  rw [evalPart_none]
  exact wpAny_pure ⟨none, H, I, .none, h⟩
theorem po_some (h : PE X e te) : PO X (some e) (tPart te) := by
  intro pins s σ H Q I hw
  rw [evalPart_some]
  refine thn (h pins s σ H _ I hw) fun u s1 ⟨x, H1, I1, r1, q1⟩ => ?_
  obtain ⟨i, rfl, q⟩ := q1
  obtain ⟨t, rfl⟩ := r1
  exact ⟨some i, H1, I1, .int i t, q⟩
noncomputable def SlR (X : Cx) (r : V -> Option Int -> Option Int -> Hp -> VK -> Prop) : Prop :=
  ∀ (pins : List (Addr × Obj)) (s : Shared) (σ : St) (H : Hp) (x : V) (v vl vu : Value) (lo hi : Option Int) (sl : Addr) (Q : VK), Inv X pins σ H s -> RelV x v -> s.heap.IsSliceOf sl vl vu .none -> IsPart vl lo -> IsPart vu hi -> r x lo hi H Q ->
    ∃ T id, typeLookup (.type T) "__getitem__" = pure (some (.builtin id)) /\ s.TypeIs v T /\ wpAny (model X.prog X.w) X.A (getItem v (.ref sl)) (EP X pins σ Q) X.xe s
theorem SlR.or {r r' : V -> Option Int -> Option Int -> Hp -> VK -> Prop} (h : SlR X r) (h' : SlR X r') : SlR X (fun x lo hi H Q => r x lo hi H Q \/ r' x lo hi H Q) := by
  intro pins s σ H x v vl vu lo hi sl Q I rx hs pl pu q
  rcases q with q | q
  · exact h pins s σ H x v vl vu lo hi sl Q I rx hs pl pu q
  · exact h' pins s σ H x v vl vu lo hi sl Q I rx hs pl pu q
noncomputable def tSl (r : V -> Option Int -> Option Int -> Hp -> VK -> Prop) (te : TE) (tl th : TO) : TE := fun σ H Q => te σ H fun x H1 => tl σ H1 fun l H2 => th σ H2 fun u H3 => r x l u H3 Q
theorem pe_slice {r : V -> Option Int -> Option Int -> Hp -> VK -> Prop} (hr : SlR X r) (he : PE X e te) (hl : PO X lo tl) (hu : PO X hi th) : PE X (.Subscript e (.Slice lo hi none p2) pos) (tSl r te tl th) := by
  intro pins s σ H Q I h
  refine Subscript_ (thn (he pins s σ H _ I h) fun v s1 ⟨x, H1, I1, r1, q1⟩ => ?_)
  refine wpAny_Slice (thn (hl pins s1 σ H1 _ I1 q1) fun vl s2 ⟨l, H2, I2, pl, q2⟩ => thn (hu pins s2 σ H2 _ I2 q2) fun vu s3 ⟨u, H3, I3, pu, q3⟩ => ?_)
  rw [evalPart_none]
  refine wpAny_pure ?_
  have I4 : Inv X pins σ H3 { s3 with heap := s3.heap.push { cls := .type "slice", data := .fields #[vl, vu, .none] } } := I3.kept (t' := s3.toks) fun b ob q => Heap.get?_push_of_some _ q
  obtain ⟨T, id, hT, ht, hg⟩ := hr pins { s3 with heap := s3.heap.push { cls := .type "slice", data := .fields #[vl, vu, .none] } } σ H3 x v vl vu l u s3.heap.objs.size Q I4 r1 (Heap.IsSliceOf.new ..) pl pu q3
  show wpAny (model X.prog X.w) X.A (subscriptTail e (.Slice lo hi none p2) v (.ref s3.heap.objs.size)) (EP X pins σ Q) X.xe { s3 with heap := s3.heap.push { cls := .type "slice", data := .fields #[vl, vu, .none] } }
  exact tail_any (ops := [.ref s3.heap.objs.size, v]) ht hT hg (by with_unfolding_all rfl)
noncomputable def cutV (xs : List V) (lo hi : Option Int) : List V := (xs.drop (HT.sIx xs.length 0 lo)).take (HT.sIx xs.length xs.length hi - HT.sIx xs.length 0 lo)
theorem cutV_length (xs : List V) (lo hi : Option Int) : (cutV xs lo hi).length <= xs.length := by
  unfold cutV
  rw [List.length_take, List.length_drop]
  omega
noncomputable def rSlT (K : PySem.W.Frag) : V -> Option Int -> Option Int -> Hp -> VK -> Prop := fun x lo hi H Q => ∃ a xs, x = .ref a /\ SqT K H a xs /\
  ¬ (HT.sIx xs.length 0 lo = 0 /\ HT.sIx xs.length xs.length hi = xs.length) /\ ∀ p, H p = none -> Q (.ref p) (upd H p (.tup (cutV xs lo hi)))
theorem sl_tup : SlR X (rSlT X.K) := by
  intro pins s σ H x v vl vu lo hi sl Q I rx hs pl pu h
  obtain ⟨a, xs, rfl, hx, hw, q⟩ := h
  cases rx
  obtain ⟨its, r, ht, hz⟩ := I.tuple hx
  have hlen : its.toArray.size = xs.length := by rw [List.size_toArray]; exact r.length.symm
  refine ⟨"tuple", _, PyProof.Rows.slot_tuple_getitem.lookup, ht.typeIs, ?_⟩
  refine HT.getItem_tuple_cut ht hs pl pu (by rw [hlen]; exact hw) ?_ (by rw [hlen]; exact hz)
  rw [hlen]
  refine ⟨.ref s.heap.objs.size, _, I.laid (t' := s.toks) (o := .tup (cutV xs lo hi)) (fun b ob q => Heap.get?_push_of_some _ q) (Nat.le_refl _) ?_, rfl, q _ (I.hok.fresh (Nat.le_refl _))⟩
  exact ⟨Nat.le_trans (cutV_length xs lo hi) hz, _, (r.drop (HT.sIx xs.length 0 lo)).take (HT.sIx xs.length xs.length hi - HT.sIx xs.length 0 lo), IsTup.new _ _⟩
end
end L2
namespace L2
open PySem PySem.Spec PyProof.Rows
noncomputable def ixN (n : Nat) (i : Int) : Option Nat := if 0 <= i then (if i < n then some i.toNat else none) else if -(n : Int) <= i then some (i + n).toNat else none
noncomputable def atI {α : Type} (xs : List α) (i : Int) : Option α := (ixN xs.length i).bind fun j => xs[j]?
theorem ixN_seq {n : Nat} {i : Int} {j : Nat} (h : ixN n i = some j) : seqIndex? i n = some j /\ j < n /\ -(n : Int) <= i /\ i < n := by
  unfold ixN at h
  by_cases h0 : 0 <= i
  · rw [if_pos h0] at h
    by_cases h1 : i < n
    · rw [if_pos h1] at h
      have e : i.toNat = j := Option.some.inj h
      exact ⟨by rw [seqIndex_of h0 h1, e], by omega, by omega, h1⟩
    · rw [if_neg h1] at h; cases h
  · rw [if_neg h0] at h
    by_cases h1 : -(n : Int) <= i
    · rw [if_pos h1] at h
      have e : (i + n).toNat = j := Option.some.inj h
      exact ⟨by rw [seqIndex_neg (by omega) h1, e], by omega, h1, by omega⟩
    · rw [if_neg h1] at h; cases h
theorem atI_get {α : Type} {xs : List α} {i : Int} {v : α} (h : atI xs i = some v) : ∃ j, seqIndex? i xs.length = some j /\ xs[j]? = some v /\ j < xs.length /\ -(xs.length : Int) <= i /\ i < xs.length := by
  unfold atI at h
  cases e : ixN xs.length i with
  | none => rw [e] at h; cases h
  | some j =>
    rw [e] at h
    obtain ⟨h1, h2, h3, h4⟩ := ixN_seq e
    exact ⟨j, h1, h, h2, h3, h4⟩
theorem atI_nat {α : Type} {xs : List α} {j : Nat} {v : α} (h : xs[j]? = some v) : atI xs (j : Int) = some v := by
  have hj : j < xs.length := (List.getElem?_eq_some_iff.mp h).1
  have e : ixN xs.length (j : Int) = some j := by
    unfold ixN
    rw [if_pos (by omega), if_pos (by omega)]; simp
  unfold atI; rw [e]; exact h
noncomputable def PlainIx (b : Expr) : Prop := ∀ o i, subscripted b false o i = operate [o, i] (getItem o i)
noncomputable def IxR (X : Cx) (r : R2) : Prop :=
  ∀ (value slice : Expr) (pins : List (Addr × Obj)) (s : Shared) (σ : St) (H : Hp) (x y : V) (v u : Value) (Q : VK), Inv X pins σ H s -> RelV x v -> RelV y u -> r x y H Q ->
    subscripted slice false v u = operate [v, u] (getItem v u) -> wpAny (model X.prog X.w) X.A (subscriptTail value slice v u) (EP X pins σ Q) X.xe s
noncomputable def MtR (X : Cx) (id : String) (r : V -> List V -> Hp -> VK -> Prop) : Prop :=
  ∀ (pins : List (Addr × Obj)) (s : Shared) (σ : St) (H : Hp) (x : V) (xs : List V) (v : Value) (us : List Value) (Q : VK), Inv X pins σ H s -> RelV x v -> Vals xs us -> r x xs H Q ->
    wpAny (model X.prog X.w) X.A (call (.builtin id) (v :: us)) (EP X pins σ Q) X.xe s
section
variable {X : Cx} {a b : Expr} {ta tb : TE} {pos : Pos}
theorem IxR.or {r r' : R2} (h : IxR X r) (h' : IxR X r') : IxR X (fun x y H Q => r x y H Q \/ r' x y H Q) := by
  intro value slice pins s σ H x y v u Q I rx ry q hs
  rcases q with q | q
  · exact h value slice pins s σ H x y v u Q I rx ry q hs
  · exact h' value slice pins s σ H x y v u Q I rx ry q hs
theorem pe_ix {r : R2} (hr : IxR X r) (ha : PE X a ta) (hb : PE X b tb) (hs : PlainIx b) : PE X (.Subscript a b pos) (tOp r ta tb) := by
  intro pins s σ H Q I h
  exact Subscript_ (binT ha hb I h fun v u s2 x y H2 I2 rx ry q => hr a b pins s2 σ H2 x y v u Q I2 rx ry q (hs _ _))
noncomputable def rIxL (K : PySem.W.Frag) : R2 := fun x y H Q => ∃ p xs i v, x = .ref p /\ y = .int i /\ SqL K H p xs /\ atI xs i = some v /\ Q v H
noncomputable def rIxT (K : PySem.W.Frag) : R2 := fun x y H Q => ∃ p xs i v, x = .ref p /\ y = .int i /\ SqT K H p xs /\ atI xs i = some v /\ Q v H
noncomputable def rIxS : R2 := fun x y H Q => ∃ z i c, x = .str z /\ y = .int i /\ z.length <= sizeLine /\ atI z.cps.toList i = some c /\ Q (.str ⟨#[c]⟩) H
theorem ix_list : IxR X (rIxL X.K) := by
  intro value slice pins s σ H x y v u Q I rx ry h hs
  obtain ⟨p, xs, i, z, rfl, rfl, hq, he, q⟩ := h
  cases rx
  obtain ⟨t, rfl⟩ := ry
  obtain ⟨its, r, pl, hz⟩ := I.list hq
  obtain ⟨j, h1, h2, h3, h4, h5⟩ := atI_get he
  obtain ⟨w, ew, rw'⟩ := r.get h2
  have hl := r.length
  have hn := line63
  have fin : EP X pins σ Q w s := ⟨z, H, I, rw', q⟩
  by_cases h0 : 0 <= i
  · have hj : i.toNat = j := by
      rw [seqIndex_of h0 h5] at h1
      exact Option.some.inj h1
    exact item_listR pl.isList h0 (by omega) (by rw [hj]; simpa using ew) fin hs
  · have hj : (i + (its.toArray.size : Int)).toNat = j := by
      rw [seqIndex_neg (by omega) h4] at h1
      rw [List.size_toArray, ← hl]
      exact Option.some.inj h1
    exact subscriptTail_builtinR (x := w) pl.isList.typeIs slot_list_getitem.lookup
      (wpAny_getItem_list_neg (Q := fun r s' => r = w /\ EP X pins σ Q r s') pl.isList (by omega) (by rw [List.size_toArray] <;> omega) (by omega) (by rw [hj]; simpa using ew) ⟨rfl, fin⟩) hs
theorem ix_tup : IxR X (rIxT X.K) := by
  intro value slice pins s σ H x y v u Q I rx ry h hs
  obtain ⟨p, xs, i, z, rfl, rfl, hq, he, q⟩ := h
  cases rx
  obtain ⟨t, rfl⟩ := ry
  obtain ⟨its, r, pl, hz⟩ := I.tuple hq
  obtain ⟨j, h1, h2, h3, h4, h5⟩ := atI_get he
  obtain ⟨w, ew, rw'⟩ := r.get h2
  have hl := r.length
  have hn := line63
  have fin : EP X pins σ Q w s := ⟨z, H, I, rw', q⟩
  exact subscriptTail_builtinR (x := w) pl.typeIs slot_tuple_getitem.lookup
    (getItem_tuple (j := j) (Q := fun r s' => r = w /\ EP X pins σ Q r s') pl (by omega) (by omega) (by rw [List.size_toArray, ← hl]; exact h1) (by simpa using ew) ⟨rfl, fin⟩) hs
theorem ix_str : IxR X rIxS := by
  intro value slice pins s σ H x y v u Q I rx ry h hs
  obtain ⟨z, i, c, rfl, rfl, hz, he, q⟩ := h
  obtain ⟨t, rfl⟩ := rx
  obtain ⟨t', rfl⟩ := ry
  obtain ⟨j, h1, h2, h3, h4, h5⟩ := atI_get he
  have hl : z.cps.toList.length = z.length := by simp [Str.length]
  rw [hl] at h1 h4 h5
  have hn := line63
  exact tail_any (typeIs_str s z t) slot_str_getitem.lookup (getItem_str (c := c) (by
    have e1 : decide (i < -(2 ^ 63 : Int)) = false := decide_eq_false (by omega)
    have e2 : decide (i ≥ 2 ^ 63) = false := decide_eq_false (by omega)
    rw [e1, e2, Bool.or_false]) (by rw [h1]; simpa using h2) ⟨.str ⟨#[c]⟩, H, I.tok _, ⟨_, rfl⟩, q⟩) hs
noncomputable def rIx (K : PySem.W.Frag) : R2 := fun x y H Q => rIxL K x y H Q \/ rIxT K x y H Q \/ rIxS x y H Q
theorem ix_seq : IxR X (rIx X.K) := ix_list.or (ix_tup.or ix_str)
theorem slice_bounds (lo hi : Option Int) (n : Nat) : (sliceBounds lo hi none n).1 = ((HT.sIx n 0 lo : Nat) : Int) /\ (sliceBounds lo hi none n).2.1 = ((HT.sIx n n hi : Nat) : Int) /\ (sliceBounds lo hi none n).2.2 = 1 := by
  refine ⟨?_, ?_, rfl⟩
  · cases lo with
    | none => simp [sliceBounds, HT.sIx]
    | some i =>
      simp only [sliceBounds, HT.sIx, Option.getD_none, show (1 : Int) > 0 by decide, if_true]
      by_cases h : i < 0
      · simp only [h, if_true] <;> omega
      · simp only [h, if_false] <;> omega
  · cases hi with
    | none => simp [sliceBounds, HT.sIx]
    | some i =>
      simp only [sliceBounds, HT.sIx, Option.getD_none, show (1 : Int) > 0 by decide, if_true]
      by_cases h : i < 0
      · simp only [h, if_true] <;> omega
      · simp only [h, if_false] <;> omega
theorem slicePick_cut (its : List Value) (lo hi : Option Int) : slicePick its.toArray lo hi none = ((its.drop (HT.sIx its.length 0 lo)).take (HT.sIx its.length its.length hi - HT.sIx its.length 0 lo)).toArray := by
  obtain ⟨h1, h2, h3⟩ := slice_bounds lo hi its.toArray.size
  unfold slicePick
  rw [h1, h2, h3]
  simp only [sliceRange_one, pick_run, List.size_toArray] <;> rfl
noncomputable def rSlL (K : PySem.W.Frag) : V -> Option Int -> Option Int -> Hp -> VK -> Prop := fun x lo hi H Q => ∃ a xs, x = .ref a /\ SqL K H a xs /\ ∀ p, H p = none -> Q (.ref p) (upd H p (.lst (cutV xs lo hi)))
theorem sl_list : SlR X (rSlL X.K) := by
  intro pins s σ H x v vl vu lo hi sl Q I rx hs pl pu h
  obtain ⟨a, xs, rfl, hx, q⟩ := h
  cases rx
  obtain ⟨its, r, ht, hz⟩ := I.list hx
  have hlen := r.length
  refine ⟨"list", _, slot_list_getitem.lookup, ht.isList.typeIs, ?_⟩
  refine wpAny_getItem_list_slice ht.isList hs pl pu .none (by simp) ?_ (by rw [List.size_toArray] <;> omega)
  rw [slicePick_cut, ← hlen]
  refine ⟨.ref s.heap.objs.size, _, I.laid (t' := s.toks) (o := .lst (cutV xs lo hi)) (fun b ob q => Heap.get?_push_of_some _ q) (Nat.le_refl _) ?_, rfl, q _ (I.hok.fresh (Nat.le_refl _))⟩
  exact ⟨Nat.le_trans (cutV_length xs lo hi) hz, _, 0, (r.drop (HT.sIx xs.length 0 lo)).take (HT.sIx xs.length xs.length hi - HT.sIx xs.length 0 lo), Heap.get?_push_size _ rfl⟩
theorem call_len_seq : CallR X (.builtin "len") (fun xs H Q => ∃ p ys, xs = [.ref p] /\ (SqL X.K H p ys \/ SqT X.K H p ys) /\ Q (.int ys.length) H) := by
  intro pins s σ H xs us Q I r h
  obtain ⟨p, ys, rfl, hq, q⟩ := h
  obtain ⟨u, rfl, rx⟩ := vals1 r
  cases rx
  have hn := line63
  rcases hq with hq | hq
  · obtain ⟨its, r', pl, hz⟩ := I.list hq
    have hlen := r'.length
    exact Calls.call_len_list pl.isList (by simp only [List.size_toArray] <;> omega) ⟨.int ys.length, H, I.tok _, ⟨s.toks + 1, by rw [List.size_toArray, hlen]⟩, q⟩
  · obtain ⟨its, r', pl, hz⟩ := I.tuple hq
    have hlen := r'.length
    exact len_tuple pl (by simp only [List.size_toArray] <;> omega) ⟨.int ys.length, H, I.tok _, ⟨s.toks + 1, by rw [List.size_toArray, hlen]⟩, q⟩
theorem call_len_str : CallR X (.builtin "len") (fun xs H Q => ∃ z, xs = [.str z] /\ z.length <= sizeLine /\ Q (.int z.length) H) := by
  intro pins s σ H xs us Q I r h
  obtain ⟨z, rfl, hz, q⟩ := h
  obtain ⟨u, rfl, t, rfl⟩ := vals1 r
  have hn := line63
  exact len_str (by omega) ⟨.int z.length, H, I.tok _, ⟨_, rfl⟩, q⟩
theorem CallR.or {f : Value} {r r' : List V -> Hp -> VK -> Prop} (h : CallR X f r) (h' : CallR X f r') : CallR X f (fun xs H Q => r xs H Q \/ r' xs H Q) := by
  intro pins s σ H xs us Q I rs q
  rcases q with q | q
  · exact h pins s σ H xs us Q I rs q
  · exact h' pins s σ H xs us Q I rs q
noncomputable def tyV (K : PySem.W.Frag) (T : String) (x : V) (H : Hp) : Prop := match x with
  | .str _ => T = "str"
  | .int _ => T = "int"
  | .ref p => (T = "list" /\ ∃ xs, SqL K H p xs) \/ (T = "tuple" /\ ∃ o, K.lookup p = some o /\ o.cls = .type "tuple" /\ o.dict = none) \/
      (T = "dict" /\ ((∃ kvs, H p = some (.dK kvs)) \/ ∃ kvs, H p = some (.dT kvs))) \/ (T = "set" /\ ∃ S n, H p = some (.set S n))
  | _ => False
theorem tyV_is {pins : List (Addr × Obj)} {σ : St} {H : Hp} {s : Shared} {T : String} {x : V} {v : Value} (I : Inv X pins σ H s) (r : RelV x v) (ty : tyV X.K T x H) :
    s.TypeIs v T /\ ∀ a, v = .ref a -> ∃ ob, s.heap.get? a = some ob /\ ob.dict = none := by
  cases x with
  | str z =>
    obtain ⟨t, rfl⟩ := r
    cases (show T = "str" from ty)
    exact ⟨typeIs_str s z t, fun _ e => nomatch e⟩
  | int i =>
    obtain ⟨t, rfl⟩ := r
    cases (show T = "int" from ty)
    exact ⟨typeIs_int s i t, fun _ e => nomatch e⟩
  | ref p =>
    cases r
    rcases ty with ⟨rfl, xs, hq⟩ | ⟨rfl, o, hk, hc, hd⟩ | ⟨rfl, hk⟩ | ⟨rfl, S, n, hk⟩
    · obtain ⟨its, _, pl, _⟩ := I.list hq
      refine ⟨pl.isList.typeIs, fun a e => ?_⟩
      cases e
      obtain ⟨o, n, e, c, hd, _⟩ := pl
      exact ⟨o, e, hd⟩
    · refine ⟨⟨o, I.kIn p o hk, hc⟩, fun a e => ?_⟩
      cases e
      exact ⟨o, I.kIn _ o hk, hd⟩
    · have z : ∃ o, s.heap.get? p = some o /\ o.ExactDict := by
        rcases hk with ⟨kvs, hk⟩ | ⟨kvs, hk⟩
        · obtain ⟨_, _, _, _, o, _, _, e, ex, _⟩ := I.hok p _ hk
          exact ⟨o, e, ex⟩
        · obtain ⟨_, _, _, _, o, _, _, e, ex, _⟩ := I.hok p _ hk
          exact ⟨o, e, ex⟩
      obtain ⟨o, e, ex⟩ := z
      refine ⟨⟨o, e, ex.1⟩, fun a e2 => ?_⟩
      cases e2
      exact ⟨o, e, ex.2.1⟩
    · obtain ⟨o, _, _, _, e, ex, _⟩ := I.hok p _ hk
      refine ⟨⟨o, e, ex.1⟩, fun a e2 => ?_⟩
      cases e2
      exact ⟨o, e, ex.2.1⟩
  | _ => exact False.elim ty
noncomputable def tBM (K : PySem.W.Frag) (T : String) (r : V -> List V -> Hp -> VK -> Prop) (to : TE) (t : TA) : TE := fun σ H Q => to σ H fun x H1 => tyV K T x H1 /\ t σ H1 fun xs H2 => r x xs H2 Q
variable {o e : Expr} {es : List Expr} {to : TE} {t : TA} {name : Str} {apos cpos : Pos} {T id : String} {r : V -> List V -> Hp -> VK -> Prop}
theorem pe_bm (pa : PlainAttrs T) (slot : Slot T name id) (hty : typeOf (.builtin id) = pure (.type "method_descriptor")) (hm : MtR X id r) (ho : PE X o to) (ha : PA X (e :: es) t)
    (hbase : attributeBase o name X.env (eval o X.env) = eval o X.env := by rfl)
    (hfew : ((backTo cpos (starEach (e :: es) X.env)).all (fun x => !x.1) && (backToKw cpos (keywordEach [] X.env)).all (fun x => x.1.isSome)
      && decide ((e :: es).length + ([] : List Keyword).length + (if ([] : List Keyword).isEmpty then 0 else 1) < 30)) = true := by rfl)
    (hline : (apos.endLine == cpos.line) = true := by rfl) (hs : starEach (e :: es) X.env = (false, eval e X.env) :: starEach es X.env := by rfl) (hplain : (backTo cpos (starEach es X.env)).any (·.1) = false := by rfl) :
    PE X (.Call (.Attribute o name apos) (e :: es) [] cpos) (tBM X.K T r to t) := by
  intro pins s σ H Q I h
  refine wpAny_Call_method_late hbase hfew hline rfl (thn (ho pins s σ H _ I h) fun v s1 ⟨x, H1, I1, r1, ty, q1⟩ => ?_)
  obtain ⟨h1, h2⟩ := tyV_is I1 r1 ty
  refine ⟨T, id, pa, slot, hty, h1, h2, ?_⟩
  have hA := ha cpos pins s1 σ H1 _ I1 q1
  rw [hs] at hA ⊢
  refine Calls.callWith_builtin (by show (false || (backTo cpos (starEach es X.env)).any (·.1)) = false; rw [hplain] <;> rfl) (Calls.evalArgs_plain ?_)
  exact thn hA fun us s2 ⟨vs, H2, I2, r2, q2⟩ => hm pins s2 σ H2 x vs v us Q I2 r1 r2 q2
end
end L2
namespace L2
open PySem PySem.Spec PyProof.Rows
noncomputable def MtM (X : Cx) (id : String) (r : V -> List V -> Hp -> VK -> Prop) : Prop :=
  ∀ (pins : List (Addr × Obj)) (s : Shared) (σ : St) (H : Hp) (x : V) (xs : List V) (v : Value) (us : List Value) (Q : VK), Inv X pins σ H s -> RelV x v -> Vals xs us -> r x xs H Q ->
    wpAny (model X.prog X.w) X.A (call (.builtin id) (v :: us)) (EP X pins σ Q) X.xe s
theorem Vals.one : ∀ {x : V} {us : List Value}, Vals [x] us -> ∃ u, us = [u] /\ RelV x u
  | _, _, .cons r .nil => ⟨_, rfl, r⟩
section
variable {X : Cx} {pins : List (Addr × Obj)} {σ : St} {H : Hp} {s : Shared} {l b : Addr} {xs ys zs : List V}
theorem Inv.lset {its its' : List Value} {n : Nat} {f : Array Value -> Array Value} {t' : Nat} (I : Inv X pins σ H s) (hH : H l = some (.lst xs))
    (e : s.heap.get? l = some { cls := .type "list", data := .seq its.toArray n }) (hf : f its.toArray = its'.toArray) (hv : Vals ys its') (hz : ys.length <= sizeLine) :
    Inv X pins σ (upd H l (.lst ys)) { s with heap := s.heap.update l (Obj.mapSeq f), toks := t' } := by
  have q := PySem.IsL.update e f
  rw [hf] at q
  refine I.write (x := l) (e := l) (by rw [hH]; exact trivial) (.inl rfl) (fun b' u hb hu => (Heap.get?_update_other s.heap (Obj.mapSeq f) (Ne.symm hb)).trans hu) ⟨_, q⟩ ?_
  exact ⟨hz, its', _, hv, q⟩
theorem Inv.lnew {its : List Value} {t' : Nat} (I : Inv X pins σ H s) (hv : Vals ys its) (hz : ys.length <= sizeLine) :
    Inv X pins σ (upd H s.heap.objs.size (.lst ys)) { s with heap := s.heap.push { cls := .type "list", data := .seq its.toArray }, toks := t' } :=
  I.laid (fun _ _ q => Heap.get?_push_of_some _ q) (Nat.le_refl _) ⟨hz, its, 0, hv, Heap.get?_push_size _ rfl⟩
theorem Inv.fresh (I : Inv X pins σ H s) : H s.heap.objs.size = none := I.hok.fresh (Nat.le_refl _)
theorem Inv.lstM (I : Inv X pins σ H s) (hH : H l = some (.lst xs)) : xs.length <= sizeLine /\ ∃ (its : List Value) (n : Nat), Vals xs its /\ xs.length = its.length /\ s.heap.get? l = some { cls := .type "list", data := .seq its.toArray n } := by
  obtain ⟨z, its, n, r, e⟩ := I.hok l _ hH
  exact ⟨z, its, n, r, r.length, e⟩
end
section
variable {X : Cx}
noncomputable def rAppend : V -> List V -> Hp -> VK -> Prop := fun x vs H Q => ∃ l xs y, x = .ref l /\ vs = [y] /\ H l = some (.lst xs) /\ xs.length < sizeLine /\ Q .non (upd H l (.lst (xs ++ [y])))
theorem mt_append : MtM X "list.append" rAppend := by
  intro pins s σ H x vs v us Q I rx rv h
  obtain ⟨l, xs, y, rfl, rfl, hH, hz, q⟩ := h
  cases rx
  obtain ⟨u, rfl, ru⟩ := rv.one
  obtain ⟨z, its, n, r, hl, e⟩ := I.lstM hH
  refine call_meets F.slot_list_append ⟨_, e, rfl⟩ F.entry_list_append (F.args_list_append_2 _ _) (PySem.list_append l its.toArray n u (by rw [List.size_toArray]; omega)) ⟨e, ?_⟩
  refine ⟨.non, _, I.lset (its' := its ++ [u]) hH e (by simp) (r.append (.cons ru .nil)) ?_, rfl, q⟩
  rw [List.length_append, List.length_singleton]
  omega
theorem len_rep {α : Type} (xs : List α) (k : Nat) : (List.replicate k xs).flatten.length = k * xs.length := by
  induction k with
  | zero => simp
  | succ k ih => rw [List.replicate_succ, List.flatten_cons, List.length_append, ih, Nat.succ_mul, Nat.add_comm]
end
section
variable {prog : Program} {w : World} {A : Around} {E : Value -> Shared -> Prop} {s : Shared}
end
section
variable {X : Cx}
end
end L2
namespace Att
open PySem PySem.W PySem.Calls PyProof.Rows
theorem ints_of_wellAll {P : Params} {h : Heap} : ∀ (ns : List Int) (vs : List Value), WellAll P h vs (ns.map WData.int) -> IntsAre vs ns := by
  intro ns
  induction ns with
  | nil =>
    intro vs w
    rw [List.map_nil] at w
    cases w
    exact .nil
  | cons n ns ih =>
    intro vs w
    rw [List.map_cons] at w
    cases w with
    | cons a b =>
      cases a
      exact .cons _ _ (ih _ b)
theorem script_of {l : OpenLaw} {n : Nat} (hn : l.most = some n) {P : Params} {h : Heap} {args : List WData} {vals : List Value}
    (hpre : l.row.toRowW.claim.pre args = true) (hwl : WellAll P h vals args) :
    ∃ a vs ns, vals = [Value.ref a] /\ args = [WData.list (ns.map WData.int)] /\ h.get? a = some { cls := .type "list", data := .seq vs.toArray } /\ IntsAre vs ns /\ ns.length <= n := by
  have hsh : WShape.hasAll [] args [.list .int] = true := (pre_splitW hpre).1
  have hc : l.pre.holds [] { args := args } = true := (pre_splitW hpre).2
  obtain ⟨d, r, rfl, h1, h2⟩ := hasAllW_cons hsh
  obtain rfl := hasAllW_nil h2
  obtain ⟨xs, rfl, h3⟩ := hasW_list h1
  obtain ⟨ns, rfl⟩ := items_int h3
  have hlen : ns.length <= n := by
    unfold OpenLaw.pre at hc
    have h4 : (WTm.not (.lt (.lit (.int (n : Int))) (.len (.arg 0)))).holds [] { args := [.list (ns.map .int)] } = true := by
      have h4 := (holds_andW hc).1
      rw [hn] at h4
      exact h4
    have h5 := condW_of h4 (w_not (w_lt w_lit (w_len_list (w_arg rfl))))
    rw [List.length_map] at h5
    refine Nat.le_of_not_lt fun q => ?_
    have q' : (n : Int) < ((ns.length : Nat) : Int) := by omega
    first
      | (rw [decide_eq_true q'] at h5; exact absurd h5 (by decide))
      | (simp at h5; omega)
  cases hwl with
  | cons w1 w2 =>
    cases w2
    cases w1 with
    | list ho hall => exact ⟨_, _, ns, rfl, rfl, ho, ints_of_wellAll ns _ hall, hlen⟩
theorem post_true (l : OpenLaw) (args : List WData) : l.row.toRowW.claim.post args (.bool true) args = true :=
  postW_of (r := l.row.toRowW) (X := (true == true))
    (show WShape.has [] (.bool true) .bool = true by first | rfl | decide | simp [WShape.has, WShape.arms, WShape.armsAll])
    (show (WTm.eq .res (.lit (.bool true))).value [] { args := args, res := some (.bool true), after := args } = some (.bool (true == true)) from w_eq_bool (w_res rfl) w_lit) rfl
theorem attach_call {l : OpenLaw} {n : Nat} {q : Program} {loose : List Str} {XP : (Str -> Option Value) -> Heap -> Prop} {YP : World -> Heap -> Prop} {d : DefRec}
    (hn : l.most = some n) (hdf : d.params.defaults = [])
    (call : ∀ (w : World) (s₀ s₁ : Shared) (mg mb : Str -> Option Value) (fa : Addr) (o : Obj) (pm cd doc : Value) (a : Addr) (vs : List Value) (ns : List Int),
      Ground q loose [] XP w s₀ mg mb s₁.heap -> YP w s₁.heap ->
      s₁.heap.get? fa = some o -> o.data = .func (docDef d.name d.params d.body d.scope pm cd doc) -> s₁.heap.CodeRec cd d.name -> mg d.name = some (.ref fa) ->
      s₁.heap.get? a = some { cls := .type "list", data := .seq vs.toArray } -> IntsAre vs ns -> ns.length <= n -> s₁.gens = #[] ->
      codeAny (model l.prog w) callerA (.call (.ref fa) ⟨[.ref a], []⟩) (fun r s' => r = .ok (.ret (.bool true)) /\ OldK s₁.heap s'.heap /\ s'.os = s₁.os /\ AllBare s'.gens) s₁) :
    WalkO q loose XP YP l.row.toRowW d [] (fun f vs => PySem.call f vs) := by
  intro w s₀ s₁ mg mb G Y fa o pm cd doc dV kV ho hd hcd hD hmg hg args vals as hpre hlay hrd hwl hlo
  obtain rfl : dV = .none := Dflts.none hD hdf
  obtain rfl : kV = .none := Dflts.noKw hD
  obtain ⟨a, vs, ns, rfl, rfl, hobj, hints, hlen⟩ := script_of hn hpre hwl
  refine enter_call (codeAny_mono (call w s₀ s₁ mg mb fa o pm cd doc a vs ns G Y ho (fd_plain hd) hcd hmg hobj hints hlen hg) fun r s' hq => ?_)
  obtain ⟨rfl, h2, h3, h4⟩ := hq
  exact ⟨.inl ⟨.bool true, .bool true, [], rfl, fun _ => rfl, .bool true, post_true l _, fun _ => ⟨List.Pairwise.nil, fun _ hm => (nomatch hm)⟩⟩, h2, h3, h4⟩
section
variable {prog : Program} {w : World} {A : Around} {E : Value -> Shared -> Prop} {s : Shared} {K : Frag}
end
end Att
namespace L2
open PySem PySem.Spec PyProof.Rows
theorem vals_ints : ∀ {vs : List Value} {ns : List Int}, IntsAre vs ns -> Vals (ns.map V.int) vs
  | _, _, .nil => .nil
  | _, _, .cons n t h => .cons ⟨t, rfl⟩ (vals_ints h)
end L2
namespace L2
open PySem PySem.Spec PyProof.Rows
end L2
namespace L2
open PySem PySem.Spec PyProof.Rows
noncomputable def inClass (s : Stmt) (j : Nat) : Stmt := match s with
  | .ClassDef _ _ _ body _ _ _ _ _ _ _ => body.getD j (.Pass ⟨0, 0, 0, 0⟩)
  | _ => .Pass ⟨0, 0, 0, 0⟩
noncomputable def defArgs (s : Stmt) : Arguments := match s with
  | .FunctionDef _ a _ _ _ _ _ _ _ _ => a
  | _ => { posonlyargs := [], args := [], vararg := none, kwonlyargs := [], kw_defaults := [], kwarg := none, defaults := [] }
noncomputable def defBody (s : Stmt) : List Stmt := match s with
  | .FunctionDef _ _ b _ _ _ _ _ _ _ => b
  | _ => []
noncomputable def defScope (s : Stmt) : Scope := match s with
  | .FunctionDef _ _ _ _ _ _ sc _ _ _ => sc
  | _ => { kind := .function, names := [], isGenerator := false, isCoroutine := false }
noncomputable abbrev CX0 : CXT := fun _ _ _ _ _ _ => False
noncomputable abbrev E0 : XK := fun _ _ _ => False
structure Fun (K : PySem.W.Frag) (x qual : Str) (st : Stmt) (f : Addr) (fd : FuncData) : Prop where
  ex : ∃ (oc : Value) (od : Option Addr) (kV doc pm : Value) (an : Option Addr) (cdv ct : Value) (osl : Array (Option Value)),
    fd = PySem.W.fnOf x qual (defArgs st) (defBody st) (defScope st) .none kV doc pm an cdv ct /\ K.lookup f = some ⟨oc, od, .func fd, osl⟩ /\ PySem.W.codeIn K cdv qual = true
  kp : PySem.W.keepIn K (.ref f) = true
section
variable {P : Program} {w : World} {K : PySem.W.Frag} {mg : Str -> Option Value} {base : Heap}
theorem Fun.ok {x qual : Str} {st : Stmt} {f : Addr} {fd : FuncData} {N ps : List Str} {k : Nat} {sp : Sp} (F : Fun K x qual st f fd) (S : FnScope N ps (defScope st)) (len : ∀ vs H Q E, sp vs H Q E -> vs.length = ps.length)
    (hbody : ∀ (cdv : Value) (A : Around) (outer : List Env) (s : Shared) (H : Hp) (vs : List V) (Q : VK) (E : XK), Room k (A.deeper (envOfC qual (defScope st) s.heap.objs.size f cdv)) -> sp vs H Q E ->
      ∃ t, PSs (cxOf CX0 P w K mg base N qual (defScope st) f cdv A outer s H E).nox (defBody st) t /\ t { nx := fun _ H' => Q .non H', rt := Q } (start N vs) H) : FnOk P w K mg base CX0 (k + 1) f fd ps sp := by
  obtain ⟨oc, od, kV, doc, pm, an, cdv, ct, osl, rfl, lk, hcd⟩ := F.ex
  refine fn_of lk hcd S len fun A outer s H vs Q E hr hsp => ?_
  obtain ⟨t, h, q⟩ := hbody cdv A outer s H vs Q E hr hsp
  exact ⟨t, h.nox, q⟩
theorem Fun.binds {x qual : Str} {st : Stmt} {f : Addr} {fd : FuncData} {ps : List Str} (F : Fun K x qual st f fd)
    (h : ∀ (kV doc pm : Value) (an : Option Addr) (cdv ct : Value) (us : List Value), us.length = ps.length -> bindArgs (PySem.W.fnOf x qual (defArgs st) (defBody st) (defScope st) .none kV doc pm an cdv ct) ⟨us, []⟩ = pure (ps.zip us)) : Binds K fd ps [] := by
  obtain ⟨oc, od, kV, doc, pm, an, cdv, ct, osl, rfl, lk, hcd⟩ := F.ex
  exact .all (h kV doc pm an cdv ct)
theorem fun_mk {x qual : Str} {st : Stmt} {f : Addr} {oc : Value} {od an : Option Addr} {osl : Array (Option Value)} {kV doc pm cdv ct : Value} (l : K.lookup f = some ⟨oc, od, .func (PySem.W.fnOf x qual (defArgs st) (defBody st) (defScope st) .none kV doc pm an cdv ct), osl⟩)
    (c : PySem.W.codeIn K cdv qual = true) (k : PySem.W.keepIn K (.ref f) = true) : Fun K x qual st f (PySem.W.fnOf x qual (defArgs st) (defBody st) (defScope st) .none kV doc pm an cdv ct) := ⟨⟨oc, od, kV, doc, pm, an, cdv, ct, osl, rfl, l, c⟩, k⟩
end
section
variable {X : Cx}
end
theorem iteF {A B : Prop} (h : B) : if false = true then A else B := by
  rw [if_neg Bool.false_ne_true]
  exact h
theorem iteT {A B : Prop} (h : A) : if true = true then A else B := by
  rw [if_pos rfl]
  exact h
noncomputable def Same (H H' : Hp) : Prop := ∀ b o, H b = some o -> H' b = some o
end L2
namespace Fx
open PySem
theorem dict_mapF (o : Obj) (f : Array Value -> Array Value) : (o.mapFields f).dict = o.dict := by
  rcases o with ⟨c, d, dt, sl⟩
  cases dt <;> rfl
noncomputable def Dk (h : Heap) (e : Addr) (d : Option Addr) : Prop := ∀ dx, d = some dx -> ∃ oe, h.get? e = some oe /\ oe.dict = some dx
noncomputable def Fly (B : Heap) (l : List Env) (e : Addr) (cls : Value) (d : Option Addr) (h : Heap) : Prop :=
  (∃ a0, Heap.FlyingW B l e cls a0 h) /\ Dk h e d
noncomputable def Held (B : Heap) (l : List Env) (e : Addr) (cls : Value) (d : Option Addr) (L : Addr) (h : Heap) : Prop :=
  (∃ a0, Heap.HeldW B l e cls a0 L h) /\ Dk h e d
theorem dk_upd {h : Heap} {e b : Addr} {d : Option Addr} {f : Array Value -> Array Value} {o : Obj} {vs : Array Value} (hb : h.get? b = some o) (hd : o.data = .fields vs) (k : Dk h e d) :
    Dk (h.update b (Obj.mapFields f)) e d := by
  intro dx hx
  obtain ⟨oe, h1, h2⟩ := k dx hx
  by_cases q : b = e
  · subst q
    rw [hb] at h1
    cases h1
    exact ⟨_, Heap.get?_update_self _ hb (Obj.isFreed_of_fields (Obj.data_mapFields hd f)), by rw [dict_mapF]; exact h2⟩
  · exact ⟨oe, by rw [Heap.get?_update_other _ _ q]; exact h1, h2⟩
section
variable {M : Model} {A : Around} {E : Value -> Shared -> Prop} {s : Shared} {B : Heap} {env : Env} {outer l : List Env} {L e : Addr} {cls : Value} {d : Option Addr} {Q : Unit -> Shared -> Prop}
theorem entry_held {oe : Obj} {vs : Array Value} {head a0 : Value} {more : Bool} (hfr : A.frames = some (env :: outer)) (ff : s.heap.FunFrames B (env :: outer)) (hf : env.frame = some L)
    (he : s.heap.get? e = some oe) (st : B.StaysIn s.heap) (fe : B.get? e = none) (hd : oe.data = .fields vs) (hz : 1 < vs.size) (h0 : vs[0]? = some a0) (dk : Dk s.heap e d)
    (hQ : ∀ h1, Held B (env :: outer) e oe.cls d L h1 -> s.heap.UpToSlots h1 -> Q () { s with heap := h1 }) :
    wpAny M A (do
      let fr ← frameOf env
      let at_ ← entryPlaceOf L more
      let tb ← EntryCells.newEntry head fr .none (rawInt L) .none at_
      setField (.ref e) 1 tb) Q E s := by
  have ne : e ∉ (env :: outer).filterMap (·.frame) := fun z => by
    obtain ⟨_, o2, g1, g2⟩ := ff.mem z
    rw [he] at g1; cases g1; exact g2 vs hd
  refine wpAny_bind (wpAny_frameOf_fun hfr ff hf fun h2 so => ?_)
  refine wpAny_bind (wpAny_entryPlaceOf fun places ok => ?_)
  unfold EntryCells.newEntry newFields
  refine wpAny_bind (wpAny_newObj_type ?_ (ok.sizeOk5 _ _ _ _ _))
  have he2 : h2.get? e = some oe := by rw [so.2.1 e ne]; exact he
  have st2 : B.StaysIn h2 := fun b o q => by
    rw [so.2.1 b fun z => by rw [(ff.mem z).1] at q; cases q]
    exact st b o q
  generalize hO : ({ cls := .type "traceback", dict := none, data := .fields ([head, .ref L, .none, rawInt L, .none] ++ (if places.isEmpty then List.replicate 6 Value.none else places)).toArray } : Obj) = tbo
  have he3 : (h2.push tbo).get? e = some oe := Heap.get?_push_of_some _ he2
  refine wpAny_setField he3 hd hz (hQ _ ?_ ?_)
  all_goals
    have nT : h2.objs.size ≠ e := Nat.ne_of_gt (Heap.lt_size he2)
    have keep : ∀ b o, b ≠ e -> h2.get? b = some o -> ((h2.push tbo).update e (Obj.mapFields (·.setIfInBounds 1 (Value.ref h2.objs.size)))).get? b = some o := fun b o nb hb => by
      rw [Heap.get?_update_other _ _ (Ne.symm nb)]
      exact Heap.get?_push_of_some _ hb
    have nrec : ∀ b o, s.heap.get? b = some o -> (∀ ws, o.data ≠ .fields ws) -> b ≠ e := fun b o hb nf z => by
      subst z; rw [he] at hb; cases hb; exact nf vs hd
  · have hd4 := Obj.data_mapFields hd (·.setIfInBounds 1 (Value.ref h2.objs.size))
    have he4 := Heap.get?_update_self (Obj.mapFields (·.setIfInBounds 1 (Value.ref h2.objs.size))) he3 (Obj.isFreed_of_fields hd4)
    have hT4 : ((h2.push tbo).update e (Obj.mapFields (·.setIfInBounds 1 (Value.ref h2.objs.size)))).get? h2.objs.size = some tbo := by
      rw [Heap.get?_update_other _ _ (Ne.symm nT)]
      exact Heap.get?_push_size h2 (by rw [← hO]; rfl)
    refine ⟨⟨a0, fun b o q => keep b o (fun z => by rw [z, fe] at q; cases q) (st2 b o q), fe, ff.of_keeps fun b o hb nf => ?_, ?_⟩, fun dx hx => ?_⟩
    · obtain ⟨sl, z⟩ := so.2.2 b o hb
      exact ⟨_, keep b _ (nrec b o hb nf) z, rfl⟩
    · refine ⟨_, _, h2.objs.size, tbo, _, he4, ⟨Obj.cls_mapFields _ _, ?_⟩, hd4, by simp [hz], st2.fresh, nT, hT4, by rw [← hO], ?_⟩
      · rw [Array.getElem?_setIfInBounds_ne (by decide)]; exact h0
      · rcases ok with z | ⟨_, _, _, _, _, _, _, z⟩ <;> (rw [z]; simp)
    · obtain ⟨o1, g1, g2⟩ := dk dx hx
      rw [he] at g1; cases g1
      exact ⟨_, he4, by rw [dict_mapF]; exact g2⟩
  · intro b o hb nf
    obtain ⟨sl, z⟩ := so.2.2 b o hb
    exact ⟨sl, keep b _ (nrec b o hb nf) z⟩
theorem fly_note (hfr : A.frames = some (env :: outer)) (hf : env.frame = some L) (x : Fly B (env :: outer) e cls d s.heap)
    (hQ : ∀ h1, Held B (env :: outer) e cls d L h1 -> s.heap.UpToSlots h1 -> Q () { s with heap := h1 }) : wpAny M A (noteFrame (.ref e) env) Q E s := by
  obtain ⟨⟨a0, st, fe, ff, oe, vs, T, oT, ts, he, ⟨hc, h0⟩, hd, h1, bT, Te, hT, hdT, h3⟩, dk⟩ := x
  subst hc
  unfold noteFrame
  simp only [hf]
  refine wpAny_bind (wpAny_field he hd h1 ?_)
  rw [if_pos (by simp)]
  refine wpAny_bind (wpAny_field hT hdT h3 ?_)
  rw [if_neg (by simp [rawInt])]
  refine wpAny_bind (wpAny_setField hT hdT (Array.getElem?_eq_some_iff.mp h3).1 ?_)
  have oth : ∀ b, b ≠ T -> (s.heap.update T (Obj.mapFields (·.setIfInBounds 3 Value.none))).get? b = s.heap.get? b := fun b z => Heap.get?_update_other _ _ (Ne.symm z)
  have nrec : ∀ b o, s.heap.get? b = some o -> (∀ ws, o.data ≠ .fields ws) -> b ≠ T := fun b o hb nf z => by
    subst z; rw [hT] at hb; cases hb; exact nf ts hdT
  refine entry_held (s := { s with heap := s.heap.update T (Obj.mapFields (·.setIfInBounds 3 Value.none)) }) hfr (ff.of_keeps fun b o hb nf => ⟨o, by rw [oth b (nrec b o hb nf)]; exact hb, rfl⟩) hf
    (by rw [oth e (Ne.symm Te)]; exact he) (fun b o q => by rw [oth b fun z => by rw [z, bT] at q; cases q]; exact st b o q) fe hd (Array.getElem?_eq_some_iff.mp h1).1 h0 (dk_upd hT hdT dk) fun h5 hl up => ?_
  exact hQ h5 hl fun b o hb nf => up b o (by rw [oth b (nrec b o hb nf)]; exact hb) nf
theorem raw_note {oe : Obj} {vs : Array Value} {a0 : Value} (hfr : A.frames = some (env :: outer)) (ff : s.heap.FunFrames B (env :: outer)) (hf : env.frame = some L) (he : s.heap.get? e = some oe) (st : B.StaysIn s.heap)
    (fe : B.get? e = none) (hd : oe.data = .fields vs) (h1 : vs[1]? = some .none) (h0 : vs[0]? = some a0) (dk : Dk s.heap e d)
    (hQ : ∀ h1, Held B (env :: outer) e oe.cls d L h1 -> s.heap.UpToSlots h1 -> Q () { s with heap := h1 }) : wpAny M A (noteFrame (.ref e) env) Q E s := by
  unfold noteFrame
  simp only [hf]
  refine wpAny_bind (wpAny_field he hd h1 ?_)
  rw [if_neg (by decide)]
  exact entry_held hfr ff hf he st fe hd (Array.getElem?_eq_some_iff.mp h1).1 h0 dk hQ
theorem land_core {fl a0 : Value} (st : B.StaysIn s.heap) (fe : B.get? e = none) (ff : s.heap.FunFrames B l) (tr : s.heap.TracedAtW B e cls a0 fl) (dk : Dk s.heap e d)
    (hQ : ∀ h1, Fly B l e cls d h1 -> s.heap.UpToSlots h1 -> Q () { s with heap := h1 }) : wpAny M A (setFlight (.ref e) none) Q E s := by
  obtain ⟨oe, vs, T, oT, ts, he, hc, hd, h1, bT, Te, hT, hdT, h3⟩ := tr
  have z3 : 3 < ts.size := (Array.getElem?_eq_some_iff.mp h3).1
  unfold setFlight
  refine wpAny_bind (wpAny_field he hd h1 ?_)
  rw [if_pos (by simp)]
  refine wpAny_setField hT hdT z3 (hQ _ ⟨⟨a0, ?_⟩, dk_upd hT hdT dk⟩ ?_)
  all_goals
    have oth : ∀ b, b ≠ T -> (s.heap.update T (Obj.mapFields (·.setIfInBounds 3 ((none : Option Addr).elim Value.none fun f => rawInt f)))).get? b = s.heap.get? b := fun b z => Heap.get?_update_other _ _ (Ne.symm z)
    have nrec : ∀ b o, s.heap.get? b = some o -> (∀ ws, o.data ≠ .fields ws) -> b ≠ T := fun b o hb nf z => by
      subst z; rw [hT] at hb; cases hb; exact nf ts hdT
  · refine ⟨fun b o q => by rw [oth b fun z => by rw [z, bT] at q; cases q]; exact st b o q, fe, ff.of_keeps fun b o hb nf => ⟨o, by rw [oth b (nrec b o hb nf)]; exact hb, rfl⟩, ?_⟩
    exact ⟨oe, vs, T, _, _, by rw [oth e (Ne.symm Te)]; exact he, hc, hd, h1, bT, Te, Heap.get?_update_self _ hT (Obj.isFreed_of_fields (Obj.data_mapFields hdT _)), Obj.data_mapFields hdT _, by simp [z3]⟩
  · exact fun b o hb nf => ⟨o.slots, by rw [oth b (nrec b o hb nf)]; exact hb⟩
theorem held_land (x : Held B l e cls d L s.heap) (hQ : ∀ h1, Fly B l e cls d h1 -> s.heap.UpToSlots h1 -> Q () { s with heap := h1 }) : wpAny M A (setFlight (.ref e) none) Q E s := by
  obtain ⟨⟨a0, st, fe, ff, tr⟩, dk⟩ := x
  exact land_core st fe ff tr dk hQ
theorem fly_land (x : Fly B l e cls d s.heap) (hQ : ∀ h1, Fly B l e cls d h1 -> s.heap.UpToSlots h1 -> Q () { s with heap := h1 }) : wpAny M A (setFlight (.ref e) none) Q E s := by
  obtain ⟨⟨a0, st, fe, ff, tr⟩, dk⟩ := x
  exact land_core st fe ff tr.at dk hQ
theorem Fly.less (x : Fly B (env :: outer) e cls d s.heap) : Fly B outer e cls d s.heap := by
  obtain ⟨⟨a0, st, fe, ⟨_, _, ff⟩, tr⟩, dk⟩ := x
  exact ⟨⟨a0, st, fe, ff, tr⟩, dk⟩
theorem fly_leave (hfr : A.frames = some (env :: outer)) (hf : env.frame = some L) (x : Fly B (env :: outer) e cls d s.heap)
    (hQ : ∀ h1, Fly B outer e cls d h1 -> s.heap.UpToSlots h1 -> Q () { s with heap := h1 }) : wpAny M A (leaving env (.ref e)) Q E s := by
  unfold leaving
  exact wpAny_bind (fly_note hfr hf x fun h1 x1 u1 => held_land (s := { s with heap := h1 }) x1 fun h2 x2 u2 => hQ h2 (Fly.less (s := { s with heap := h2 }) x2) (u1.trans u2))
theorem raw_leave {oe : Obj} {vs : Array Value} {a0 : Value} (hfr : A.frames = some (env :: outer)) (ff : s.heap.FunFrames B (env :: outer)) (hf : env.frame = some L) (he : s.heap.get? e = some oe) (st : B.StaysIn s.heap)
    (fe : B.get? e = none) (hd : oe.data = .fields vs) (h1 : vs[1]? = some .none) (h0 : vs[0]? = some a0) (dk : Dk s.heap e d)
    (hQ : ∀ h1, Fly B outer e oe.cls d h1 -> s.heap.UpToSlots h1 -> Q () { s with heap := h1 }) : wpAny M A (leaving env (.ref e)) Q E s := by
  unfold leaving
  exact wpAny_bind (raw_note hfr ff hf he st fe hd h1 h0 dk fun h3 x1 u1 => held_land (s := { s with heap := h3 }) x1 fun h2 x2 u2 => hQ h2 (Fly.less (s := { s with heap := h2 }) x2) (u1.trans u2))
end
end Fx
set_option maxHeartbeats 4000000
namespace L2
open PySem PySem.Spec PyProof.Rows Fx
noncomputable def CXx (P : Program) (w : World) : CXT := fun outer H s E e s' =>
  ∃ (ea : Addr) (cls : Value) (d : Option Addr) (H1 : Hp) (B : Heap), e = .ref ea /\ s'.os = s.os /\ AllBare s'.gens /\ Fly B outer ea cls d s'.heap /\
    (∀ h5 : Heap, B.StaysIn h5 -> s'.heap.UpToSlots h5 -> Un (frs outer) [] H H1 s.heap h5 /\ HOk P w H1 h5) /\ H1 ea = none /\ s.heap.get? ea = none /\ E cls d H1
structure NewA (X : Cx) (pins : List (Addr × Obj)) (e : Addr) : Prop where
  old : X.s₀.heap.get? e = none
  pin : ∀ p ∈ X.pn ++ pins, p.1 ≠ e
  loc : e ≠ X.env.locals
  cel : ∀ x c, X.env.cells.lookup x = some c -> c ≠ e
  frm : e ∉ X.fs
noncomputable def XP (X : Cx) (pins : List (Addr × Obj)) (σ : St) (R : XK) (e : Value) (s' : Shared) : Prop :=
  ∃ (ea : Addr) (cls : Value) (d : Option Addr) (H1 : Hp) (B : Heap), e = .ref ea /\ Fly B X.stack ea cls d s'.heap /\
    (∀ h5 : Heap, B.StaysIn h5 -> s'.heap.UpToSlots h5 -> Inv X pins σ H1 { s' with heap := h5 }) /\ H1 ea = none /\ NewA X pins ea /\ R cls d H1
section
variable {X : Cx} {pins : List (Addr × Obj)} {σ : St} {H : Hp} {s s' : Shared} {e : Value} {E : XK}
theorem Inv.newA {ea : Addr} (I : Inv X pins σ H s) (n : s.heap.get? ea = none) (hex : X.ex = []) : NewA X pins ea := by
  have z : ∀ b o, s.heap.get? b = some o -> b ≠ ea := fun b o q w => by rw [w, n] at q; cases q
  refine ⟨?_, fun p hp => z _ _ (I.pin p hp).1, fun w => ?_, fun x c hc => ?_, fun hb => ?_⟩
  · cases q : X.s₀.heap.get? ea with
    | none => rfl
    | some o =>
      obtain ⟨o1, q1⟩ := I.base.there ea o q (by rw [hex]; simp)
      rw [n] at q1; cases q1
  · obtain ⟨m, ⟨o, _, _, ho, _⟩, _⟩ := I.loc
    exact z _ _ ho w.symm
  · obtain ⟨v, o, ho, _⟩ := I.cell x c hc
    exact z _ _ ho
  · obtain ⟨_, o, ho, _⟩ := I.funs.mem hb
    exact z _ _ ho rfl
theorem xp_of (I : Inv X pins σ H s) (h : CXx X.prog X.w X.stack H s E e s') (hex : X.ex = []) : XP X pins σ E e s' := by
  obtain ⟨ea, cls, d, H1, B, rfl, os, bare, fl, cl, en, fr, hE⟩ := h
  refine ⟨ea, cls, d, H1, B, rfl, fl, fun h5 b5 u5 => ?_, en, I.newA fr hex, hE⟩
  obtain ⟨un, hok⟩ := cl h5 b5 u5
  exact I.call' (s' := { s' with heap := h5 }) (ch := []) os un hok bare fun b z => absurd z (by simp)
end
theorem ObjOk.there {P : Program} {w : World} {H : Hp} {h : Heap} {a : Addr} {o : HO} (x : ObjOk P w H h a o) : ∃ ob, h.get? a = some ob := by
  cases o with
  | lst xs => obtain ⟨_, _, _, _, q⟩ := x; exact ⟨_, q⟩
  | tup xs => obtain ⟨_, _, _, ob, q, _⟩ := x; exact ⟨_, q⟩
  | dK kvs => obtain ⟨_, _, _, _, ob, _, _, q, _⟩ := x; exact ⟨_, q⟩
  | dT kvs => obtain ⟨_, _, _, _, ob, _, _, q, _⟩ := x; exact ⟨_, q⟩
  | set S n => obtain ⟨ob, _, _, _, q, _⟩ := x; exact ⟨_, q⟩
  | ins C dx fs => obtain ⟨_, _, _, q, _⟩ := x; exact ⟨_, q⟩
  | own y => exact x
  | xd fs => obtain ⟨_, ⟨_, _, _, q, _⟩, _⟩ := x; exact ⟨_, q⟩
  | rng lo hi => obtain ⟨_, _, _, q⟩ := x; exact ⟨_, q⟩
  | frz ob u => obtain ⟨q, _⟩ := x; exact ⟨_, q⟩
  | tbl ps => exact ⟨_, (show h.get? a = some _ from x)⟩
  | met f y => exact ⟨_, (show h.get? a = some _ from x)⟩
  | ext φ => obtain ⟨_, q, _⟩ := x; exact q
theorem HOk.no {P : Program} {w : World} {H : Hp} {h : Heap} {a : Addr} (x : HOk P w H h) (n : h.get? a = none) : H a = none := by
  cases q : H a with
  | none => rfl
  | some o =>
    obtain ⟨ob, z⟩ := (x a o q).there
    rw [n] at z; cases z
section
variable {P : Program} {w : World} {K : PySem.W.Frag} {mg : Str -> Option Value} {base : Heap} {N : List Str} {qual : Str} {scope : Scope} {f : Addr} {cd : Value} {A : Around} {outer : List Env} {s : Shared} {H : Hp} {E : XK}
theorem passX : Passes (CXx P w) (cxOf (CXx P w) P w K mg base N qual scope f cd A outer s H E) E := fun pins σ H1 s1 e s' I h => by
  obtain ⟨ea, cls, d, H2, B, rfl, fl, cl, en, na, hE⟩ := xp_of I h rfl
  have J := fun h5 b5 u5 => cl h5 b5 u5
  obtain ⟨a0, st, _⟩ := fl.1
  have J0 := J s'.heap st (Heap.UpToSlots.refl _)
  show wpAny _ _ (leaving _ (.ref ea)) _ _ s'
  refine fly_leave (outer := outer) (L := s.heap.objs.size) I.ok.frames rfl fl fun h1 fl1 u1 => ?_
  exact ⟨ea, cls, d, H2, B, rfl, J0.os, J0.bare, fl1, fun h5 b5 u5 => ⟨(J h5 b5 (u1.trans u5)).base, (J h5 b5 (u1.trans u5)).hok⟩, en, na.old, hE⟩
theorem raw_xe {pins : List (Addr × Obj)} {σ : St} {H2 : Hp} {s2 : Shared} {e : Addr} {oe : Obj} {vs : Array Value} {a0 : Value} {d : Option Addr}
    (I : Inv (cxOf (CXx P w) P w K mg base N qual scope f cd A outer s H E) pins σ H2 s2) (he : s2.heap.get? e = some oe) (fr : s.heap.get? e = none) (hd : oe.data = .fields vs) (h1 : vs[1]? = some .none) (h0 : vs[0]? = some a0)
    (dk : Dk s2.heap e d) (en : H2 e = none) (hE : E oe.cls d H2) : (cxOf (CXx P w) P w K mg base N qual scope f cd A outer s H E).xe (.ref e) s2 := by
  let X := cxOf (CXx P w) P w K mg base N qual scope f cd A outer s H E
  let B := PySem.W.hideAll s2.heap (e :: frs X.stack)
  have st : B.StaysIn s2.heap := fun b o q => PySem.W.of_hideAll _ q
  have fe : B.get? e = none := PySem.W.hideAll_none _ (List.Mem.head _)
  have ff : s2.heap.FunFrames B X.stack := PySem.W.funFrames_hide I.stack fun env hm b hb => List.Mem.tail _ (List.mem_filterMap.mpr ⟨env, hm, hb⟩)
  show wpAny _ _ (leaving _ (.ref e)) _ _ s2
  refine raw_leave (B := B) (outer := outer) (L := s.heap.objs.size) I.ok.frames ff rfl he st fe hd h1 h0 dk fun h3 fl3 u3 => ?_
  refine ⟨e, oe.cls, d, H2, B, rfl, I.os, I.bare, fl3, fun h5 b5 u5 => ?_, en, fr, hE⟩
  have up : s2.heap.UpToSlots h5 := u3.trans u5
  have keep : ∀ b o, s2.heap.get? b = some o -> b ≠ e -> b ∉ frs X.stack -> h5.get? b = some o := fun b o q n1 n2 => b5 b o (PySem.W.hideAll_get _ q fun z => by
    rcases List.mem_cons.mp z with z | z
    · exact n1 z
    · exact n2 z)
  have trkd : ∀ b o, H2 b = some o -> b ≠ e /\ b ∉ frs X.stack := fun b o q => ⟨fun z => (by subst z; rw [en] at q; cases q), fun z => (by rw [I.stkFree b z] at q; cases q)⟩
  have old : ∀ b o, s.heap.get? b = some o -> b ∉ frs outer -> b ≠ e /\ b ∉ frs X.stack := fun b o q n => ⟨fun z => (by subst z; rw [fr] at q; cases q), fun z => (List.mem_cons.mp (I.stkSub b z)).elim (fun z => absurd (Heap.lt_size q) (by rw [z]; exact Nat.lt_irrefl _)) (fun z => n z)⟩
  have fram : ∀ b o, s2.heap.get? b = some o -> b ∈ frs outer -> ∃ sl, h5.get? b = some { o with slots := sl } := fun b o q hb => by
    obtain ⟨_, o2, q2, nf⟩ := I.funs.mem hb
    rw [q] at q2; cases q2
    exact up b o q nf
  refine ⟨⟨fun b o q n hb _ => ?_, fun b o q n hb _ => ?_, fun b o q n hx => I.base.free b o q n hx, fun b o q hx => ?_, I.base.tups, I.base.frzs, I.base.tbls⟩, fun a o ea => ?_⟩
  · obtain ⟨n1, n2⟩ := old b o q hb
    exact keep b o (I.base.keep b o q n hb (by intro z; exact absurd (show b ∈ ([] : List Addr) from z) (by simp))) n1 n2
  · obtain ⟨sl, q1⟩ := I.base.slot b o q n hb (by intro z; exact absurd (show b ∈ ([] : List Addr) from z) (by simp))
    obtain ⟨sl2, q2⟩ := fram b _ q1 hb
    exact ⟨sl2, q2⟩
  · obtain ⟨o1, q1⟩ := I.base.there b o q hx
    by_cases hb : b ∈ frs outer
    · obtain ⟨sl2, q2⟩ := fram b _ q1 hb
      exact ⟨_, q2⟩
    · obtain ⟨n1, n2⟩ := old b o q hb
      exact ⟨o1, keep b o1 q1 n1 n2⟩
  · refine (I.hok a o ea).stay (fun b u hb q => ?_) (fun _ q => q) fun _ _ q => q
    rcases hb with rfl | hb
    · exact keep b u q (trkd b _ ea).1 (trkd b _ ea).2
    · exact keep b u q (trkd b _ hb).1 (trkd b _ hb).2
end
theorem exc_obj {K : PySem.W.Frag} {h : Heap} {C : Addr} {bmB : List Value} {newId : String} (X : K.In h) (q : PySem.W.excIn K C bmB newId = true) :
    ∃ bm N nm qn bs hdct sn sub ab col dd k0 k1 k2 k3 k5 mN, h.get? C = some (excClassObj nm qn C N bs bm hdct sn sub ab col dd k0 k1 k2 k3 k5 newId) /\ h.Ns N mN /\ mN "__init__" = none /\ OwnTail h bmB bm := by
  unfold PySem.W.excIn at q
  split at q
  next dd cd sl ho =>
    split at q
    next C' bm k0 k1 k2 k3 n k5 hm hs =>
      simp only [Bool.and_eq_true, beq_iff_eq, Bool.not_eq_true'] at q
      obtain ⟨⟨⟨⟨⟨rfl, rfl⟩, hdel⟩, tl⟩, hok⟩, hni⟩ := q
      rcases cd with ⟨nm, bs, mro, ns, qn, hdc, sn, sub, ab, col, del⟩
      dsimp only at hm hdel hok hni
      subst hm hdel
      have es : sl = #[k0, k1, k2, k3, some (.builtin n), k5] := by
        rcases sl with ⟨l⟩
        simp only at hs
        rw [hs]
      subst es
      exact ⟨bm, ns, nm, qn, bs, hdc, sn, sub, ab, col, dd, k0, k1, k2, k3, k5, _, X _ _ ho, .of_isNs (PySem.W.isNs_of_in X hok), PySem.W.nsMap_none_of_in X hok hni, PySem.W.tail_of_in X tl⟩
    next => cases q
  next => cases q
section
variable {P : Program} {w : World} {K : PySem.W.Frag} {mg : Str -> Option Value} {base : Heap} {N : List Str} {qual : Str} {scope : Scope} {f : Addr} {cd : Value} {A : Around} {outer : List Env} {s : Shared} {H : Hp} {E : XK}
noncomputable def tRaise (E : XK) (C : Addr) : TS := fun _ _ H => E (.ref C) none H
theorem ps_raise0 {x : Str} {C : Addr} {bmB : List Value} {B newId initId : String} {np cpos pos : Pos} (FB : ExcBaseFacts B newId initId bmB) (q : PySem.W.excIn K C bmB newId = true)
    (hg : Gl (cxOf (CXx P w) P w K mg base N qual scope f cd A outer s H E) x) (hm : mg x = some (.ref C)) (hdb : (x == ("__debug__" : Str)) = false := by decide) :
    PS (cxOf (CXx P w) P w K mg base N qual scope f cd A outer s H E) (.Raise (some (.Call (.Name x np) [] [] cpos)) none pos) (tRaise E C) := by
  intro pins s1 σ H1 D I h
  obtain ⟨bm, NS, nm, qn, bs, hdct, sn, sub, ab, col, dd, k0, k1, k2, k3, k5, mN, hC, hN, hni, TL⟩ := exc_obj I.kIn q
  refine wpAny_Raise_call_subT (bm := bm) FB (mN := mN) (TL.hasType FB.hasBase) (I.ok.hd rfl) rfl hni (ld_glob I hg hm ⟨rfl, evalArgs_empty ⟨rfl, Nat.zero_le _, hC, hN, TL, fun h2 e mk => ?_⟩⟩ hdb)
  obtain ⟨t, he, _, _⟩ := mk.there
  have I2 : Inv (cxOf (CXx P w) P w K mg base N qual scope f cd A outer s H E) pins σ H1 { s1 with heap := h2 } := I.kept (t' := s1.toks) mk.keeps
  refine raw_xe I2 he ?_ rfl rfl rfl (by intro dx z; cases z) (I.hok.no mk.new) h
  cases z : s.heap.get? e with
  | none => rfl
  | some o =>
    obtain ⟨o1, q1⟩ := I.base.there e o z (by intro y; exact absurd (show e ∈ ([] : List Addr) from y) (by simp))
    rw [mk.new] at q1; cases q1
end
section
variable {P : Program} {w : World} {K : PySem.W.Frag} {mg : Str -> Option Value} {base : Heap}
theorem Fun.okX {x qual : Str} {st : Stmt} {f : Addr} {fd : FuncData} {N ps : List Str} {k : Nat} {sp : Sp} (F : Fun K x qual st f fd) (S : FnScope N ps (defScope st)) (len : ∀ vs H Q E, sp vs H Q E -> vs.length = ps.length)
    (hbody : ∀ (cdv : Value) (A : Around) (outer : List Env) (s : Shared) (H : Hp) (vs : List V) (Q : VK) (E : XK), Room k (A.deeper (envOfC qual (defScope st) s.heap.objs.size f cdv)) -> sp vs H Q E ->
      ∃ t, PSs (cxOf (CXx P w) P w K mg base N qual (defScope st) f cdv A outer s H E) (defBody st) t /\ t { nx := fun _ H' => Q .non H', rt := Q } (start N vs) H) : FnOk P w K mg base (CXx P w) (k + 1) f fd ps sp := by
  obtain ⟨oc, od, kV, doc, pm, an, cdv, ct, osl, rfl, lk, hcd⟩ := F.ex
  exact fn_of lk hcd S len fun A outer s H vs Q E hr hsp => hbody cdv A outer s H vs Q E hr hsp
end
noncomputable abbrev TX := St -> Hp -> VK -> XK -> Prop
noncomputable def EX (X : Cx) (e : Expr) (t : TX) : Prop :=
  ∀ (pins : List (Addr × Obj)) (s : Shared) (σ : St) (H : Hp) (Q : VK) (R : XK), Inv X pins σ H s -> t σ H Q R -> wpAny (model X.prog X.w) X.A (eval e X.env) (EP X pins σ Q) (XP X pins σ R) s
noncomputable abbrev TB := Ends -> (St -> XK) -> St -> Hp -> Prop
noncomputable def BX (X : Cx) (body : List Stmt) (t : TB) : Prop :=
  ∀ (pins : List (Addr × Obj)) (s : Shared) (σ : St) (H : Hp) (D : Ends) (R : St -> XK), Inv X pins σ H s -> t D R σ H ->
    wpAny (model X.prog X.w) X.A (execs body X.env) (SP X pins D) (fun e s' => ∃ σ1, XP X pins σ1 (R σ1) e s') s
section
variable {X : Cx} {k : Nat} {f : Addr} {fd : FuncData} {ps : List Str} {sp : Sp} {dvs : List V} {ds : List Value} {x : Str} {p pos : Pos} {e : Expr} {es : List Expr} {t : TA}
theorem run_fnX {pins : List (Addr × Obj)} {σ : St} {H : Hp} {s : Shared} {Q : VK} {R : XK} {us : List Value} {vs : List V} (F : FnOk X.prog X.w X.K X.mg X.base (CXx X.prog X.w) k f fd ps sp) (hr : Room k X.A) (hb : Binds X.K fd ps ds) (hd : Vals dvs ds)
    (hex : X.ex = []) (I : Inv X pins σ H s) (r : Vals vs us) (h : sp (vs ++ dvs) H Q R) : wpAny (model X.prog X.w) X.A (call (.ref f) us) (EP X pins σ Q) (XP X pins σ R) s := by
  have r2 : Vals (vs ++ dvs) (us ++ ds) := r.append hd
  have hl : (us ++ ds).length = ps.length := by rw [← r2.length]; exact F.len _ _ _ _ h
  refine wpAny_call (codeAny_mono (F.run X.A X.stack s H ⟨us, []⟩ (us ++ ds) (vs ++ dvs) Q R hr I.env0 (hb s us I.kIn hl) r2 h) fun res s1 hq => ?_)
  cases res with
  | error ex => exact xp_of I hq hex
  | ok fl =>
    cases fl with
    | ret u => exact I.after hq
    | next => exact False.elim hq
    | brk => exact False.elim hq
    | cont => exact False.elim hq
noncomputable def xCall (sp : Sp) (dvs : List V) (t : TA) : TX := fun σ H Q R => t σ H fun vs H1 => sp (vs ++ dvs) H1 Q R
theorem ex_call (F : FnOk X.prog X.w X.K X.mg X.base (CXx X.prog X.w) k f fd ps sp) (hr : Room k X.A) (hg : Gl X x) (hm : X.mg x = some (.ref f)) (hk : PySem.W.keepIn X.K (.ref f) = true) (hb : Binds X.K fd ps ds) (hd : Vals dvs ds)
    (ha : PA X.nox (e :: es) t) (hex : X.ex = [] := by rfl) (hdb : (x == ("__debug__" : Str)) = false := by decide) (he : starEach (e :: es) X.env = (false, eval e X.env) :: starEach es X.env := by rfl) (hpl : (backTo pos (starEach es X.env)).any (·.1) = false := by rfl) :
    EX X (.Call (.Name x p) (e :: es) [] pos) (xCall sp dvs t) := by
  intro pins s σ H Q R I h
  refine wpAny_Call_Name_kw (ld_glob I hg hm ?_ hdb)
  refine PySem.W.callWith_K (h₀ := X.base) I.ok.mod.kin hk (wpAny_mono (ha pos pins s σ H _ (I.wish _) h) (fun us s1 q => ?_) fun _ _ z => z.elim) he hpl
  obtain ⟨vs, H1, I1, r, q⟩ := q
  have I2 : Inv X pins σ H1 s1 := I1.unwish
  exact ⟨I2.kIn, run_fnX F hr hb hd hex I2 r q⟩
theorem bx_expr {te : TX} (he : EX X e te) (hs : swapsWith e none pos.line X.env = pure false := by rfl) : BX X [.Expr e pos] (fun D R σ H => te σ H (fun _ H1 => D.nx σ H1) (R σ)) := by
  intro pins s σ H D R I h
  refine wpAny_execs_cons (wpAny_Expr_any (wpAny_mono (he pins s σ H _ _ I h) (fun v s1 q => ?_) fun ex s1 q => ⟨σ, q⟩) I.quiet hs)
  obtain ⟨y, H1, I1, r1, q1⟩ := q
  exact wpAny_execs_nil ⟨σ, H1, I1, q1⟩
end
noncomputable abbrev Cx.suite (X : Cx) (ea : Addr) : Cx := { X with A := X.A.mark (some (.ref ea)), calm := false }
section
variable {X : Cx} {pins : List (Addr × Obj)} {σ : St} {H : Hp} {s : Shared} {ea : Addr}
theorem Inv.suite (I : Inv X pins σ H s) (ea : Addr) : Inv (X.suite ea) pins σ H s := by
  obtain ⟨ok, r1, r2, r3, r4, r5, r6, r7, r8, r9, r10⟩ := I
  obtain ⟨m1, m2, m3, m4, m5, m6, m7, m8, m9, m10, m11, m12, m13, m14, m15, m16, m17, m18⟩ := ok
  exact ⟨⟨m1, m2, m3, m4, m5, m6, m7, m8, (fun z => nomatch z), m10, m11, m12, m13, m14, m15, m16, m17, m18⟩, r1, r2, r3, r4, r5, r6, r7, r8, r9, r10⟩
theorem Inv.unsuite (ok : X.Ok) (I : Inv (X.suite ea) pins σ H s) : Inv X pins σ H s := by
  obtain ⟨_, r1, r2, r3, r4, r5, r6, r7, r8, r9, r10⟩ := I
  exact ⟨ok, r1, r2, r3, r4, r5, r6, r7, r8, r9, r10⟩
end
section
variable {X : Cx}
end
section
variable {X : Cx}
noncomputable def CMulB (i j : Int) : Prop := Builtin.Int.intBits i <= 1048576 /\ Builtin.Int.intBits j <= 1048576
theorem op_mulB : OpR X (binaryOp .Mult) (rI CMulB fun i j => .int (i * j)) := opI fun _ _ _ _ _ _ _ hc q => mul_int q (IntMulOk.of_le hc.1 hc.2 (by decide))
noncomputable def CDivB (_ j : Int) : Prop := j ≠ 0 /\ Builtin.Int.intBits j <= 9000
theorem log2_of_bits {j : Int} (h : Builtin.Int.intBits j <= 9000) : j.natAbs.log2 < 9000 := by
  by_cases z : j.natAbs = 0
  · rw [z]; decide +kernel
  · exact (Nat.log2_lt z).mpr (intBits_le_iff.mp h)
theorem op_fdivB : OpR X (binaryOp .FloorDiv) (rI CDivB fun i j => .int (i.fdiv j)) := opI fun _ _ _ _ _ _ _ hc q => floordiv_int hc.1 q (.inl (PyProof.noPylong_of_log2 (log2_of_bits hc.2)))
end
end L2
namespace L2
open PySem PySem.Spec PyProof.Rows Fx
noncomputable def Has (P : Program) (w : World) (K : PySem.W.Frag) (mg : Str -> Option Value) (base : Heap) (CX : CXT) (k : Nat) (x : Str) (ps : List Str) (sp : Sp) : Prop :=
  ∃ f fd, FnOk P w K mg base CX k f fd ps sp /\ Binds K fd ps [] /\ PySem.W.keepIn K (.ref f) = true /\ mg x = some (.ref f)
theorem passN {P : Program} {w : World} {X : Cx} : Passes (CXx P w) X E0 := fun _ _ _ _ _ _ _ h => by
  obtain ⟨_, _, _, _, _, _, _, _, _, _, _, _, z⟩ := h
  exact z.elim
section
variable {X : Cx} {CX : CXT} {k : Nat} {ps : List Str} {sp : Sp} {E : XK} {x : Str} {p pos : Pos} {e : Expr} {es : List Expr} {t : TA}
theorem pe_has (h : Has X.prog X.w X.K X.mg X.base CX k x ps sp) (hr : Room k X.A) (hg : Gl X x) (hx : Passes CX X E) (ha : PA X (e :: es) t) (hdb : (x == ("__debug__" : Str)) = false := by decide)
    (he : starEach (e :: es) X.env = (false, eval e X.env) :: starEach es X.env := by rfl) (hpl : (backTo pos (starEach es X.env)).any (·.1) = false := by rfl) : PE X (.Call (.Name x p) (e :: es) [] pos) (tCall sp [] E t) := by
  obtain ⟨f, fd, F, b, kp, m⟩ := h
  exact pe_call F hr hg m kp b .nil hx ha hdb he hpl
theorem ex_has (h : Has X.prog X.w X.K X.mg X.base (CXx X.prog X.w) k x ps sp) (hr : Room k X.A) (hg : Gl X x) (ha : PA X.nox (e :: es) t) (hex : X.ex = [] := by rfl) (hdb : (x == ("__debug__" : Str)) = false := by decide)
    (he : starEach (e :: es) X.env = (false, eval e X.env) :: starEach es X.env := by rfl) (hpl : (backTo pos (starEach es X.env)).any (·.1) = false := by rfl) : EX X (.Call (.Name x p) (e :: es) [] pos) (xCall sp [] t) := by
  obtain ⟨f, fd, F, b, kp, m⟩ := h
  exact ex_call F hr hg m kp b .nil ha hex hdb he hpl
end
end L2
namespace Fx
open PySem
section
variable {prog : Program} {w : World} {A : Around} {E : Value -> Shared -> Prop} {h : Heap} {g : Array GenState} {d : Drawn} {t : Nat} {os : OsState}
variable {nm q : Str} {C N : Addr} {bs bm bmB : List Value} {hdct : Bool} {sn : List Str} {sub : List Value} {ab : Bool} {col : Option Bool} {dd : Option Addr} {k0 k1 k2 k3 k5 : Option Value} {B newId initId : String}
theorem type_call_init (F : ExcBaseFacts B newId initId bmB) (T : OwnTail h bmB bm) {mN : Str -> Option Value} {vals : List Value} {fI : Addr} {oI : Obj} {Q : Fin -> Shared -> Prop}
    (hC : h.get? C = some (excClassObj nm q C N bs bm hdct sn sub ab col dd k0 k1 k2 k3 k5 newId)) (hn : h.Ns N mN) (hi : mN "__init__" = some (.ref fI)) (hfI : h.get? fI = some oI) (hfc : oI.cls = .type "function")
    (hq : ∀ h1 e, Heap.MadeExcOf h h1 e (.ref C) vals -> h.objs.size <= e -> wpAny (model prog w) A (call (.ref fI) (.ref e :: vals)) (fun r s1 => r = .none /\ Q (.done (.ret (.ref e))) s1) E ⟨h1, g, d, t, os⟩) (hz : vals.length <= sizeLine) :
    wpAny (model prog w) A (Builtin.«type.__call__» ⟨.ref C :: vals, []⟩) Q E ⟨h, g, d, t, os⟩ := by
  repeat (first | with_reducible refine wpAny_loadPart_at hC ?_ | with_reducible refine wpAny_madeBy_exc hC ?_ | wp_step)
  refine codeAny_call_builtin_code (Code.quiet_builtin _ F.quiet) (wpAny_check_new_subT F T hC (codeAny_exc_new_subT F T hC ?_ hz))
  show wpAny _ _ _ _ _ _
  generalize hp : (h.push { cls := .type "tuple", data := .seq vals.toArray }).push { cls := .ref C, data := .fields #[.ref h.objs.size, .none, .none, .none, .bool false, .none] } = hp2
  have kp : ∀ b o, h.get? b = some o -> hp2.get? b = some o := fun b o z => by rw [← hp]; exact Heap.get?_push_of_some _ (Heap.get?_push_of_some _ z)
  have ge : hp2.get? (h.objs.size + 1) = some { cls := .ref C, data := .fields #[.ref h.objs.size, .none, .none, .none, .bool false, .none] } := by rw [← hp]; heap_get
  have gt : hp2.get? h.objs.size = some { cls := .type "tuple", data := .seq vals.toArray } := by rw [← hp]; exact Heap.get?_push_of_some _ (Heap.get?_push_at rfl rfl)
  have cC : (Value.ref C :: bm).contains (.ref C) = true := by simp
  unfold isInstance
  repeat (first | with_reducible refine wpAny_loadPart_at ge ?_ | (with_reducible refine wpAny_isSubtype_exc (kp _ _ hC) ?_; rw [cC]) | wp_step)
  show wpAny _ _ (typeLookup (.ref C) _) _ _ _
  refine wpAny_typeLookup_tail (kp _ _ hC) (hn.keeps kp) (T.keeps kp) F.mroIs F.init.lookup ?_
  rw [hi]
  refine wpAny_holding (wpAny_bind ?_)
  unfold bindSpecial
  refine wpAny_bind (wpAny_typeOf (T := "function") ⟨_, kp _ _ hfI, hfc⟩ ?_)
  rw [if_pos (by decide)]
  refine wpAny_pure (wpAny_bind (wpAny_mono (hq _ (h.objs.size + 1) ⟨kp, Heap.get?_none_of_le (Nat.le_succ _), h.objs.size, ge, Heap.get?_none_of_le (Nat.le_refl _), gt⟩ (Nat.le_succ _)) (fun r s1 z => ?_) fun _ _ z => z))
  obtain ⟨rfl, z⟩ := z
  wp_walk
  exact z
theorem call_init (F : ExcBaseFacts B newId initId bmB) (T : OwnTail h bmB bm) {mN : Str -> Option Value} {vals : List Value} {fI : Addr} {oI : Obj} {Q : Value -> Shared -> Prop}
    (hC : h.get? C = some (excClassObj nm q C N bs bm hdct sn sub ab col dd k0 k1 k2 k3 k5 newId)) (hn : h.Ns N mN) (hi : mN "__init__" = some (.ref fI)) (hfI : h.get? fI = some oI) (hfc : oI.cls = .type "function")
    (hq : ∀ h1 e, Heap.MadeExcOf h h1 e (.ref C) vals -> h.objs.size <= e -> wpAny (model prog w) (A.under (.builtin "type.__call__" ⟨.ref C :: vals, []⟩)) (call (.ref fI) (.ref e :: vals)) (fun r s1 => r = .none /\ Q (.ref e) s1) E ⟨h1, g, d, t, os⟩) (hz : vals.length <= sizeLine) :
    wpAny (model prog w) A (call (.ref C) vals) Q E ⟨h, g, d, t, os⟩ := by
  have f1 := tc_lookup
  have f2 := tc_bind (.ref C)
  have hT : (⟨h, g, d, t, os⟩ : Shared).TypeIs (.ref C) "type" := ⟨_, hC, rfl⟩
  refine wpAny_call (codeAny_of_tree ?_)
  show wpAny _ _ (callAny (.ref C) _) _ _ _
  repeat (any_goals (first | assumption | with_reducible refine wpAny_loadPart_at hC ?_ | wp_step))
  refine ⟨rfl, codeAny_call_builtin_at (Code.quiet_builtin _ (by decide +kernel)) entry_typeCall (wpAny_check_type_call_sub hC (type_call_init F T hC hn hi hfI hfc (fun h1 e z y => hq h1 e z y) hz))⟩
theorem raise_made {M : Model} {env : Env} {s : Shared} {x : Sem Value} {Q : Flow -> Shared -> Prop} (hbase : bm.contains (.type "BaseException") = true) (hh : A.handled = none)
    (hx : wpAny M A x (fun v s1 => ∃ e oe vs, v = .ref e /\ s1.heap.get? C = some (excClassObj nm q C N bs bm hdct sn sub ab col dd k0 k1 k2 k3 k5 newId) /\ s1.heap.get? e = some oe /\ oe.cls = .ref C /\ oe.data = .fields vs /\ vs[1]? = some .none /\ E (.ref e) s1) E s) :
    wpAny M A (raiseStmt env (some x) none) Q E s := by
  have hcB : (Value.ref C :: bm).contains (.type "BaseException") = true := by rw [List.contains_cons, hbase, Bool.or_true]
  unfold raiseStmt
  refine wpAny_bind (wpAny_mono hx (fun v s1 z => ?_) fun _ _ z => z)
  obtain ⟨e, oe, vs, rfl, hC, he, hc, hd, hv1, hE⟩ := z
  obtain ⟨hp, gg, dr, tk, os'⟩ := s1
  have hv1' : ∀ {Q' : Value -> Shared -> Prop} {E' : Value -> Shared -> Prop}, Q' .none ⟨hp, gg, dr, tk, os'⟩ -> wpAny M A (field (.ref e) 1) Q' E' ⟨hp, gg, dr, tk, os'⟩ := fun z => wpAny_field he hd hv1 z
  repeat (first | with_reducible refine hv1' ?_ | (with_reducible refine wpAny_loadPart_at he ?_; rw [hc]) | with_reducible refine wpAny_loadPart_at hC ?_ | (with_reducible refine wpAny_isSubtype_exc hC ?_; rw [hcB]) | wp_step)
  exact wpAny_raiseNew_none hh hE
noncomputable abbrev Tlk (h : Heap) (C : Addr) (n : Str) (y : Option Value) : Prop := ∀ (M : Model) (A : Around) (E : Value -> Shared -> Prop) (g : Array GenState) (d : Drawn) (t : Nat) (os : OsState) (Q : Option Value -> Shared -> Prop),
  Q y ⟨h, g, d, t, os⟩ -> wpAny M A (typeLookup (.ref C) n) Q E ⟨h, g, d, t, os⟩
open Builtin Builtin.ObjectAttr in
theorem store_entry_exc {x : Addr} {name : Str} {v : Value} {o : Obj} {vs : Array Value} {tk : Tok} {Q : Fin -> Shared -> Prop} (hC : h.get? C = some (excClassObj nm q C N bs bm true sn sub ab col dd k0 k1 k2 k3 k5 newId))
    (hpass : refuseLoop (.ref x) "__setattr__" bm = pure ()) (l2 : Tlk h C name none) (hx : h.get? x = some o) (hc : o.cls = .ref C) (hdt : o.data = .fields vs) (hdn : o.dict = none)
    (hq : ∀ h1 tk1, h1.get? x = some { o with dict := some h.objs.size } -> h1.Ns1 h.objs.size (fun y => if y = name then some v else none) -> (∀ b ob, b ≠ x -> h.get? b = some ob -> h1.get? b = some ob) -> Q (.done (.ret .none)) ⟨h1, g, d, tk1, os⟩) :
    wpAny (model prog w) A (Builtin.«object.__setattr__» ⟨[.ref x, .str name tk, v], []⟩) Q E ⟨h, g, d, t, os⟩ := by
  unfold Builtin.«object.__setattr__»
  repeat (first | rw [refuse_eq] | (rw [refuseLoop_ref, hpass]) | (with_reducible refine wpAny_loadPart_at hx ?_; rw [hc]) | with_reducible refine wpAny_mroOf_exc hC ?_ | with_reducible refine l2 _ _ _ _ _ _ _ _ ?_ | wp_step)
  rw [hdn, if_neg (by simp [typeHasDict])]
  split
  · rename_i z
    cases z
  split
  · rename_i c z
    rw [hdt] at z; cases z
  · have hx1 : (h.push { cls := .type "dict", data := .dict #[] }).get? x = some o := Heap.get?_push_of_some _ hx
    have ne : x ≠ h.objs.size := Nat.ne_of_lt (Heap.lt_size hx)
    refine wpAny_bind (wpAny_alloc' (wpAny_bind (wpAny_update' hx1 (wpAny_pure ?_))))
    generalize hu : (h.push { cls := .type "dict", data := .dict #[] }).update x (fun o => { cls := o.cls, dict := some h.objs.size, data := o.data, slots := o.slots }) = hu2
    have gd : hu2.get? h.objs.size = some { cls := .type "dict", data := .dict #[] } := by rw [← hu]; exact (Heap.get?_update_ne _ _ _ _ ne.symm).trans (Heap.get?_push_at rfl rfl)
    have gx : hu2.get? x = some { o with dict := some h.objs.size } := by
      rw [← hu]
      refine Heap.get?_update_self _ hx1 ?_
      rcases o with ⟨oc, od, odt, osl⟩
      simp only at hdt
      subst hdt
      rfl
    have gk : ∀ b ob, b ≠ x -> h.get? b = some ob -> hu2.get? b = some ob := fun b ob nb hb => by rw [← hu]; exact (Heap.get?_update_ne _ _ _ _ nb).trans (Heap.get?_push_of_some _ hb)
    have nd : hu2.Ns h.objs.size (fun _ => none) := ⟨_, #[], _, gd, rfl, fun e he => absurd he (by simp), fun _ => rfl⟩
    show wpAny _ _ (storeInDict h.objs.size (.str name tk) name v) _ _ _
    unfold storeInDict newKeyGuard
    refine wpAny_bind (wpAny_pure (wpAny_bind (wpAny_nsSet1 (Heap.Ns1.of_empty nd) fun h1 n1 s1 => ?_)))
    obtain ⟨oD, esD, epD, g1, g2, g3⟩ := n1.count (Within.cons name v Within.nil)
    refine wpAny_bind (wpAny_lookBehind g1 (by rw [g2]; exact pastItsLine_dict (Nat.le_trans g3 (by rw [List.length_cons, List.length_nil, sizeLine_eq]; omega))) ?_)
    wp_walk
    exact hq h1 _ ((s1.2 x ne).trans gx) n1 fun b ob nb hb => (s1.2 b (Nat.ne_of_lt (Heap.lt_size hb))).trans (gk b ob nb hb)
theorem check_sa_exc {M : Model} {x : Addr} {o : Obj} {nv v : Value} {Q : Unit -> Shared -> Prop} (hC : h.get? C = some (excClassObj nm q C N bs bm true sn sub ab col dd k0 k1 k2 k3 k5 newId))
    (hob : bm.contains (.type "object") = true) (hx : h.get? x = some o) (hc : o.cls = .ref C) (hq : Q () ⟨h, g, d, t, os⟩) : wpAny M A (checkBuiltinCall "object.__setattr__" ⟨[.ref x, nv, v], []⟩) Q E ⟨h, g, d, t, os⟩ := by
  have SF := PySem.F.store_object
  have hcB : (Value.ref C :: bm).contains (.type "object") = true := by rw [List.contains_cons, hob, Bool.or_true]
  have ha := SF.args (.ref x) nv v
  simp only [checkBuiltinCall, SF.kind, SF.split]
  refine wpAny_bind ?_
  unfold isInstance
  repeat (first | (with_reducible refine wpAny_loadPart_at hx ?_; rw [hc]) | (with_reducible refine wpAny_isSubtype_exc hC ?_; rw [hcB]) | wp_step)
  exact hq
theorem store_exc {x : Addr} {name : Str} {v : Value} {o : Obj} {vs : Array Value} {Q : Unit -> Shared -> Prop} (hC : h.get? C = some (excClassObj nm q C N bs bm true sn sub ab col dd k0 k1 k2 k3 k5 newId))
    (hob : bm.contains (.type "object") = true) (hpass : refuseLoop (.ref x) "__setattr__" bm = pure ()) (l1 : Tlk h C "__setattr__" (some (.builtin "object.__setattr__"))) (l2 : Tlk h C name none) (hx : h.get? x = some o) (hc : o.cls = .ref C) (hdt : o.data = .fields vs) (hdn : o.dict = none)
    (hq : ∀ h1 tk1, h1.get? x = some { o with dict := some h.objs.size } -> h1.Ns1 h.objs.size (fun y => if y = name then some v else none) -> (∀ b ob, b ≠ x -> h.get? b = some ob -> h1.get? b = some ob) -> Q () ⟨h1, g, d, tk1, os⟩) :
    wpAny (model prog w) A (setAttr (.ref x) name v) Q E ⟨h, g, d, t, os⟩ := by
  have SF := PySem.F.store_object
  have f3 := SF.slot.bind (.ref x)
  unfold setAttr callSpecial? specialOf
  repeat (any_goals (first | assumption | (with_reducible refine wpAny_loadPart_at hx ?_; rw [hc]) | with_reducible refine l1 _ _ _ _ _ _ _ _ ?_ | wp_step))
  refine codeAny_call_builtin SF.slot.plain SF.entry (check_sa_exc hC hob hx hc (store_entry_exc hC hpass l2 hx hc hdt hdn fun h1 tk1 a b c => ?_))
  repeat (any_goals (first | assumption | wp_step))
  exact hq h1 tk1 a b c
theorem check_ga_exc {M : Model} {x : Addr} {o : Obj} {nv : Value} {Q : Unit -> Shared -> Prop} (hC : h.get? C = some (excClassObj nm q C N bs bm true sn sub ab col dd k0 k1 k2 k3 k5 newId))
    (hob : bm.contains (.type "BaseException") = true) (hx : h.get? x = some o) (hc : o.cls = .ref C) (hq : Q () ⟨h, g, d, t, os⟩) : wpAny M A (checkBuiltinCall "BaseException.__getattribute__" ⟨[.ref x, nv], []⟩) Q E ⟨h, g, d, t, os⟩ := by
  have hk : builtinKind "BaseException.__getattribute__" = some .slot := by decide +kernel
  have hsp : splitId "BaseException.__getattribute__" = some ("BaseException", "__getattribute__") := by decide +kernel
  have hcB : (Value.ref C :: bm).contains (.type "BaseException") = true := by rw [List.contains_cons, hob, Bool.or_true]
  have ha := PySem.F.args_bexc_ga (.ref x) nv
  simp only [checkBuiltinCall, hk, hsp]
  refine wpAny_bind ?_
  unfold isInstance
  repeat (first | (with_reducible refine wpAny_loadPart_at hx ?_; rw [hc]) | (with_reducible refine wpAny_isSubtype_exc hC ?_; rw [hcB]) | wp_step)
  exact hq
open Builtin Builtin.ObjectAttr in
theorem load_entry_exc {x dx : Addr} {name : Str} {v : Value} {o : Obj} {vs : Array Value} {mA : Str -> Option Value} {tk : Tok} {Q : Fin -> Shared -> Prop} (hC : h.get? C = some (excClassObj nm q C N bs bm true sn sub ab col dd k0 k1 k2 k3 k5 newId))
    (l3 : Tlk h C name none) (hx : h.get? x = some o) (hc : o.cls = .ref C) (hdt : o.data = .fields vs) (hdn : o.dict = some dx) (hn : h.Ns dx mA) (hv : mA name = some v) (hq : Q (.done (.ret v)) ⟨h, g, d, t, os⟩) :
    wpAny (model prog w) A (Builtin.«object.__getattribute__» ⟨[.ref x, .str name tk], []⟩) Q E ⟨h, g, d, t, os⟩ := by
  unfold Builtin.«object.__getattribute__»
  repeat (first | (with_reducible refine wpAny_loadPart_at hx ?_; rw [hc]) | with_reducible refine l3 _ _ _ _ _ _ _ _ ?_ | wp_step)
  split
  · rename_i c z
    rw [hdt] at z; cases z
  unfold instanceDict
  repeat (first | (with_reducible refine wpAny_loadPart_at hx ?_; rw [hc]) | with_reducible refine wpAny_loadPart_at hC ?_ | wp_step)
  rw [hdn]
  repeat (first | (with_reducible refine wpAny_nsGet hn ?_; rw [hv]) | wp_step)
  exact hq
theorem load_by_exc {x dx : Addr} {name : Str} {v : Value} {o : Obj} {vs : Array Value} {mA : Str -> Option Value} {tk : Tok} {fill expr : Bool} {Q : Value -> Shared -> Prop} (hC : h.get? C = some (excClassObj nm q C N bs bm true sn sub ab col dd k0 k1 k2 k3 k5 newId))
    (hob : bm.contains (.type "BaseException") = true) (l1 : Tlk h C "__getattribute__" (some (.builtin "BaseException.__getattribute__"))) (l2 : Tlk h C "__getattr__" none) (l3 : Tlk h C name none) (hx : h.get? x = some o) (hc : o.cls = .ref C) (hdt : o.data = .fields vs)
    (hdn : o.dict = some dx) (hn : h.Ns dx mA) (hv : mA name = some v) (hho : handedOut v = pure v) (hq : Q v ⟨h, g, d, t, os⟩) :
    wpAny (model prog w) A (getAttrBy (.ref x) (.str name tk) fill expr) Q E ⟨h, g, d, t, os⟩ := by
  have FB := PySem.F.attr_ValueError
  have f3 := FB.ga.bind (.ref x)
  have z0 : (expr && onTheHeap (Value.builtin "BaseException.__getattribute__")) = false := by cases expr <;> rfl
  have z2 : (Value.builtin "BaseException.__getattribute__" == Value.builtin "object.__getattribute__") = false := by decide +kernel
  have z1 : (onTheHeap (Value.ref C) && Value.builtin "BaseException.__getattribute__" == Value.builtin "object.__getattribute__") = false := by rw [z2]; rfl
  repeat (any_goals (first | assumption | (with_reducible refine wpAny_loadPart_at hx ?_; rw [hc]) | with_reducible refine l1 _ _ _ _ _ _ _ _ ?_ | with_reducible refine l2 _ _ _ _ _ _ _ _ ?_ | wp_step))
  refine codeAny_call_builtin FB.ga.plain PySem.F.entry_bexc_ga (check_ga_exc hC hob hx hc (load_entry_exc hC l3 hx hc hdt hdn hn hv ?_))
  repeat (any_goals (first | assumption | (rw [hho]) | wp_step))
theorem load_exc {x dx : Addr} {name : Str} {v : Value} {o : Obj} {vs : Array Value} {mA : Str -> Option Value} {expr : Bool} {Q : Value -> Shared -> Prop} (hC : h.get? C = some (excClassObj nm q C N bs bm true sn sub ab col dd k0 k1 k2 k3 k5 newId))
    (hob : bm.contains (.type "BaseException") = true) (l1 : Tlk h C "__getattribute__" (some (.builtin "BaseException.__getattribute__"))) (l2 : Tlk h C "__getattr__" none) (l3 : Tlk h C name none) (hx : h.get? x = some o) (hc : o.cls = .ref C) (hdt : o.data = .fields vs)
    (hdn : o.dict = some dx) (hn : h.Ns dx mA) (hv : mA name = some v) (hho : handedOut v = pure v) (hq : Q v ⟨h, g, d, t + 1, os⟩) :
    wpAny (model prog w) A (getAttr (.ref x) name expr) Q E ⟨h, g, d, t, os⟩ := by
  unfold getAttr
  repeat (any_goals (first | assumption | with_reducible apply load_by_exc hC hob l1 l2 l3 hx hc hdt hdn hn hv hho | wp_step))
end
end Fx
namespace L2
open PySem PySem.Spec PyProof.Rows Fx
noncomputable def rawX (e C t : Addr) (d : Option Addr) : HO := .ext fun h => h.get? e = some { cls := .ref C, dict := d, data := .fields #[.ref t, .none, .none, .none, .bool false, .none] }
noncomputable def excX (e C : Addr) (d : Option Addr) : HO := .ext fun h => ∃ oe vs, h.get? e = some oe /\ oe.cls = .ref C /\ (∀ dx, d = some dx -> oe.dict = some dx) /\ oe.data = .fields vs
theorem rawX_ok {P : Program} {w : World} {H : Hp} {h : Heap} {e C t : Addr} {d : Option Addr} (q : h.get? e = some { cls := .ref C, dict := d, data := .fields #[.ref t, .none, .none, .none, .bool false, .none] }) : ObjOk P w H h e (rawX e C t d) :=
  ⟨q, ⟨_, q⟩, fun h1 h2 z k => k _ z⟩
theorem excX_ok {P : Program} {w : World} {H : Hp} {h : Heap} {e C : Addr} {d : Option Addr} {oe : Obj} {vs : Array Value} (q : h.get? e = some oe) (hc : oe.cls = .ref C) (hd : ∀ dx, d = some dx -> oe.dict = some dx) (hv : oe.data = .fields vs) : ObjOk P w H h e (excX e C d) :=
  ⟨⟨oe, vs, q, hc, hd, hv⟩, ⟨_, q⟩, fun h1 h2 ⟨o1, v1, q1, c1, d1, w1⟩ k => ⟨o1, v1, k _ q1, c1, d1, w1⟩⟩
section
variable {X : Cx} {pins : List (Addr × Obj)} {σ : St} {H : Hp} {s : Shared} {e : Addr} {o : HO}
theorem Inv.track (I : Inv X pins σ H s) (n : NewA X pins e) (hn : H e = none) (new : ObjOk X.prog X.w (upd H e o) s.heap e o) : Inv X pins σ (upd H e o) s := by
  obtain ⟨ok, r1, r2, ba, r4, r5, fre, freC, pin, hok, len⟩ := I
  have ne : ∀ b u, H b = some u -> b ≠ e := fun b u q z => by rw [z, hn] at q; cases q
  refine ⟨ok, r1, r2, ⟨ba.keep, ba.slot, fun b ob q h0 hx => ?_, ba.there, fun b xs q => ?_, fun b ob u q => ?_, fun b ps q => ?_⟩, r4, r5, ?_, fun x c hc => ?_, fun p hp => ?_, fun b u q => ?_, len⟩
  · rw [upd_ne (fun z => by rw [z, n.old] at q; cases q)]; exact ba.free b ob q h0 hx
  · have z := ba.tups b xs q
    rw [upd_ne (ne _ _ z)]; exact z
  · have z := ba.frzs b ob u q
    rw [upd_ne (ne _ _ z)]; exact z
  · obtain ⟨m, z⟩ := ba.tbls b ps q
    exact ⟨m, by rw [upd_ne (ne _ _ z)]; exact z⟩
  · rw [upd_ne (Ne.symm n.loc)]; exact fre
  · rw [upd_ne (n.cel x c hc)]; exact freC x c hc
  · obtain ⟨p1, p2, p3⟩ := pin p hp
    exact ⟨p1, by rw [upd_ne (n.pin p hp)]; exact p2, p3⟩
  · by_cases z : b = e
    · subst z; rw [upd_same] at q; cases q; exact new
    · rw [upd_ne z] at q
      exact (hok b u q).stay (fun _ _ _ y => y) (fun c y => by rw [upd_ne (ne _ _ y)]; exact y) fun c xs y => by rw [upd_ne (ne _ _ y)]; exact y
noncomputable def drop (H : Hp) (e : Addr) : Hp := fun b => if b = e then none else H b
theorem drop_ne {b : Addr} (h : b ≠ e) : drop H e b = H b := if_neg h
theorem Inv.forget {φ : Heap -> Prop} (I : Inv X pins σ H s) (q : H e = some (.ext φ)) : Inv X pins σ (drop H e) s := by
  obtain ⟨ok, r1, r2, ba, r4, r5, fre, freC, pin, hok, len⟩ := I
  have dn : ∀ b, H b = none -> drop H e b = none := fun b z => by unfold drop; split <;> first | rfl | exact z
  have ne : ∀ b u, H b = some u -> (∀ ψ, u ≠ .ext ψ) -> b ≠ e := fun b u y z x => by rw [x, q] at y; cases y; exact z _ rfl
  refine ⟨ok, r1, r2, ⟨ba.keep, ba.slot, fun b ob y h0 hx => dn b (ba.free b ob y h0 hx), ba.there, fun b xs y => ?_, fun b ob u y => ?_, fun b ps y => ?_⟩, r4, r5, dn _ fre, fun x c hc => dn _ (freC x c hc), fun p hp => ?_, fun b u y => ?_, len⟩
  · have z := ba.tups b xs y
    rw [drop_ne (ne _ _ z fun ψ y => nomatch y)]; exact z
  · have z := ba.frzs b ob u y
    rw [drop_ne (ne _ _ z fun ψ y => nomatch y)]; exact z
  · obtain ⟨m, z⟩ := ba.tbls b ps y
    exact ⟨m, by rw [drop_ne (ne _ _ z fun ψ y => nomatch y)]; exact z⟩
  · obtain ⟨p1, p2, p3⟩ := pin p hp
    exact ⟨p1, dn _ p2, p3⟩
  · have nb : b ≠ e := fun z => by subst z; unfold drop at y; rw [if_pos rfl] at y; cases y
    rw [drop_ne nb] at y
    exact (hok b u y).stay (fun _ _ _ z => z) (fun c z => by rw [drop_ne (ne _ _ z fun ψ y => nomatch y)]; exact z) fun c xs z => by rw [drop_ne (ne _ _ z fun ψ y => nomatch y)]; exact z
end
noncomputable def excInI (K : PySem.W.Frag) (C fI : Addr) (bmB : List Value) (newId : String) : Bool := match K.lookup C with
  | some ⟨.type "type", _, .cls cd, sl⟩ => (match cd.mro, sl.toList with
    | .ref C1 :: bm, [_, _, _, _, some (.builtin n), _] => C1 == C && n == newId && !cd.hasDel && cd.hasDict && PySem.W.tailIn K bmB bm && PySem.W.nsOkIn K cd.ns && PySem.W.nsIn K cd.ns "__init__" == some (some (.ref fI))
    | _, _ => false)
  | _ => false
theorem ns_some_of {K : PySem.W.Frag} {h : Heap} {N : Addr} {m : Str -> Option Value} {n : Str} {v : Value} (X : K.In h) (G : h.Ns N m) (e : PySem.W.nsIn K N n = some (some v)) : m n = some v := by
  obtain ⟨o, es, ep, ho, hd, _, hf⟩ := G
  unfold PySem.W.nsIn at e
  split at e
  next c d es1 n1 sl q =>
    have z := X _ _ q
    rw [ho] at z
    cases z
    cases hd
    split at e
    next en he =>
      cases e
      rw [← hf]
      unfold nsFind findBy
      rw [← Array.find?_toList, he]
      rfl
    next => split at e <;> cases e
  next => cases e
theorem exc_objI {K : PySem.W.Frag} {C fI : Addr} {bmB : List Value} {newId : String} (q : excInI K C fI bmB newId = true) :
    ∃ bm N nm qn bs sn sub ab col dd k0 k1 k2 k3 k5, ∀ h : Heap, K.In h -> h.get? C = some (excClassObj nm qn C N bs bm true sn sub ab col dd k0 k1 k2 k3 k5 newId) /\ OwnTail h bmB bm /\ ∃ mN, h.Ns N mN /\ mN "__init__" = some (.ref fI) := by
  unfold excInI at q
  split at q
  next dd cd sl ho =>
    split at q
    next C1 bm k0 k1 k2 k3 n k5 hm hs =>
      simp only [Bool.and_eq_true, beq_iff_eq, Bool.not_eq_true'] at q
      obtain ⟨⟨⟨⟨⟨⟨rfl, rfl⟩, hdel⟩, hdc⟩, tl⟩, hok⟩, hni⟩ := q
      rcases cd with ⟨nm, bs, mro, ns, qn, hdc1, sn, sub, ab, col, del⟩
      dsimp only at hm hdel hok hni hdc
      subst hm hdel hdc
      have es : sl = #[k0, k1, k2, k3, some (.builtin n), k5] := by
        rcases sl with ⟨l⟩
        simp only at hs
        rw [hs]
      subst es
      refine ⟨bm, ns, nm, qn, bs, sn, sub, ab, col, dd, k0, k1, k2, k3, k5, fun h X => ?_⟩
      have G : h.Ns ns (h.nsMap ns) := .of_isNs (PySem.W.isNs_of_in X hok)
      exact ⟨X _ _ ho, PySem.W.tail_of_in X tl, _, G, ns_some_of X G hni⟩
    next => cases q
  next => cases q
structure XCls (K : PySem.W.Frag) (C fI : Addr) (field : Str) : Prop where
  cls : excInI K C fI [.type "ValueError", .type "Exception", .type "BaseException", .type "object"] "ValueError.__new__" = true
  fn : PySem.W.isFn K (.ref fI) = true
  kp : PySem.W.keepIn K (.ref C) = true
  sa : PySem.W.findIn K (.ref C) "__setattr__" = some (some (.builtin "object.__setattr__"))
  ga : PySem.W.findIn K (.ref C) "__getattribute__" = some (some (.builtin "BaseException.__getattribute__"))
  gn : PySem.W.findIn K (.ref C) "__getattr__" = some none
  fl : PySem.W.findIn K (.ref C) field = some none
theorem tlk_of {K : PySem.W.Frag} {h : Heap} {C : Addr} {n : Str} {y : Option Value} (X : K.In h) (e : PySem.W.findIn K (.ref C) n = some y) : Tlk h C n y := fun M A E g d t os Q hq => (PySem.W.looks_findIn (M := M) X e).here (s := ⟨h, g, d, t, os⟩) hq
theorem refuse_tail {h : Heap} {x : Addr} : ∀ {bm : List Value}, OwnTail h [.type "ValueError", .type "Exception", .type "BaseException", .type "object"] bm -> refuseLoop (.ref x) "__setattr__" bm = pure ()
  | _, .base => PySem.F.store_ValueError.passes (.ref x)
  | _, .own _ _ _ t => by rw [refuseLoop_ref]; exact refuse_tail t
noncomputable def spXI (C : Addr) (field : Str) : Sp := fun vs H Q _ => ∃ (e t : Addr) (v : V), vs = [.ref e, v] /\ H e = some (rawX e C t none) /\ ∀ dx, H dx = none -> dx ≠ e -> Q .non (upd (upd H e (rawX e C t (some dx))) dx (.xd [(field, v)]))
section
variable {X : Cx} {o value : Expr} {field : Str} {pos pos' : Pos} {ta tv : TE} {C fI : Addr}
noncomputable def sFldX (C : Addr) (ta tv : TE) (field : Str) : TS := fun D σ H => tv σ H fun y H1 => ta σ H1 fun x H2 => ∃ e t, x = .ref e /\ H2 e = some (rawX e C t none) /\ ∀ dx, H2 dx = none -> dx ≠ e -> D.nx σ (upd (upd H2 e (rawX e C t (some dx))) dx (.xd [(field, y)]))
theorem ps_fldX (c : XCls X.K C fI field) (ha : PE X o ta) (hv : PE X value tv) (hs : swapsWith value (some (.Attribute o field pos')) pos.line X.env = pure false) (hex : X.ex = [] := by rfl) : PS X (.Assign [.Attribute o field pos'] value pos) (sFldX C ta tv field) := by
  intro pins s σ H D I h
  refine plainObj_wpAny_Assign_Attribute (thn (hv pins s σ H _ I h) fun u s1 ⟨y, H1, I1, r1, q1⟩ => thn (ha pins s1 σ H1 _ I1 q1) fun xv s2 ⟨x, H2, I2, r2, e, t, ex, he, k⟩ => ?_) hs
  subst ex
  cases r2
  obtain ⟨bm, N, nm, qn, bs, sn, sub, ab, col, dd, k0, k1, k2, k3, k5, all⟩ := exc_objI c.cls
  obtain ⟨hC, T, mN, hN, hi⟩ := all _ I2.kIn
  obtain ⟨hx, _, _⟩ := I2.hok e _ he
  have hx2 : s2.heap.get? e = some { cls := .ref C, dict := none, data := .fields #[.ref t, .none, .none, .none, .bool false, .none] } := hx
  obtain ⟨hp, g, d, tk, os⟩ := s2
  refine store_exc hC (T.hasType (by rfl)) (refuse_tail T) (tlk_of I2.kIn c.sa) (tlk_of I2.kIn c.fl) hx2 rfl rfl rfl fun h1 tk1 g1 g2 g3 => ?_
  have fresh : H2 hp.objs.size = none := I2.hok.fresh (Nat.le_refl _)
  have ne : hp.objs.size ≠ e := Nat.ne_of_gt (Heap.lt_size hx2)
  -- first the exception's own object turns, then its dict is laid
  have I3 : Inv X pins σ (upd H2 e (rawX e C t (some hp.objs.size))) ⟨h1, g, d, tk1, os⟩ := by
    refine I2.write (x := e) (e := e) (o := rawX e C t (some hp.objs.size)) (h' := h1) (t' := tk1) (by rw [he]; trivial) (.inl rfl) (fun b u nb q => g3 b u nb q) ⟨_, g1⟩ (rawX_ok g1)
  refine ⟨σ, _, I3.track (e := hp.objs.size) (o := .xd [(field, y)]) (I2.newA (Heap.get?_none_of_le (Nat.le_refl _)) hex) ?_ ?_, k _ fresh ne⟩
  · rw [upd_ne ne]; exact fresh
  · refine ⟨_, g2, fun f => ?_⟩
    show RelO (List.lookup f [(field, y)]) (if f = field then some u else none)
    by_cases z : f = field
    · subst z
      rw [if_pos rfl]
      simp [List.lookup, RelO]
      exact r1
    · rw [if_neg z]
      have : (f == field) = false := by simpa using z
      simp [List.lookup, this, RelO]
end
section
variable {P : Program} {w : World} {K : PySem.W.Frag} {mg : Str -> Option Value} {base : Heap} {N : List Str} {qual : Str} {scope : Scope} {f : Addr} {cd : Value} {A : Around} {outer : List Env} {s : Shared} {H : Hp} {E : XK}
noncomputable def tRaiseI (E : XK) (C : Addr) (field : Str) (t : TA) : TS := fun _ σ H => t σ H fun vs H1 => ∃ v, vs = [v] /\ ∀ dx, H1 dx = none -> E (.ref C) (some dx) (upd H1 dx (.xd [(field, v)]))
theorem drop_upd {H : Hp} {e dx : Addr} {a b c : HO} (he : H e = none) (ne : dx ≠ e) : drop (upd (upd (upd H e a) e b) dx c) e = upd H dx c := by
  funext y
  unfold drop
  by_cases z : y = e
  · subst z; rw [if_pos rfl, upd_ne (Ne.symm ne)]; exact he.symm
  · rw [if_neg z]
    by_cases z2 : y = dx
    · subst z2; rw [upd_same, upd_same]
    · rw [upd_ne z2, upd_ne z2, upd_ne z, upd_ne z]
theorem fn_there {K : PySem.W.Frag} {h : Heap} {fI : Addr} (X : K.In h) (q : PySem.W.isFn K (.ref fI) = true) : ∃ oI, h.get? fI = some oI /\ oI.cls = .type "function" := by
  have z : PySem.W.typeIn K (.ref fI) = some (.type "function") := beq_iff_eq.mp q
  obtain ⟨o, h1, h2⟩ := Option.map_eq_some_iff.mp (show (K.lookup fI).map (·.cls) = some (.type "function") from z)
  exact ⟨o, X _ _ h1, h2⟩
theorem ps_raiseI {x : Str} {C fI : Addr} {field : Str} {k : Nat} {fdI : FuncData} {p1 p2 : Str} {np cpos pos : Pos} {arg : Expr} {t : TA} (c : XCls K C fI field) (FI : FnOk P w K mg base CX0 k fI fdI [p1, p2] (spXI C field)) (bI : Binds K fdI [p1, p2] [])
    (hr : Room (k + 1) (cxOf (CXx P w) P w K mg base N qual scope f cd A outer s H E).A) (hg : Gl (cxOf (CXx P w) P w K mg base N qual scope f cd A outer s H E) x) (hm : mg x = some (.ref C)) (ha : PA (cxOf (CXx P w) P w K mg base N qual scope f cd A outer s H E) [arg] t)
    (hdb : (x == ("__debug__" : Str)) = false := by decide)
    (he : starEach [arg] (cxOf (CXx P w) P w K mg base N qual scope f cd A outer s H E).env = (false, eval arg (cxOf (CXx P w) P w K mg base N qual scope f cd A outer s H E).env) :: starEach [] (cxOf (CXx P w) P w K mg base N qual scope f cd A outer s H E).env := by rfl)
    (hpl : (backTo cpos (starEach [] (cxOf (CXx P w) P w K mg base N qual scope f cd A outer s H E).env)).any (·.1) = false := by rfl) :
    PS (cxOf (CXx P w) P w K mg base N qual scope f cd A outer s H E) (.Raise (some (.Call (.Name x np) [arg] [] cpos)) none pos) (tRaiseI E C field t) := by
  intro pins s1 σ H1 D I h
  obtain ⟨bm, NS, nm, qn, bs, sn, sub, ab, col, dd, k0, k1, k2, k3, k5, all⟩ := exc_objI c.cls
  have T1 := (all _ I.kIn).2.1
  rw [arm_exec_Raise]
  refine wpAny_bind (wpAny_standAt (raise_made (C := C) (nm := nm) (q := qn) (N := NS) (bs := bs) (bm := bm) (hdct := true) (sn := sn) (sub := sub) (ab := ab) (col := col) (dd := dd) (k0 := k0) (k1 := k1) (k2 := k2) (k3 := k3) (k5 := k5) (newId := "ValueError.__new__")
    (T1.hasType (by rfl)) (I.ok.hd rfl) (wpAny_bind (wpAny_mono (wpAny_Call_ofName (ld_glob I hg hm ?_ hdb)) (fun v s3 z => wpAny_bind (wpAny_standAt (wpAny_pure z))) fun _ _ z => z))))
  refine PySem.W.callWith_K (h₀ := base) I.ok.mod.kin c.kp (thn (ha cpos pins s1 σ H1 _ I h) fun us s2 ⟨vs, H2, I2, r, v, ev, kk⟩ => ⟨I2.kIn, ?_⟩) he hpl
  subst ev
  obtain ⟨u, rfl, ru⟩ := vals1 r
  obtain ⟨hC, T, mN, hN, hi⟩ := all _ I2.kIn
  obtain ⟨oI, hfI, hfc⟩ := fn_there I2.kIn c.fn
  obtain ⟨hp, g, d, tk, os⟩ := s2
  refine call_init PySem.F.excBase_ValueError T hC hN hi hfI hfc (fun h1 e mk ge => ?_) (by show 1 <= sizeLine; decide)
  obtain ⟨tt, hte, _, _⟩ := mk.there
  have na := I2.newA mk.new rfl
  have en : H2 e = none := I2.hok.no mk.new
  have I3 : Inv (cxOf (CXx P w) P w K mg base N qual scope f cd A outer s H E) pins σ H2 ⟨h1, g, d, tk, os⟩ := I2.kept (t' := tk) mk.keeps
  have I4 := I3.track (e := e) (o := rawX e C tt none) na en (rawX_ok hte)
  refine wpAny_call (codeAny_mono (FI.run _ (cxOf (CXx P w) P w K mg base N qual scope f cd A outer s H E).stack ⟨h1, g, d, tk, os⟩ _ ⟨[.ref e, u], []⟩ ([.ref e, u] ++ []) [.ref e, v] (fun v1 H5 => v1 = .non /\ ∃ dx, H2 dx = none /\ dx ≠ e /\ H5 = upd (upd (upd H2 e (rawX e C tt none)) e (rawX e C tt (some dx))) dx (.xd [(field, v)])) E0
    (hr.make C [u] []) (I4.env0.make C [u] []) (bI _ [.ref e, u] I4.kIn rfl) (.cons rfl (.cons ru .nil)) ⟨e, tt, v, rfl, upd_same, fun dx q1 q2 => ⟨rfl, dx, ?_, q2, rfl⟩⟩) fun res s5 hq => ?_)
  · rw [upd_ne q2] at q1; exact q1
  cases res with
  | error ex => exact hq.elim
  | ok fl =>
    cases fl with
    | next => exact False.elim hq
    | brk => exact False.elim hq
    | cont => exact False.elim hq
    | ret u1 =>
      obtain ⟨v1, H5, I5, rv, rfl, dx, q1, q2, rfl⟩ := I4.after hq
      have he5 : upd (upd (upd H2 e (rawX e C tt none)) e (rawX e C tt (some dx))) dx (.xd [(field, v)]) e = some (rawX e C tt (some dx)) := by rw [upd_ne (Ne.symm q2), upd_same]
      obtain ⟨hx, _, _⟩ := I5.hok e _ he5
      have hx5 : s5.heap.get? e = some { cls := .ref C, dict := some dx, data := .fields #[.ref tt, .none, .none, .none, .bool false, .none] } := hx
      have I6 := I5.forget he5
      rw [drop_upd en q2] at I6
      refine ⟨rv, e, _, _, rfl, (all _ I5.kIn).1, hx5, rfl, rfl, rfl, ?_⟩
      exact raw_xe I6 hx5 na.old rfl rfl rfl (fun dx1 z => by cases z; exact ⟨_, hx5, rfl⟩) (by rw [upd_ne (Ne.symm q2)]; exact en) (kk dx q1)
end
section
variable {X : Cx} {pins : List (Addr × Obj)} {σ : St} {H : Hp} {s : Shared}
theorem Inv.unbound {i : Nat} {n : Str} {h1 : Heap} {u : Option Value} {m : Str -> Option Value} (I : Inv X pins σ H s) (hN : X.N.Nodup) (hi : X.N[i]? = some n)
    (hm : s.heap.Ns X.env.locals m) (hl : ∀ (j : Nat) (x : Str) (v : V), X.N[j]? = some x -> σ[j]? = some (some v) -> Vis X.env.scope x -> ∃ u, RelV v u /\ Look X.env s.heap m x u)
    (hn : h1.Ns X.env.locals (fun x => if x = n then u else m x)) (sb : Heap.SameBut X.env.locals s.heap h1) : Inv X pins (σ.set i none) H { s with heap := h1 } := by
  obtain ⟨ok, r1, r2, ba, _, ce, fre, freC, pin, hok, len⟩ := id I
  have k : ∀ b o, b ≠ X.env.locals -> s.heap.get? b = some o -> h1.get? b = some o := fun b o z q => (sb.2 b z).trans q
  have ne0 : ∀ b o, X.s₀.heap.get? b = some o -> b ≠ X.env.locals := fun b o q => Nat.ne_of_lt (Nat.lt_of_lt_of_le (Heap.lt_size q) ok.above)
  refine ⟨ok, r1, r2, ⟨fun b o q h0 hb hx => k b o (ne0 b o q) (ba.keep b o q h0 hb hx), fun b o q h0 hb hx => ?_, ba.free, fun b o q hx => ?_, ba.tups, ba.frzs, ba.tbls⟩, ⟨_, hn, fun j x v e1 e2 e3 => ?_⟩, fun x c hc => ?_, fre, freC, fun p hp => ?_, fun b u q => ?_, ?_⟩
  · obtain ⟨sl, z⟩ := ba.slot b o q h0 hb hx
    exact ⟨sl, k _ _ (ne0 b o q) z⟩
  · obtain ⟨o1, z⟩ := ba.there b o q hx
    exact ⟨o1, k _ _ (ne0 b o q) z⟩
  · have nj : j ≠ i := fun z => by
      subst z
      rw [List.getElem?_set] at e2
      split at e2
      · split at e2 <;> cases e2
      · rename_i w; exact w rfl
    rw [List.getElem?_set_ne (Ne.symm nj)] at e2
    obtain ⟨uu, r, l⟩ := hl j x v e1 e2 e3
    have nx : x ≠ n := fun z => by subst z; exact nj (nodup_ix hN e1 hi)
    refine ⟨uu, r, ?_⟩
    rcases l with ⟨l1, l2⟩ | ⟨l1, cc, l2, o, ho, hd⟩
    · exact .inl ⟨l1, by simp only [if_neg nx]; exact l2⟩
    · exact .inr ⟨l1, cc, l2, o, k _ _ (I.cne x cc l2) ho, hd⟩
  · obtain ⟨v, o, ho, hd⟩ := ce x c hc
    exact ⟨v, o, k _ _ (I.cne x c hc) ho, hd⟩
  · obtain ⟨p1, p2, p3, p4⟩ := pin p hp
    exact ⟨k _ _ p3 p1, p2, p3, p4⟩
  · have nl : ∀ c y, H c = some y -> c ≠ X.env.locals := fun c y z w => by rw [w, fre] at z; cases z
    refine (hok b u q).stay (fun c v hc z => k c v ?_ z) (fun _ z => z) fun _ _ z => z
    rcases hc with rfl | hc
    · exact nl _ _ q
    · exact nl _ _ hc
  · rw [List.length_set]; exact len
theorem ps_tryAs {body suite : List Stmt} {b0 : Stmt} {tb : TB} {ts : TS} {x n : Str} {i : Nat} {C : Addr} {mt : Addr -> Prop} {np hpos pos : Pos} (hX : X.stack = X.env :: X.outer) (hfr : X.env.frame = some X.env.locals) (hN : X.N.Nodup) (hi : X.N[i]? = some n) (hk : X.env.scope.names.lookup n = some .local)
    (hb : BX X body tb) (hs : ∀ ea, PSs (X.suite ea).nox (b0 :: suite) ts)
    (hmt : ∀ (h : Heap) (g : Array GenState) (d : Drawn) (tk : Nat) (os : OsState) (e Ce : Addr) (oe : Obj) (M : Model) (A : Around) (E : Value -> Shared -> Prop) (Q : Bool -> Shared -> Prop), X.K.In h -> mt Ce -> h.get? e = some oe -> oe.cls = .ref Ce -> Q true ⟨h, g, d, tk, os⟩ -> wpAny M A (excMatches (.ref e) (.ref C)) Q E ⟨h, g, d, tk, os⟩)
    (hg : Gl X x) (hm : X.mg x = some (.ref C)) (hf : X.fn n = true \/ X.env.scope.names.lookup n = some .local := by first | exact .inl rfl | exact .inr rfl | assumption) (hdb : (x == ("__debug__" : Str)) = false := by decide) :
    PS X (.Try body [.ExceptHandler (some (.Name x np)) (some n) (b0 :: suite) hpos] [] [] pos)
      (fun D σ H => tb D (fun σ1 cls d H1 => ∃ Ce, cls = .ref Ce /\ mt Ce /\ ∀ ea, H1 ea = none -> ts { nx := fun σ2 H2 => D.nx (σ2.set i none) H2, rt := D.rt } (σ1.set i (some (.ref ea))) (upd H1 ea (excX ea Ce d))) σ H) := by
  intro pins s σ H D I h
  refine wpAny_Try_except (wpAny_mono (hb pins s σ H D _ I h) (fun fl s1 q1 => ?_) (fun ex s1 q1 => ?_))
  · cases fl with
    | next => exact wpAny_execs_nil q1
    | brk => exact q1
    | cont => exact q1
    | ret u => exact q1
  · obtain ⟨σ1, ea, cls, d, H1, B, rfl, fl, cl, en, na, Ce, rfl, hce, hts⟩ := q1
    rw [hX] at fl
    refine fly_note (outer := X.outer) (I.ok.frames.trans (congrArg some hX)) hfr fl fun h1 x1 u1 => held_land (s := { s1 with heap := h1 }) x1 fun h2 x2 u2 => ?_
    obtain ⟨a0, st2, _⟩ := id x2.1
    have I2 : Inv X pins σ1 H1 { s1 with heap := h2 } := cl h2 st2 (u1.trans u2)
    obtain ⟨⟨a1, fw⟩, _⟩ := id x2
    obtain ⟨ob, hob, hobc⟩ := fw.there
    refine wpAny_handleBy_cons (codeAny_handlers_test (ld_glob (X := X.suite ea) (I2.suite ea) hg hm ?_ hdb)) (by intro z; cases z)
    obtain ⟨hp, g, dr, tk, os⟩ := s1
    refine hmt h2 g dr tk os ea Ce ob _ _ _ _ I2.kIn hce hob hobc (codeAny_handlers_suite_as ?_)
    refine fly_land (s := ⟨h2, g, dr, tk, os⟩) x2 fun h3 x3 u3 => ?_
    obtain ⟨⟨a3, fw3⟩, dk3⟩ := id x3
    obtain ⟨oe, vs, T, oT, tz, he3, ⟨hc3, _⟩, hd3, _⟩ := fw3.2.2.2
    have I3 : Inv X pins σ1 H1 ⟨h3, g, dr, tk, os⟩ := cl h3 fw3.1 ((u1.trans u2).trans u3)
    have I4 : Inv X pins σ1 (upd H1 ea (excX ea Ce d)) ⟨h3, g, dr, tk, os⟩ := I3.track na en (excX_ok he3 hc3 (fun dx z => by
      obtain ⟨o2, y1, y2⟩ := dk3 dx z
      rw [he3] at y1; cases y1; exact y2) hd3)
    refine store_ok (X := (X.suite ea).nox) ((I4.suite ea).wish _) hN hi (.inl hk) (v := .ref ea) rfl (fun s5 I5 => ?_) hf
    refine wpAny_mono (hs ea pins s5 _ _ { nx := fun σ2 H2 => D.nx (σ2.set i none) H2, rt := D.rt } I5 (hts ea en)) (fun f s6 q6 => ?_) (fun _ _ z => z.elim)
    have fin : ∀ (σ6 : St) (H6 : Hp) (Q6 : Unit -> Shared -> Prop), Inv X pins σ6 H6 s6 -> (∀ s7, Inv X pins (σ6.set i none) H6 s7 -> Q6 () s7) -> wpAny (model X.prog X.w) X.A (do bindName X.env n .none; unbindBehindTheSuite X.env n hpos) Q6 X.xe s6 := by
      intro σ6 H6 Q6 I6 hQ
      refine wpAny_bind (wpAny_bindName (store_ok I6 hN hi (.inl hk) (v := .non) rfl (fun s7 I7 => ?_) hf))
      obtain ⟨m, hnm, hlk⟩ := id I7.loc
      have li : (σ6.set i (some V.non))[i]? = some (some V.non) := by
        have hlt : i < X.N.length := (List.getElem?_eq_some_iff.mp hi).1
        rw [List.getElem?_set_self (by rw [I6.len]; exact hlt)]
      obtain ⟨u, ru, lk⟩ := hlk i n .non hi li (.inl hk)
      have hmn : m n = some u := by
        rcases lk with ⟨_, z⟩ | ⟨z, _⟩
        · exact z
        · rcases z with z | z <;> (rw [show X.env.kindOf n = some .local from hk] at z; cases z)
      unfold unbindBehindTheSuite
      refine wpAny_onRaise (wpAny_unbindName_local hk hnm hmn (by rw [I6.ok.kind]; rfl) fun h8 u8 hn8 sb8 => ?_)
      have I8 := I7.unbound hN hi hnm hlk hn8 sb8
      rw [List.set_set] at I8
      exact hQ _ I8
    have ok := I.ok
    cases f with
    | next =>
      obtain ⟨σ6, H6, J, q⟩ := q6
      exact fin σ6 H6 _ (Inv.unsuite ok J.unwish) fun s7 I7 => ⟨_, _, I7, q⟩
    | brk => obtain ⟨_, _, _, q⟩ := q6; exact False.elim q
    | cont => obtain ⟨_, _, _, q⟩ := q6; exact False.elim q
    | ret u =>
      obtain ⟨v, σ6, H6, J, r, q⟩ := q6
      exact fin σ6 H6 _ (Inv.unsuite ok J.unwish) fun s7 I7 => ⟨v, _, _, I7, r, q⟩
end
section
variable {X : Cx} {e : Expr} {field : Str} {pos : Pos} {ta : TE} {C fI : Addr}
noncomputable def tFldX (C : Addr) (ta : TE) (field : Str) : TE := fun σ H Q => ta σ H fun x H1 => ∃ a dx fs v, x = .ref a /\ H1 a = some (excX a C (some dx)) /\ H1 dx = some (.xd fs) /\ fs.lookup field = some v /\ Q v H1
theorem pe_fldX (c : XCls X.K C fI field) (he : PE X e ta) (hb : attributeBase e field X.env (eval e X.env) = eval e X.env) : PE X (.Attribute e field pos) (tFldX C ta field) := by
  intro pins s σ H Q I h
  refine attr_of hb (thn (he pins s σ H _ I h) fun u s1 ⟨x, H1, I1, rx, a, dx, fs, v, ex, ha, hd, hl, q⟩ => ?_)
  subst ex
  obtain rfl : u = Value.ref a := rx
  obtain ⟨bm, N, nm, qn, bs, sn, sub, ab, col, dd, k0, k1, k2, k3, k5, all⟩ := exc_objI c.cls
  obtain ⟨hC, T, _⟩ := all _ I1.kIn
  obtain ⟨⟨oe, vs, h1, h2, h3, h4⟩, _, _⟩ := I1.hok a _ ha
  obtain ⟨mA, hn, hr⟩ := I1.hok dx _ hd
  have z := hr field
  rw [hl] at z
  obtain ⟨uv, zv, rv⟩ := RelO.some_of z
  obtain ⟨hp, g, d, tk, os⟩ := s1
  exact load_exc hC (T.hasType (by rfl)) (tlk_of I1.kIn c.ga) (tlk_of I1.kIn c.gn) (tlk_of I1.kIn c.fl) h1 h2 h4 (h3 dx rfl) hn.ns zv (PySem.W.handedOut_of (handed_of rv)) ⟨v, H1, I1.tok _, rv, q⟩
end
end L2
namespace P2
open PySem L2
inductive D where
  | non | bl (b : Bool) | int (i : Int) | str (x : Str) | ty (n : String) | ref (a : Addr)
  | tup (ds : List D) | lst (ds : List D) | exc (c : Addr) (ns : List Str) (ds : List D)
inductive R (α : Type) where
  | ok (a : α) | ex (c : Addr) (ns : List Str) (ds : List D) | bad
noncomputable def R.bind {α β : Type} : R α -> (α -> R β) -> R β
  | .ok a, f => f a
  | .ex c ns ds, _ => .ex c ns ds
  | .bad, _ => .bad
theorem bind_ok {α β : Type} {r : R α} {g : α -> R β} {y : β} (h : r.bind g = .ok y) : ∃ x, r = .ok x /\ g x = .ok y := by
  cases r with
  | ok x => exact ⟨x, rfl, h⟩
  | ex c ns ds => cases h
  | bad => cases h
noncomputable def KL (K : W.Frag) (a : Addr) (vs : List V) : Prop := ∃ (its : List Value) (n : Nat), K.lookup a = some { cls := .type "list", data := .seq its.toArray n } /\ its.length <= sizeLine /\ Vals vs its
theorem KL.sq {K : W.Frag} {a : Addr} {vs : List V} {H : Hp} (h : KL K a vs) : SqL K H a vs := let ⟨its, n, h1, h2, h3⟩ := h; .inr ⟨_, its.toArray, n, h1, rfl, rfl, rfl, by simpa using h2, by simpa using h3⟩
noncomputable def KT (K : W.Frag) (a : Addr) (vs : List V) : Prop := ∃ (o : Obj) (its : Array Value) (n : Nat), K.lookup a = some o /\ o.cls = .type "tuple" /\ o.data = .seq its n /\ its.size <= sizeLine /\ Vals vs its.toList
noncomputable def namesOf (K : W.Frag) : List Str := match K.lookup mainGlobals with
  | some ⟨_, _, .dict es _, _⟩ => es.toList.filterMap fun e => match e.key with
    | .str x _ => some x
    | _ => none
  | _ => []
noncomputable def plainFn (K : W.Frag) (x : Str) : Bool := match W.nsIn K mainGlobals x with
  | some (some (.ref f)) => (match K.lookup f with
    | some ⟨_, _, .func fd, _⟩ => (match fd.defaults, fd.kwdefaults with
      | .none, .none => true
      | _, _ => false)
    | _ => false)
  | _ => false
noncomputable def tabsOf (K : W.Frag) : List (Str × Addr × Addr) := (namesOf K).filterMap fun x => if plainFn K x then (W.tabIn K x).map fun q => (x, q.1, q.2) else none
noncomputable def CodeO (c : Addr) (q : Str) : HO := .ext fun h => h.CodeRec (.ref c) q
noncomputable def TbOk (K : W.Frag) (H : Hp) : Prop := ∀ t ∈ tabsOf K, ∃ ps, H t.2.2 = some (.tbl ps) /\ TriplesOk ps.toList /\ ∀ pos cv, codeAmong pos ps.toList = some cv -> ∃ c', cv = .ref c' /\ H c' = some (CodeO c' (t.1 ++ ".<locals>.<lambda>"))
noncomputable def NT (o : HO) : Prop := ∀ ps, o ≠ .tbl ps
theorem nt_lst {l : List V} : NT (.lst l) := fun _ h => nomatch h
theorem nt_tup {l : List V} : NT (.tup l) := fun _ h => nomatch h
theorem nt_frz {o : Obj} {u : HO} : NT (.frz o u) := fun _ h => nomatch h
theorem nt_xd {l : List (Str × V)} : NT (.xd l) := fun _ h => nomatch h
theorem nt_ext {φ : Heap -> Prop} : NT (.ext φ) := fun _ h => nomatch h
structure Same (K : W.Frag) (H H' : Hp) : Prop where
  at' : ∀ b o, NT o -> H b = some o -> H' b = some o
  fr : ∀ b, H' b = none -> H b = none
  tt : TbOk K H -> TbOk K H'
theorem Same.refl {K : W.Frag} (H : Hp) : Same K H H := ⟨fun _ _ _ h => h, fun _ h => h, fun h => h⟩
theorem Same.trans {K : W.Frag} {H H1 H2 : Hp} (a : Same K H H1) (b : Same K H1 H2) : Same K H H2 := ⟨fun c o n h => b.at' c o n (a.at' c o n h), fun c h => a.fr c (b.fr c h), fun h => b.tt (a.tt h)⟩
theorem Same.free {K : W.Frag} {H H' : Hp} (e : Same K H H') {l : Addr} (h : H' l = Option.none) : H l = Option.none := e.fr l h
theorem TbOk.off {K : W.Frag} {H H' : Hp} {p : Addr} (t : TbOk K H) (hp : ∀ ps, H p ≠ some (.tbl ps)) (hc : ∀ q, H p ≠ some (CodeO p q)) (e : ∀ b, b ≠ p -> H' b = H b) : TbOk K H' := fun x hx => by
  obtain ⟨ps, h1, h2, h3⟩ := t x hx
  refine ⟨ps, by rw [e _ fun w => hp ps (by rw [← w]; exact h1)]; exact h1, h2, fun pos cv e0 => ?_⟩
  obtain ⟨c', e1, e2⟩ := h3 pos cv e0
  exact ⟨c', e1, by rw [e _ fun w => hc _ (by rw [← w]; exact e2)]; exact e2⟩
theorem lst_tb {H : Hp} {p : Addr} {l : List V} (h : H p = some (.lst l)) : (∀ ps, H p ≠ some (.tbl ps)) /\ ∀ q, H p ≠ some (CodeO p q) :=
  ⟨fun ps w => (by rw [h] at w; exact nomatch w), fun q w => (by rw [h] at w; unfold CodeO at w; exact nomatch w)⟩
theorem TbOk.upd {K : W.Frag} {H : Hp} {p : Addr} {o : HO} (t : TbOk K H) (hp : ∀ ps, H p ≠ some (.tbl ps)) (hc : ∀ q, H p ≠ some (CodeO p q)) : TbOk K (upd H p o) := fun x hx => by
  obtain ⟨ps, h1, h2, h3⟩ := t x hx
  refine ⟨ps, by rw [upd_ne fun w => hp ps (by rw [← w]; exact h1)]; exact h1, h2, fun pos cv e => ?_⟩
  obtain ⟨c', e1, e2⟩ := h3 pos cv e
  exact ⟨c', e1, by rw [upd_ne fun w => hc _ (by rw [← w]; exact e2)]; exact e2⟩
mutual
inductive Rep (K : W.Frag) (al : Addr -> Prop) (H : Hp) : V -> D -> Prop
  | non : Rep K al H .non .non
  | bl (b : Bool) : Rep K al H (.bl b) (.bl b)
  | int (i : Int) : Rep K al H (.int i) (.int i)
  | str (x : Str) : Rep K al H (.str x) (.str x)
  | ty (n : String) : Rep K al H (.ty n) (.ty n)
  | ref (a : Addr) : Rep K al H (.ref a) (.ref a)
  | tup {a : Addr} {vs : List V} {ds : List D} : (al a /\ Rd H a (.tup vs)) \/ KT K a vs -> Reps K al H vs ds -> Rep K al H (.ref a) (.tup ds)
  | lst {a : Addr} {vs : List V} {ds : List D} : (al a /\ Rd H a (.lst vs)) \/ KL K a vs -> Reps K al H vs ds -> Rep K al H (.ref a) (.lst ds)
  | exc {a c dx : Addr} {ns : List Str} {vs : List V} {ds : List D} : al a -> H a = some (excX a c (some dx)) -> al dx -> H dx = some (.xd (ns.zip vs)) -> Reps K al H vs ds -> Rep K al H (.ref a) (.exc c ns ds)
  | exc0 {a c : Addr} : al a -> H a = some (excX a c none) -> Rep K al H (.ref a) (.exc c [] [])
inductive Reps (K : W.Frag) (al : Addr -> Prop) (H : Hp) : List V -> List D -> Prop
  | nil : Reps K al H [] []
  | cons {v : V} {d : D} {vs : List V} {ds : List D} : Rep K al H v d -> Reps K al H vs ds -> Reps K al H (v :: vs) (d :: ds)
end
noncomputable def Xt (al : Addr -> Prop) (H : Hp) (al' : Addr -> Prop) (H' : Hp) : Prop := ∀ a o, NT o -> al a -> H a = some o -> al' a /\ H' a = some o
theorem Xt.refl {al : Addr -> Prop} {H : Hp} : Xt al H al H := fun _ _ _ h e => ⟨h, e⟩
theorem Xt.trans {al al1 al2 : Addr -> Prop} {H H1 H2 : Hp} (x : Xt al H al1 H1) (y : Xt al1 H1 al2 H2) : Xt al H al2 H2 := fun a o n h e => y a o n (x a o n h e).1 (x a o n h e).2
theorem Xt.of {K : W.Frag} {al : Addr -> Prop} {H H' : Hp} (s : Same K H H') : Xt al H al H' := fun a o n h e => ⟨h, s.at' a o n e⟩
theorem Xt.sub {al al' : Addr -> Prop} {H : Hp} (s : ∀ a, al a -> al' a) : Xt al H al' H := fun a o _ h e => ⟨s a h, e⟩
theorem rd_mv {al al' : Addr -> Prop} {H H' : Hp} {a : Addr} {u : HO} (h : Xt al H al' H') (n : NT u) (z : al a /\ Rd H a u) : al' a /\ Rd H' a u := by
  obtain ⟨z1, z2 | ⟨o, z2⟩⟩ := z
  · exact ⟨(h a _ n z1 z2).1, .inl (h a _ n z1 z2).2⟩
  · exact ⟨(h a _ nt_frz z1 z2).1, .inr ⟨o, (h a _ nt_frz z1 z2).2⟩⟩
mutual
theorem Rep.mv {K : W.Frag} {al al' : Addr -> Prop} {H H' : Hp} (h : Xt al H al' H') : ∀ {v : V} {d : D}, Rep K al H v d -> Rep K al' H' v d
  | _, _, .non => .non
  | _, _, .bl b => .bl b
  | _, _, .int b => .int b
  | _, _, .str b => .str b
  | _, _, .ty b => .ty b
  | _, _, .ref b => .ref b
  | _, _, .tup p q => .tup (p.elim (fun z => .inl (rd_mv h nt_tup z)) .inr) (q.mv h)
  | _, _, .lst p q => .lst (p.elim (fun z => .inl (rd_mv h nt_lst z)) .inr) (q.mv h)
  | _, _, .exc p1 p2 p3 p4 q => .exc (h _ _ nt_ext p1 p2).1 (h _ _ nt_ext p1 p2).2 (h _ _ nt_xd p3 p4).1 (h _ _ nt_xd p3 p4).2 (q.mv h)
  | _, _, .exc0 p1 p2 => .exc0 (h _ _ nt_ext p1 p2).1 (h _ _ nt_ext p1 p2).2
theorem Reps.mv {K : W.Frag} {al al' : Addr -> Prop} {H H' : Hp} (h : Xt al H al' H') : ∀ {v : List V} {d : List D}, Reps K al H v d -> Reps K al' H' v d
  | _, _, .nil => .nil
  | _, _, .cons p q => .cons (p.mv h) (q.mv h)
end
section
variable {K : W.Frag} {al al' : Addr -> Prop} {H H' : Hp} {v : V} {d : D} {vs ws : List V} {ds es : List D}
theorem Rep.up (r : Rep K al H v d) (s : Same K H H') : Rep K al H' v d := r.mv (.of s)
theorem Reps.up (r : Reps K al H vs ds) (s : Same K H H') : Reps K al H' vs ds := r.mv (.of s)
theorem Reps.length (r : Reps K al H vs ds) : vs.length = ds.length := by
  induction ds generalizing vs with
  | nil => cases r; rfl
  | cons d ds ih => cases r with | cons a b => rw [List.length_cons, List.length_cons, ih b]
theorem Reps.append (r : Reps K al H vs ds) (q : Reps K al H ws es) : Reps K al H (vs ++ ws) (ds ++ es) := by
  induction ds generalizing vs with
  | nil => cases r; exact q
  | cons d ds ih => cases r with | cons a b => exact .cons a (ih b)
theorem Reps.get (r : Reps K al H vs ds) {i : Nat} {x : V} (e : vs[i]? = some x) : ∃ y, ds[i]? = some y /\ Rep K al H x y := by
  induction ds generalizing vs i with
  | nil => cases r; simp at e
  | cons d ds ih =>
    cases r with
    | cons a b =>
      cases i with
      | zero => simp at e; subst e; exact ⟨_, rfl, a⟩
      | succ i => simpa using ih b (by simpa using e)
theorem Reps.getD (r : Reps K al H vs ds) {i : Nat} {y : D} (e : ds[i]? = some y) : ∃ x, vs[i]? = some x /\ Rep K al H x y := by
  have hl := r.length
  have hi : i < vs.length := by rw [hl]; exact (List.getElem?_eq_some_iff.mp e).1
  obtain ⟨z, e2, q⟩ := r.get (List.getElem?_eq_getElem hi)
  rw [e] at e2; cases e2
  exact ⟨_, List.getElem?_eq_getElem hi, q⟩
theorem Reps.drop (r : Reps K al H vs ds) (n : Nat) : Reps K al H (vs.drop n) (ds.drop n) := by
  induction n generalizing vs ds with
  | zero => exact r
  | succ n ih =>
    cases r with
    | nil => exact .nil
    | cons a b => exact ih b
theorem Reps.take (r : Reps K al H vs ds) (n : Nat) : Reps K al H (vs.take n) (ds.take n) := by
  induction n generalizing vs ds with
  | zero => exact .nil
  | succ n ih =>
    cases r with
    | nil => exact .nil
    | cons a b => exact .cons a (ih b)
theorem Rep.tupIn (r : Rep K al H v (.tup ds)) : ∃ a vs, v = .ref a /\ SqT K H a vs /\ Reps K al H vs ds := by
  cases r with
  | tup p q => exact ⟨_, _, rfl, p.elim (fun z => .inl z.2) .inr, q⟩
theorem Rep.lstIn (r : Rep K al H v (.lst ds)) : ∃ a vs, v = .ref a /\ SqL K H a vs /\ Reps K al H vs ds := by
  cases r with
  | lst p q => exact ⟨_, _, rfl, p.elim (fun z => .inl z.2) KL.sq, q⟩
theorem Rep.lstRd (r : Rep K al H v (.lst ds)) : ∃ a vs, v = .ref a /\ (Rd H a (.lst vs) \/ KL K a vs) /\ Reps K al H vs ds := by
  cases r with
  | lst p q => exact ⟨_, _, rfl, p.imp (fun z => z.2) id, q⟩
theorem same_upd {p : Addr} {o : HO} (h : H p = none) : Same K H (upd H p o) := ⟨fun b u _ q => by rw [upd_ne (ne_of_none q h)]; exact q, fun b q => by
    by_cases z : b = p
    · rw [z]; exact h
    · rw [upd_ne z] at q; exact q, fun t => t.upd (fun ps w => by rw [h] at w; cases w) fun q w => by rw [h] at w; cases w⟩
theorem Reps.tupNew (r : Reps K al H vs ds) {p : Addr} (h : H p = none) (a : al p) : Rep K al (upd H p (.tup vs)) (.ref p) (.tup ds) := .tup (.inl ⟨a, .inl upd_same⟩) (r.up (same_upd h))
theorem Reps.lstNew (r : Reps K al H vs ds) {p : Addr} (h : H p = none) (a : al p) : Rep K al (upd H p (.lst vs)) (.ref p) (.lst ds) := .lst (.inl ⟨a, .inl upd_same⟩) (r.up (same_upd h))
end
inductive Sl where
  | no | sh (d : D) | ow (ds : List D)
noncomputable abbrev Ev := List Sl
structure RS (K : W.Frag) (P : Addr -> Prop) (H0 : Hp) (al : Addr -> Prop) (H : Hp) (σ : St) (ρ : Ev) : Prop where
  same : Same K H0 H
  tt : TbOk K H
  fresh : ∀ a, H a = none -> al a
  sub : ∀ a, al a -> P a
  pf : ∀ a, H0 a = none -> P a
  len : ρ.length = σ.length
  sh : ∀ (i : Nat) (d : D), ρ[i]? = some (.sh d) -> ∃ v, σ[i]? = some (some v) /\ Rep K al H v d
  ow : ∀ (i : Nat) (ds : List D), ρ[i]? = some (.ow ds) -> ∃ a vs, σ[i]? = some (some (.ref a)) /\ H a = some (.lst vs) /\ Reps K al H vs ds /\ ¬ al a /\ H0 a = none
  apart : ∀ (i j : Nat) (ds ds' : List D) (a : Addr), ρ[i]? = some (.ow ds) -> ρ[j]? = some (.ow ds') -> σ[i]? = some (some (.ref a)) -> σ[j]? = some (some (.ref a)) -> i = j
section
variable {K : W.Frag} {P al : Addr -> Prop} {H0 H H' : Hp} {σ : St} {ρ : Ev}
theorem RS.grow (r : RS K P H0 al H σ ρ) (s : Same K H H') : RS K P H0 al H' σ ρ where
  same := r.same.trans s
  tt := s.tt r.tt
  fresh := fun a h => r.fresh a (s.free h)
  sub := r.sub
  pf := r.pf
  len := r.len
  sh := fun i d e => let ⟨v, a, b⟩ := r.sh i d e; ⟨v, a, b.up s⟩
  ow := fun i ds e => let ⟨a, vs, h1, h2, h3, h4⟩ := r.ow i ds e; ⟨a, vs, h1, s.at' _ _ nt_lst h2, h3.up s, h4⟩
  apart := r.apart
theorem RS.set (r : RS K P H0 al H σ ρ) {i : Nat} {v : V} {d : D} (hi : i < ρ.length) (q : Rep K al H v d) : RS K P H0 al H (σ.set i (some v)) (ρ.set i (.sh d)) where
  same := r.same
  tt := r.tt
  fresh := r.fresh
  sub := r.sub
  pf := r.pf
  len := by rw [List.length_set, List.length_set]; exact r.len
  sh := fun j e h => by
    by_cases z : i = j
    · subst z
      rw [List.getElem?_set_self hi] at h; cases h
      exact ⟨v, List.getElem?_set_self (by rw [← r.len]; exact hi), q⟩
    · rw [List.getElem?_set_ne z] at h
      obtain ⟨w, a, b⟩ := r.sh j e h
      exact ⟨w, by rw [List.getElem?_set_ne z]; exact a, b⟩
  ow := fun j ds h => by
    by_cases z : i = j
    · subst z
      rw [List.getElem?_set_self hi] at h; cases h
    · rw [List.getElem?_set_ne z] at h
      obtain ⟨a, vs, h1, h2⟩ := r.ow j ds h
      exact ⟨a, vs, by rw [List.getElem?_set_ne z]; exact h1, h2⟩
  apart := fun j k ds ds' a h1 h2 h3 h4 => by
    by_cases z : i = j
    · subst z; rw [List.getElem?_set_self hi] at h1; cases h1
    · by_cases y : i = k
      · subst y; rw [List.getElem?_set_self hi] at h2; cases h2
      · rw [List.getElem?_set_ne z] at h1 h3
        rw [List.getElem?_set_ne y] at h2 h4
        exact r.apart j k ds ds' a h1 h2 h3 h4
theorem RS.drop (r : RS K P H0 al H σ ρ) {i : Nat} {u : Option V} : RS K P H0 al H (σ.set i u) (ρ.set i .no) where
  same := r.same
  tt := r.tt
  fresh := r.fresh
  sub := r.sub
  pf := r.pf
  len := by rw [List.length_set, List.length_set]; exact r.len
  sh := fun j e h => by
    by_cases z : i = j
    · subst z
      by_cases hi : i < ρ.length
      · rw [List.getElem?_set_self hi] at h; cases h
      · rw [List.getElem?_eq_none (by rw [List.length_set]; omega)] at h; cases h
    · rw [List.getElem?_set_ne z] at h
      obtain ⟨w, a, b⟩ := r.sh j e h
      exact ⟨w, by rw [List.getElem?_set_ne z]; exact a, b⟩
  ow := fun j ds h => by
    by_cases z : i = j
    · subst z
      by_cases hi : i < ρ.length
      · rw [List.getElem?_set_self hi] at h; cases h
      · rw [List.getElem?_eq_none (by rw [List.length_set]; omega)] at h; cases h
    · rw [List.getElem?_set_ne z] at h
      obtain ⟨a, vs, h1, h2⟩ := r.ow j ds h
      exact ⟨a, vs, by rw [List.getElem?_set_ne z]; exact h1, h2⟩
  apart := fun j k ds ds' a h1 h2 h3 h4 => by
    by_cases z : i = j
    · subst z
      by_cases hi : i < ρ.length
      · rw [List.getElem?_set_self hi] at h1; cases h1
      · rw [List.getElem?_eq_none (by rw [List.length_set]; omega)] at h1; cases h1
    · by_cases y : i = k
      · subst y
        by_cases hi : i < ρ.length
        · rw [List.getElem?_set_self hi] at h2; cases h2
        · rw [List.getElem?_eq_none (by rw [List.length_set]; omega)] at h2; cases h2
      · rw [List.getElem?_set_ne z] at h1 h3
        rw [List.getElem?_set_ne y] at h2 h4
        exact r.apart j k ds ds' a h1 h2 h3 h4
end
noncomputable def XR (K : W.Frag) (al : Addr -> Prop) (H : Hp) (dx : Option Addr) (ns : List Str) (ds : List D) : Prop :=
  match dx with
  | none => ns = [] /\ ds = []
  | some d => al d /\ ∃ vs, H d = some (.xd (ns.zip vs)) /\ Reps K al H vs ds
theorem XR.mv {K : W.Frag} {al al' : Addr -> Prop} {H H' : Hp} {dx : Option Addr} {ns : List Str} {ds : List D} (h : Xt al H al' H') (r : XR K al H dx ns ds) : XR K al' H' dx ns ds := by
  cases dx with
  | none => exact r
  | some d =>
    obtain ⟨a, vs, e, q⟩ := r
    exact ⟨(h _ _ nt_xd a e).1, vs, (h _ _ nt_xd a e).2, q.mv h⟩
noncomputable def Aft {α : Type} (K : W.Frag) (al : Addr -> Prop) (E : XK) (H : Hp) (r : R α) (k : α -> Hp -> Prop) : Prop :=
  match r with
  | .ok a => ∀ H', Same K H H' -> k a H'
  | .ex c ns ds => ∀ dx H', Same K H H' -> XR K al H' dx ns ds -> E (.ref c) dx H'
  | .bad => False
section
variable {α β : Type} {K : W.Frag} {al : Addr -> Prop} {E : XK} {H H' : Hp} {r : R α} {k k' : α -> Hp -> Prop}
theorem Aft.up (a : Aft K al E H r k) (s : Same K H H') : Aft K al E H' r k := by
  cases r with
  | ok x => exact fun H1 s1 => a H1 (s.trans s1)
  | ex c ns ds => exact fun dx H1 s1 => a dx H1 (s.trans s1)
  | bad => exact a
theorem Aft.mono (a : Aft K al E H r k) (m : ∀ x H1, Same K H H1 -> k x H1 -> k' x H1) : Aft K al E H r k' := by
  cases r with
  | ok x => exact fun H1 s1 => m x H1 s1 (a H1 s1)
  | ex c ns ds => exact a
  | bad => exact a
theorem Aft.split {g : α -> R β} {k : β -> Hp -> Prop} (a : Aft K al E H (r.bind g) k) : Aft K al E H r (fun x H1 => Aft K al E H1 (g x) k) := by
  cases r with
  | ok x => exact fun H1 s1 => Aft.up a s1
  | ex c ns ds => exact a
  | bad => exact a
end
noncomputable def DE (X : Cx) (E : XK) (e : Expr) (f : Ev -> R D) : Prop := ∃ t : TE, PE X e t /\
  ∀ P H0 al H σ ρ (Q : VK), RS X.K P H0 al H σ ρ -> Aft X.K al E H (f ρ) (fun d H' => ∀ v, Rep X.K al H' v d -> Q v H') -> t σ H Q
noncomputable def DT (X : Cx) (E : XK) (e : Expr) (f : Ev -> R Bool) : Prop := ∃ t : TT, PT X e t /\
  ∀ P H0 al H σ ρ (Q : Bool -> Hp -> Prop), RS X.K P H0 al H σ ρ -> Aft X.K al E H (f ρ) Q -> t σ H Q
noncomputable def DW (X : Cx) (E : XK) (e : Expr) (f : Ev -> R Bool) : Prop := ∃ t : TT, PW X e t /\
  ∀ P H0 al H σ ρ (Q : Bool -> Hp -> Prop), RS X.K P H0 al H σ ρ -> Aft X.K al E H (f ρ) Q -> t σ H Q
noncomputable def DA (X : Cx) (E : XK) (es : List Expr) (f : Ev -> R (List D)) : Prop := ∃ t : TA, PA X es t /\
  (∀ P H0 al H σ ρ (Q : List V -> Hp -> Prop), RS X.K P H0 al H σ ρ -> Aft X.K al E H (f ρ) (fun ds H' => ∀ vs, Reps X.K al H' vs ds -> Q vs H') -> t σ H Q) /\ ∀ ρ ds, f ρ = .ok ds -> ds.length = es.length
noncomputable def DN (X : Cx) (E : XK) (e : Expr) (f : Ev -> R (List D)) : Prop := ∃ t : TE, PE X e t /\
  ∀ P H0 al H σ ρ (Q : VK), RS X.K P H0 al H σ ρ -> Aft X.K al E H (f ρ) (fun ds H' => ∀ p vs, H' p = none -> Reps X.K al H' vs ds -> Q (.ref p) (upd H' p (.lst vs))) -> t σ H Q
noncomputable def OpD (X : Cx) (E : XK) (op : Value -> Value -> Sem Value) (g : D -> D -> R D) : Prop := ∃ r : R2, OpR X op r /\
  ∀ al H x y dx dy (Q : VK), (∀ a, H a = none -> al a) -> Rep X.K al H x dx -> Rep X.K al H y dy -> Aft X.K al E H (g dx dy) (fun d H' => ∀ v, Rep X.K al H' v d -> Q v H') -> r x y H Q
noncomputable def IxD (X : Cx) (E : XK) (g : D -> D -> R D) : Prop := ∃ r : R2, IxR X r /\
  ∀ al H x y dx dy (Q : VK), (∀ a, H a = none -> al a) -> Rep X.K al H x dx -> Rep X.K al H y dy -> Aft X.K al E H (g dx dy) (fun d H' => ∀ v, Rep X.K al H' v d -> Q v H') -> r x y H Q
noncomputable def UnD (X : Cx) (E : XK) (op : Value -> Sem Value) (g : D -> R D) : Prop := ∃ r : V -> Hp -> VK -> Prop, UnR X op r /\
  ∀ al H x dx (Q : VK), (∀ a, H a = none -> al a) -> Rep X.K al H x dx -> Aft X.K al E H (g dx) (fun d H' => ∀ v, Rep X.K al H' v d -> Q v H') -> r x H Q
noncomputable def CallD (X : Cx) (E : XK) (f : Value) (g : List D -> R D) : Prop := ∃ r : List V -> Hp -> VK -> Prop, CallR X f r /\
  ∀ al H xs ds (Q : VK), (∀ a, H a = none -> al a) -> Reps X.K al H xs ds -> Aft X.K al E H (g ds) (fun d H' => ∀ v, Rep X.K al H' v d -> Q v H') -> r xs H Q
noncomputable def MtD (X : Cx) (E : XK) (T id : String) (g : D -> List D -> R D) : Prop := ∃ r : V -> List V -> Hp -> VK -> Prop, MtR X id r /\
  ∀ al H x xs d ds (Q : VK), (∀ a, H a = none -> al a) -> Rep X.K al H x d -> Reps X.K al H xs ds -> Aft X.K al E H (g d ds) (fun d H' => ∀ v, Rep X.K al H' v d -> Q v H') -> r x xs H Q
noncomputable def dV (i : Nat) : Ev -> R D := fun ρ => match ρ[i]? with
  | some (.sh d) => .ok d
  | _ => .bad
noncomputable def dC (d : D) : Ev -> R D := fun _ => .ok d
noncomputable def d1 (g : D -> R D) (a : Ev -> R D) : Ev -> R D := fun ρ => (a ρ).bind g
noncomputable def d2 (g : D -> D -> R D) (a b : Ev -> R D) : Ev -> R D := fun ρ => (a ρ).bind fun x => (b ρ).bind fun y => g x y
noncomputable def tB (d : D) : R Bool := match d with
  | .bl b => .ok b
  | _ => .bad
noncomputable def tT (d : D) : R Bool := match d with
  | .non => .ok false
  | .bl b => .ok b
  | .int i => .ok (i != 0)
  | .str y => if y.length <= sizeLine then .ok ((y.length : Int) != 0) else .bad
  | .lst ds => .ok (!ds.isEmpty)
  | .tup ds => .ok (!ds.isEmpty)
  | _ => .bad
noncomputable def b1 (t : D -> R Bool) (a : Ev -> R D) : Ev -> R Bool := fun ρ => (a ρ).bind t
noncomputable def bAnd (a b : Ev -> R Bool) : Ev -> R Bool := fun ρ => (a ρ).bind fun c => if c = true then b ρ else .ok false
noncomputable def bOr (a b : Ev -> R Bool) : Ev -> R Bool := fun ρ => (a ρ).bind fun c => if c = true then .ok true else b ρ
noncomputable def bNot (a : Ev -> R Bool) : Ev -> R Bool := fun ρ => (a ρ).bind fun c => .ok (!c)
noncomputable def dAnd (a b : Ev -> R D) : Ev -> R D := fun ρ => ((a ρ).bind tB).bind fun c => if c = true then b ρ else .ok (.bl false)
noncomputable def dOr (a b : Ev -> R D) : Ev -> R D := fun ρ => ((a ρ).bind tB).bind fun c => if c = true then .ok (.bl true) else b ρ
noncomputable def dNot (a : Ev -> R D) : Ev -> R D := fun ρ => ((a ρ).bind tB).bind fun c => .ok (.bl (!c))
noncomputable def dIf (c : Ev -> R Bool) (a b : Ev -> R D) : Ev -> R D := fun ρ => (c ρ).bind fun k => if k = true then a ρ else b ρ
noncomputable def aNil : Ev -> R (List D) := fun _ => .ok []
noncomputable def aCons (a : Ev -> R D) (r : Ev -> R (List D)) : Ev -> R (List D) := fun ρ => (a ρ).bind fun x => (r ρ).bind fun xs => .ok (x :: xs)
noncomputable def dA (g : List D -> R D) (a : Ev -> R (List D)) : Ev -> R D := fun ρ => (a ρ).bind g
noncomputable def mkT (ds : List D) : R D := if ds.length <= sizeLine then .ok (.tup ds) else .bad
noncomputable def fitL (ds : List D) : R (List D) := if ds.length <= sizeLine then .ok ds else .bad
noncomputable def asN (g : Ev -> R (List D)) : Ev -> R D := fun ρ => (g ρ).bind fun ds => .ok (.lst ds)
section
variable {X : Cx} {E : XK} {e a b c : Expr} {f fa fb : Ev -> R D} {pos : Pos}
theorem de_var (i : Nat) {x : Str} (hN : X.N[i]? = some x := by rfl) (hv : Vis X.env.scope x := by first | exact Or.inl rfl | exact Or.inr (Or.inl rfl) | exact Or.inr (Or.inr rfl)) (hd : (x == ("__debug__" : Str)) = false := by decide)
    (hcd : (x == ("__classdict__" : Str)) = false := by decide) : DE X E (.Name x pos) (dV i) := by
  refine ⟨_, pe_var hN hv hd hcd, fun P H0 al H σ ρ Q r h => ?_⟩
  unfold dV at h
  cases q : ρ[i]? with
  | none => rw [q] at h; exact h.elim
  | some s =>
    cases s with
    | sh d =>
      rw [q] at h
      obtain ⟨v, e1, e2⟩ := r.sh i d q
      exact ⟨v, e1, h H (.refl H) v e2⟩
    | no => rw [q] at h; exact h.elim
    | ow _ => rw [q] at h; exact h.elim
theorem de_int {i j} : DE X E (.Constant (.int i) j pos) (dC (.int i)) := ⟨_, pe_int, fun _ _ _ H _ _ _ _ h => h H (.refl H) _ (.int i)⟩
theorem de_bl {i j} : DE X E (.Constant (.bool i) j pos) (dC (.bl i)) := ⟨_, pe_bl, fun _ _ _ H _ _ _ _ h => h H (.refl H) _ (.bl i)⟩
theorem de_non {j} : DE X E (.Constant .none j pos) (dC .non) := ⟨_, pe_non, fun _ _ _ H _ _ _ _ h => h H (.refl H) _ .non⟩
theorem de_str {i j} : DE X E (.Constant (.str i) j pos) (dC (.str i)) := ⟨_, pe_str, fun _ _ _ H _ _ _ _ h => h H (.refl H) _ (.str i)⟩
theorem de_glob {x : Str} {v : V} {d : D} {u : Value} (hg : Gl X x) (hm : X.mg x = some u) (r : RelV v u) (hd : ∀ al H, Rep X.K al H v d) (hdb : (x == ("__debug__" : Str)) = false := by decide) : DE X E (.Name x pos) (dC d) :=
  ⟨_, pe_glob hg hm r hdb, fun _ _ al H _ _ _ _ h => h H (.refl H) _ (hd al H)⟩
theorem de_ty {x : Str} {n : String} (hg : Gl X x) (hm : X.mg x = none) (hv : bootBuiltins x = some (.type n)) (hn : x ≠ "__name__" := by decide) (hd : (x == ("__debug__" : Str)) = false := by decide) : DE X E (.Name x pos) (dC (.ty n)) :=
  ⟨_, pe_bltn (v := .ty n) hg hm hv rfl hn hd, fun _ _ al H _ _ _ _ h => h H (.refl H) _ (.ty n)⟩
theorem de_op {op : Operator} {g : D -> D -> R D} (ho : OpD X E (binaryOp op) g) (ha : DE X E a fa) (hb : DE X E b fb) : DE X E (.BinOp a op b pos) (d2 g fa fb) := by
  obtain ⟨r, ro, rr⟩ := ho
  obtain ⟨ta, pa, ra⟩ := ha
  obtain ⟨tb, pb, rb⟩ := hb
  refine ⟨_, pe_op ro pa pb, fun P H0 al H σ ρ Q s h => ra _ _ _ _ _ _ _ s (Aft.mono (Aft.split h) fun x H1 s1 h1 v rv => rb _ _ _ _ _ _ _ (s.grow s1) (Aft.mono (Aft.split h1) fun y H2 s2 h2 u ru => ?_))⟩
  exact rr _ _ _ _ _ _ _ ((s.grow s1).grow s2).fresh (rv.up s2) ru h2
theorem de_un {op : UnaryOp} {g : D -> R D} (ho : UnD X E (unaryOp op) g) (ha : DE X E a fa) : DE X E (.UnaryOp op a pos) (d1 g fa) := by
  obtain ⟨r, ro, rr⟩ := ho
  obtain ⟨ta, pa, ra⟩ := ha
  exact ⟨_, pe_un ro pa, fun P H0 al H σ ρ Q s h => ra _ _ _ _ _ _ _ s (Aft.mono (Aft.split h) fun x H1 s1 h1 v rv => rr _ _ _ _ _ (s.grow s1).fresh rv h1)⟩
theorem de_cmp {op : CmpOp} {g : D -> D -> R D} (ho : OpD X E (compareOp op) g) (ha : DE X E a fa) (hb : DE X E b fb) (hm : behindInMarks op b = false := by first | exact nomark _ | with_unfolding_all rfl) : DE X E (.Compare a [op] [b] pos) (d2 g fa fb) := by
  obtain ⟨r, ro, rr⟩ := ho
  obtain ⟨ta, pa, ra⟩ := ha
  obtain ⟨tb, pb, rb⟩ := hb
  refine ⟨_, pe_cmpR ro pa pb hm, fun P H0 al H σ ρ Q s h => ra _ _ _ _ _ _ _ s (Aft.mono (Aft.split h) fun x H1 s1 h1 v rv => rb _ _ _ _ _ _ _ (s.grow s1) (Aft.mono (Aft.split h1) fun y H2 s2 h2 u ru => ?_))⟩
  exact rr _ _ _ _ _ _ _ ((s.grow s1).grow s2).fresh (rv.up s2) ru h2
theorem rep_tB {K : W.Frag} {al : Addr -> Prop} {H : Hp} {E : XK} {v : V} {d : D} {k : Bool -> Hp -> Prop} (r : Rep K al H v d) (h : Aft K al E H (tB d) k) : ∃ c, v = .bl c /\ k c H := by
  cases r with
  | bl b => exact ⟨b, rfl, h H (.refl H)⟩
  | _ => exact (h : False).elim
theorem dt_cmp {op : CmpOp} {g : D -> D -> R D} (ho : OpD X E (compareOp op) g) (ha : DE X E a fa) (hb : DE X E b fb) (hm : behindInMarks op b = false := by first | exact nomark _ | with_unfolding_all rfl) : DT X E (.Compare a [op] [b] pos) (b1 tB (d2 g fa fb)) := by
  obtain ⟨r, ro, rr⟩ := ho
  obtain ⟨ta, pa, ra⟩ := ha
  obtain ⟨tb, pb, rb⟩ := hb
  refine ⟨_, pt_cmpR ro pa pb hm, fun P H0 al H σ ρ Q s h => ra _ _ _ _ _ _ _ s (Aft.mono (Aft.split (Aft.split h)) fun x H1 s1 h1 v rv => ?_)⟩
  refine rb _ _ _ _ _ _ _ (s.grow s1) (Aft.mono (Aft.split (g := fun y => g x y) (k := fun d H2 => Aft X.K al E H2 (tB d) Q) ?_) fun y H2 s2 h2 u ru => ?_)
  · exact h1
  · exact rr _ _ _ _ _ _ _ ((s.grow s1).grow s2).fresh (rv.up s2) ru (Aft.mono h2 fun d H3 s3 h3 w rw' => rep_tB rw' h3)
theorem rep_tT {K : W.Frag} {al : Addr -> Prop} {H : Hp} {E : XK} {v : V} {d : D} {k : Bool -> Hp -> Prop} (r : Rep K al H v d) (h : Aft K al E H (tT d) k) : ∃ c, TruV K v H c /\ k c H := by
  cases r with
  | non => exact ⟨_, rfl, h H (.refl H)⟩
  | bl b => exact ⟨_, rfl, h H (.refl H)⟩
  | int b => exact ⟨_, rfl, h H (.refl H)⟩
  | str b =>
    unfold tT at h
    by_cases z : b.length <= sizeLine
    · simp only [z, if_true] at h
      exact ⟨_, ⟨z, rfl⟩, h H (.refl H)⟩
    · simp only [z, if_false] at h
      exact h.elim
  | tup p q =>
    refine ⟨_, .inr (.inl ⟨_, p.elim (fun z => .inl z.2) .inr, ?_⟩), h H (.refl H)⟩
    cases q <;> rfl
  | lst p q =>
    refine ⟨_, .inl ⟨_, p.elim (fun z => .inl z.2) KL.sq, ?_⟩, h H (.refl H)⟩
    cases q <;> rfl
  | _ => exact (h : False).elim
theorem dt_truth (ha : DE X E e fa) (he : ∀ whole, isTrue e X.env whole = (do let v ← whole; standAt e.pos; holding [v] (truthy v)) := by intro _; rfl) : DT X E e (b1 tT fa) := by
  obtain ⟨ta, pa, ra⟩ := ha
  exact ⟨_, pt_truth pa he, fun P H0 al H σ ρ Q s h => ra _ _ _ _ _ _ _ s (Aft.mono (Aft.split h) fun x H1 s1 h1 v rv => rep_tT rv h1)⟩
variable {ga gb : Ev -> R Bool} {rest : List Expr}
theorem DW.dt (h : DW X E e ga) : DT X E e ga := let ⟨t, p, r⟩ := h; ⟨t, p.pt, r⟩
theorem dw_and1 (h : DT X E a ga) : DW X E (.BoolOp .And [a] pos) ga := let ⟨t, p, r⟩ := h; ⟨t, pw_and1 p, r⟩
theorem dw_or1 (h : DT X E a ga) : DW X E (.BoolOp .Or [a] pos) ga := let ⟨t, p, r⟩ := h; ⟨t, pw_or1 p, r⟩
theorem dw_and (ha : DT X E a ga) (hb : DW X E (.BoolOp .And (b :: rest) pos) gb) : DW X E (.BoolOp .And (a :: b :: rest) pos) (bAnd ga gb) := by
  obtain ⟨ta, pa, ra⟩ := ha
  obtain ⟨tb, pb, rb⟩ := hb
  refine ⟨_, pw_and pa pb, fun P H0 al H σ ρ Q s h => ra _ _ _ _ _ _ _ s (Aft.mono (Aft.split h) fun c H1 s1 h1 => ?_)⟩
  cases c with
  | true => exact iteT (rb _ _ _ _ _ _ _ (s.grow s1) h1)
  | false => exact iteF (h1 H1 (.refl H1))
theorem dw_or (ha : DT X E a ga) (hb : DW X E (.BoolOp .Or (b :: rest) pos) gb) : DW X E (.BoolOp .Or (a :: b :: rest) pos) (bOr ga gb) := by
  obtain ⟨ta, pa, ra⟩ := ha
  obtain ⟨tb, pb, rb⟩ := hb
  refine ⟨_, pw_or pa pb, fun P H0 al H σ ρ Q s h => ra _ _ _ _ _ _ _ s (Aft.mono (Aft.split h) fun c H1 s1 h1 => ?_)⟩
  cases c with
  | true => exact iteT (h1 H1 (.refl H1))
  | false => exact iteF (rb _ _ _ _ _ _ _ (s.grow s1) h1)
theorem dt_not (ha : DT X E a ga) : DT X E (.UnaryOp .Not a pos) (bNot ga) := by
  obtain ⟨ta, pa, ra⟩ := ha
  exact ⟨_, pt_not pa, fun P H0 al H σ ρ Q s h => ra _ _ _ _ _ _ _ s (Aft.mono (Aft.split h) fun c H1 s1 h1 => h1 H1 (.refl H1))⟩
theorem de_one {op : BoolOp} (h : DE X E a fa) : DE X E (.BoolOp op [a] pos) fa := let ⟨t, p, r⟩ := h; ⟨t, pe_one p, r⟩
theorem de_and (ha : DE X E a fa) (hb : DE X E (.BoolOp .And (b :: rest) pos) fb) : DE X E (.BoolOp .And (a :: b :: rest) pos) (dAnd fa fb) := by
  obtain ⟨ta, pa, ra⟩ := ha
  obtain ⟨tb, pb, rb⟩ := hb
  refine ⟨_, pe_and pa pb, fun P H0 al H σ ρ Q s h => ra _ _ _ _ _ _ _ s (Aft.mono (Aft.split (Aft.split h)) fun x H1 s1 h1 v rv => ?_)⟩
  obtain ⟨c, e, h2⟩ := rep_tB rv h1
  refine ⟨c, e, ?_⟩
  cases c with
  | true => exact iteT (rb _ _ _ _ _ _ _ (s.grow s1) h2)
  | false => exact iteF (h2 H1 (.refl H1) _ (.bl false))
theorem de_or (ha : DE X E a fa) (hb : DE X E (.BoolOp .Or (b :: rest) pos) fb) : DE X E (.BoolOp .Or (a :: b :: rest) pos) (dOr fa fb) := by
  obtain ⟨ta, pa, ra⟩ := ha
  obtain ⟨tb, pb, rb⟩ := hb
  refine ⟨_, pe_or pa pb, fun P H0 al H σ ρ Q s h => ra _ _ _ _ _ _ _ s (Aft.mono (Aft.split (Aft.split h)) fun x H1 s1 h1 v rv => ?_)⟩
  obtain ⟨c, e, h2⟩ := rep_tB rv h1
  refine ⟨c, e, ?_⟩
  cases c with
  | true => exact iteT (h2 H1 (.refl H1) _ (.bl true))
  | false => exact iteF (rb _ _ _ _ _ _ _ (s.grow s1) h2)
theorem de_not (ha : DE X E a fa) : DE X E (.UnaryOp .Not a pos) (dNot fa) := by
  obtain ⟨ta, pa, ra⟩ := ha
  refine ⟨_, pe_not pa, fun P H0 al H σ ρ Q s h => ra _ _ _ _ _ _ _ s (Aft.mono (Aft.split (Aft.split h)) fun x H1 s1 h1 v rv => ?_)⟩
  obtain ⟨c, e, h2⟩ := rep_tB rv h1
  exact ⟨c, e, h2 H1 (.refl H1) _ (.bl _)⟩
theorem de_if (hc : DT X E c ga) (ha : DE X E a fa) (hb : DE X E b fb) : DE X E (.IfExp c a b pos) (dIf ga fa fb) := by
  obtain ⟨tc, pc, rc⟩ := hc
  obtain ⟨ta, pa, ra⟩ := ha
  obtain ⟨tb, pb, rb⟩ := hb
  refine ⟨_, pe_ifExp pc pa pb, fun P H0 al H σ ρ Q s h => rc _ _ _ _ _ _ _ s (Aft.mono (Aft.split h) fun c H1 s1 h1 => ?_)⟩
  cases c with
  | true => exact iteT (ra _ _ _ _ _ _ _ (s.grow s1) h1)
  | false => exact iteF (rb _ _ _ _ _ _ _ (s.grow s1) h1)
variable {es : List Expr} {fs : Ev -> R (List D)}
theorem da_nil : DA X E [] aNil := ⟨_, pa_nil, fun _ _ _ H _ _ _ _ h => h H (.refl H) _ .nil, fun _ _ h => by cases h; rfl⟩
theorem da_cons (ha : DE X E e fa) (hr : DA X E es fs) (hs : starEach (e :: es) X.env = (false, eval e X.env) :: starEach es X.env := by rfl) : DA X E (e :: es) (aCons fa fs) := by
  obtain ⟨ta, pa, ra⟩ := ha
  obtain ⟨tb, pb, rb, lb⟩ := hr
  refine ⟨_, pa_cons pa pb hs, fun P H0 al H σ ρ Q s h => ra _ _ _ _ _ _ _ s (Aft.mono (Aft.split h) fun x H1 s1 h1 v rv => rb _ _ _ _ _ _ _ (s.grow s1) (Aft.mono (Aft.split h1) fun y H2 s2 h2 u ru => ?_)), fun ρ ds h => ?_⟩
  · exact h2 H2 (.refl H2) _ (.cons (rv.up s2) ru)
  · obtain ⟨x, _, h1⟩ := bind_ok h
    obtain ⟨y, h2, h3⟩ := bind_ok h1
    cases h3
    rw [List.length_cons, List.length_cons, lb ρ y h2]
theorem de_tup {x1} (ha : DA X E es fs) : DE X E (.Tuple es x1 pos) (dA mkT fs) := by
  obtain ⟨ta, pa, ra, _⟩ := ha
  refine ⟨_, pe_tup pa, fun P H0 al H σ ρ Q s h => ra _ _ _ _ _ _ _ s (Aft.mono (Aft.split h) fun x H1 s1 h1 v rv => ?_)⟩
  unfold mkT at h1
  by_cases z : x.length <= sizeLine
  · rw [if_pos z] at h1
    exact ⟨by rw [rv.length]; exact z, fun p hp => h1 _ (same_upd hp) _ (rv.tupNew hp ((s.grow s1).fresh p hp))⟩
  · rw [if_neg z] at h1
    exact h1.elim
theorem dn_lst (ha : DA X E es fs) : DN X E (.List es pos) (fun ρ => (fs ρ).bind fitL) := by
  obtain ⟨ta, pa, ra, _⟩ := ha
  refine ⟨_, pe_lst pa, fun P H0 al H σ ρ Q s h => ra _ _ _ _ _ _ _ s (Aft.mono (Aft.split h) fun x H1 s1 h1 v rv => ?_)⟩
  unfold fitL at h1
  by_cases z : x.length <= sizeLine
  · rw [if_pos z] at h1
    exact ⟨by rw [rv.length]; exact z, fun p hp => h1 H1 (.refl H1) p v hp rv⟩
  · rw [if_neg z] at h1
    exact h1.elim
theorem DN.de {g : Ev -> R (List D)} (h : DN X E e g) : DE X E e (asN g) := by
  obtain ⟨t, p, r⟩ := h
  exact ⟨t, p, fun P H0 al H σ ρ Q s h => r _ _ _ _ _ _ _ s (Aft.mono (Aft.split h) fun x H1 s1 h1 p vs hp rv => h1 _ (same_upd hp) _ (rv.lstNew hp ((s.grow s1).fresh p hp)))⟩
theorem de_ix {g : D -> D -> R D} (ho : IxD X E g) (ha : DE X E a fa) (hb : DE X E b fb) (hs : PlainIx b := by exact fun _ _ => rfl) : DE X E (.Subscript a b pos) (d2 g fa fb) := by
  obtain ⟨r, ro, rr⟩ := ho
  obtain ⟨ta, pa, ra⟩ := ha
  obtain ⟨tb, pb, rb⟩ := hb
  refine ⟨_, pe_ix ro pa pb hs, fun P H0 al H σ ρ Q s h => ra _ _ _ _ _ _ _ s (Aft.mono (Aft.split h) fun x H1 s1 h1 v rv => rb _ _ _ _ _ _ _ (s.grow s1) (Aft.mono (Aft.split h1) fun y H2 s2 h2 u ru => ?_))⟩
  exact rr _ _ _ _ _ _ _ ((s.grow s1).grow s2).fresh (rv.up s2) ru h2
variable {x : Str} {p : Pos}
theorem de_callB {id : String} {g : List D -> R D} (hc : CallD X E (.builtin id) g) (hg : Gl X x) (hm : X.mg x = none) (hv : bootBuiltins x = some (.builtin id)) (ha : DA X E (e :: es) fs) (hn : x ≠ "__name__" := by decide) (hdb : (x == ("__debug__" : Str)) = false := by decide)
    (he : starEach (e :: es) X.env = (false, eval e X.env) :: starEach es X.env := by rfl) (hpl : (backTo pos (starEach es X.env)).any (·.1) = false := by rfl) : DE X E (.Call (.Name x p) (e :: es) [] pos) (dA g fs) := by
  obtain ⟨r, rc, rr⟩ := hc
  obtain ⟨ta, pa, ra, _⟩ := ha
  exact ⟨_, pe_callB rc hg hm hv pa hn hdb he hpl, fun P H0 al H σ ρ Q s h => ra _ _ _ _ _ _ _ s (Aft.mono (Aft.split h) fun x H1 s1 h1 v rv => rr _ _ _ _ _ (s.grow s1).fresh rv h1)⟩
theorem de_callTy {T : String} {g : List D -> R D} (hc : CallD X E (.type T) g) (hg : Gl X x) (hm : X.mg x = none) (hv : bootBuiltins x = some (.type T)) (ha : DA X E (e :: es) fs) (hn : x ≠ "__name__" := by decide) (hdb : (x == ("__debug__" : Str)) = false := by decide)
    (he : starEach (e :: es) X.env = (false, eval e X.env) :: starEach es X.env := by rfl) (hpl : (backTo pos (starEach es X.env)).any (·.1) = false := by rfl) : DE X E (.Call (.Name x p) (e :: es) [] pos) (dA g fs) := by
  obtain ⟨r, rc, rr⟩ := hc
  obtain ⟨ta, pa, ra, _⟩ := ha
  exact ⟨_, pe_callTy rc hg hm hv pa hn hdb he hpl, fun P H0 al H σ ρ Q s h => ra _ _ _ _ _ _ _ s (Aft.mono (Aft.split h) fun x H1 s1 h1 v rv => rr _ _ _ _ _ (s.grow s1).fresh rv h1)⟩
end
noncomputable def spD (n : Nat) (K : W.Frag) (F : List D -> R D) : Sp := fun vs H Q E => vs.length = n /\ TbOk K H /\ ∃ al ds, (∀ a, H a = none -> al a) /\ Reps K al H vs ds /\ Aft K al E H (F ds) (fun d H' => ∀ v, Rep K al H' v d -> Q v H')
section
variable {X : Cx} {E : XK} {e : Expr} {es : List Expr} {fs : Ev -> R (List D)} {x : Str} {p pos : Pos} {k n : Nat} {ps : List Str} {F : List D -> R D}
theorem de_call (G : Has X.prog X.w X.K X.mg X.base (CXx X.prog X.w) k x ps (spD n X.K F)) (hr : Room k X.A) (hg : Gl X x) (hx : Passes (CXx X.prog X.w) X E) (hn : (e :: es).length = n) (ha : DA X E (e :: es) fs) (hdb : (x == ("__debug__" : Str)) = false := by decide)
    (he : starEach (e :: es) X.env = (false, eval e X.env) :: starEach es X.env := by rfl) (hpl : (backTo pos (starEach es X.env)).any (·.1) = false := by rfl) : DE X E (.Call (.Name x p) (e :: es) [] pos) (dA F fs) := by
  obtain ⟨ta, pa, ra, lb⟩ := ha
  refine ⟨_, pe_has G hr hg hx pa hdb he hpl, fun P H0 al H σ ρ Q s h => ra _ _ _ _ _ _ _ s ?_⟩
  unfold dA at h
  cases q : fs ρ with
  | ok ds =>
    rw [q] at h
    intro H1 s1 vs rv
    rw [List.append_nil]
    exact ⟨by rw [rv.length, lb ρ ds q]; exact hn, (s.grow s1).tt, al, ds, (s.grow s1).fresh, rv, Aft.up h s1⟩
  | ex c ns ds => rw [q] at h; exact h
  | bad => rw [q] at h; exact h.elim
end
inductive RT where
  | nx (ρ : Ev) | rt (d : D) | bk (ρ : Ev) | ct (ρ : Ev) | ex (c : Addr) (ns : List Str) (ds : List D) | bad
noncomputable def toS {α : Type} (r : R α) (k : α -> RT) : RT := match r with
  | .ok a => k a
  | .ex c ns ds => .ex c ns ds
  | .bad => .bad
noncomputable def seqT (r : RT) (k : Ev -> RT) : RT := match r with
  | .nx ρ => k ρ
  | r => r
noncomputable def okS (K : W.Frag) (P : Addr -> Prop) (H0 : Hp) (E : XK) (D : Ends) (al : Addr -> Prop) (H : Hp) : RT -> Prop
  | .nx ρ => ∀ al' H' σ', Xt al H al' H' -> RS K P H0 al' H' σ' ρ -> D.nx σ' H'
  | .bk ρ => ∀ al' H' σ', Xt al H al' H' -> RS K P H0 al' H' σ' ρ -> D.bk σ' H'
  | .ct ρ => ∀ al' H' σ', Xt al H al' H' -> RS K P H0 al' H' σ' ρ -> D.ct σ' H'
  | .rt d => ∀ v H', Same K H0 H' -> Rep K P H' v d -> D.rt v H'
  | .ex c ns ds => ∀ dx H', Same K H0 H' -> XR K P H' dx ns ds -> E (.ref c) dx H'
  | .bad => False
section
variable {K : W.Frag} {P al al' : Addr -> Prop} {H0 H H' : Hp} {E : XK} {D : Ends} {s : RT} {σ : St} {ρ : Ev}
theorem okS.ext (h : okS K P H0 E D al H s) (x : Xt al H al' H') : okS K P H0 E D al' H' s := by
  cases s with
  | nx ρ => exact fun a h1 σ1 y r => h a h1 σ1 (x.trans y) r
  | bk ρ => exact fun a h1 σ1 y r => h a h1 σ1 (x.trans y) r
  | ct ρ => exact fun a h1 σ1 y r => h a h1 σ1 (x.trans y) r
  | rt d => exact h
  | ex c ns ds => exact h
  | bad => exact h
theorem okS.ofR {α : Type} {r : R α} {k : α -> RT} (h : okS K P H0 E D al H (toS r k)) (s : RS K P H0 al H σ ρ) : Aft K al E H r (fun x H1 => okS K P H0 E D al H1 (k x)) := by
  cases r with
  | ok x => exact fun H1 s1 => okS.ext h (.of s1)
  | ex c ns ds => exact fun dx H1 s1 q => h dx H1 (s.same.trans s1) (q.mv (.sub s.sub))
  | bad => exact h
end
noncomputable def DS (X : Cx) (E : XK) (st : Stmt) (g : Ev -> RT) : Prop := ∃ t : TS, PS X st t /\
  ∀ P H0 al H σ ρ (D : Ends), RS X.K P H0 al H σ ρ -> okS X.K P H0 E D al H (g ρ) -> t D σ H
noncomputable def DSs (X : Cx) (E : XK) (st : List Stmt) (g : Ev -> RT) : Prop := ∃ t : TS, PSs X st t /\
  ∀ P H0 al H σ ρ (D : Ends), RS X.K P H0 al H σ ρ -> okS X.K P H0 E D al H (g ρ) -> t D σ H
noncomputable def sNil : Ev -> RT := .nx
noncomputable def sSeq (a b : Ev -> RT) : Ev -> RT := fun ρ => seqT (a ρ) b
noncomputable def sExpr (f : Ev -> R D) : Ev -> RT := fun ρ => toS (f ρ) fun _ => .nx ρ
noncomputable def sRet (f : Ev -> R D) : Ev -> RT := fun ρ => toS (f ρ) .rt
noncomputable def sSet (i : Nat) (f : Ev -> R D) : Ev -> RT := fun ρ => toS (f ρ) fun d => if i < ρ.length then .nx (ρ.set i (.sh d)) else .bad
noncomputable def sIf (c : Ev -> R Bool) (a b : Ev -> RT) : Ev -> RT := fun ρ => toS (c ρ) fun k => if k = true then a ρ else b ρ
section
variable {X : Cx} {E : XK} {st : Stmt} {rest sa sb : List Stmt} {g u ga gb : Ev -> RT} {e c : Expr} {f : Ev -> R D} {fc : Ev -> R Bool} {pos : Pos}
theorem dss_nil : DSs X E [] sNil := ⟨_, pss_nil, fun _ _ al H σ ρ _ s h => h al H σ .refl s⟩
theorem dss_one (h : DS X E st g) : DSs X E [st] g := let ⟨t, p, r⟩ := h; ⟨t, pss_one p, r⟩
theorem dss_cons (h1 : DS X E st g) (h2 : DSs X E rest u) : DSs X E (st :: rest) (sSeq g u) := by
  obtain ⟨t1, p1, r1⟩ := h1
  obtain ⟨t2, p2, r2⟩ := h2
  refine ⟨_, pss_cons p1 p2, fun P H0 al H σ ρ D s h => r1 P H0 al H σ ρ _ s ?_⟩
  unfold sSeq at h
  cases q : g ρ with
  | nx ρ1 =>
    rw [q] at h
    exact fun al' H' σ' x s' => r2 P H0 al' H' σ' ρ1 D s' (okS.ext h x)
  | bk ρ1 => rw [q] at h; exact h
  | ct ρ1 => rw [q] at h; exact h
  | rt d => rw [q] at h; exact h
  | ex c ns ds => rw [q] at h; exact h
  | bad => rw [q] at h; exact h
theorem ds_ret (he : DE X E e f) : DS X E (.Return (some e) pos) (sRet f) := by
  obtain ⟨t, p, r⟩ := he
  exact ⟨_, ps_ret p, fun P H0 al H σ ρ D s h => r _ _ _ _ _ _ _ s (Aft.mono (okS.ofR h s) fun d H1 s1 h1 v rv => h1 v H1 (s.same.trans s1) (rv.mv (.sub s.sub)))⟩
theorem ds_set (i : Nat) {x : Str} {pos' : Pos} (hN : X.N.Nodup) (hi : X.N[i]? = some x) (hx : Loc X.env.scope x) (he : DE X E e f) (hs : swapsWith e (some (.Name x pos')) pos.line X.env = pure false := by rfl) (hf : X.fn x = true \/ X.env.scope.names.lookup x = some .local := by first | exact .inl rfl | exact .inr rfl | assumption) :
    DS X E (.Assign [.Name x pos'] e pos) (sSet i f) := by
  obtain ⟨t, p, r⟩ := he
  refine ⟨_, ps_set hN hi hx p hs hf, fun P H0 al H σ ρ D s h => r _ _ _ _ _ _ _ s (Aft.mono (okS.ofR h s) fun d H1 s1 h1 v rv => ?_)⟩
  by_cases z : i < ρ.length
  · simp only [z, if_true] at h1
    exact h1 al H1 _ .refl ((s.grow s1).set z rv)
  · simp only [z, if_false] at h1
    exact h1.elim
theorem ds_if (hc : DT X E c fc) (ha : DSs X E sa ga) (hb : DSs X E sb gb) : DS X E (.If c sa sb pos) (sIf fc ga gb) := by
  obtain ⟨tc, pc, rc⟩ := hc
  obtain ⟨ta, pa, ra⟩ := ha
  obtain ⟨tb, pb, rb⟩ := hb
  refine ⟨_, ps_if pc pa pb, fun P H0 al H σ ρ D s h => rc _ _ _ _ _ _ _ s (Aft.mono (okS.ofR h s) fun k H1 s1 h1 => ?_)⟩
  cases k with
  | true => exact iteT (ra _ _ _ _ _ _ _ (s.grow s1) h1)
  | false => exact iteF (rb _ _ _ _ _ _ _ (s.grow s1) h1)
noncomputable def turnT (r : RT) (k : Ev -> RT) : RT := match r with
  | .nx ρ => k ρ
  | .ct ρ => k ρ
  | .bk ρ => .nx ρ
  | r => r
noncomputable def whileD (c : Ev -> R Bool) (b : Ev -> RT) : Nat -> Ev -> RT
  | 0, _ => .bad
  | n + 1, ρ => toS (c ρ) fun k => if k = true then turnT (b ρ) (whileD c b n) else .nx ρ
theorem turn_ok {K : W.Frag} {P al : Addr -> Prop} {H0 H : Hp} {D : Ends} {r : RT} {k : Ev -> RT} {N : St -> Hp -> Prop} (h : okS K P H0 E D al H (turnT r k))
    (hN : ∀ al' H' σ' ρ', Xt al H al' H' -> RS K P H0 al' H' σ' ρ' -> okS K P H0 E D al' H' (k ρ') -> N σ' H') : okS K P H0 E { D with nx := N, ct := N, bk := D.nx } al H r := by
  cases r with
  | nx ρ => exact fun al' H' σ' x s => hN al' H' σ' ρ x s (okS.ext h x)
  | ct ρ => exact fun al' H' σ' x s => hN al' H' σ' ρ x s (okS.ext h x)
  | bk ρ => exact h
  | rt d => exact h
  | ex c ns ds => exact h
  | bad => exact h
theorem ds_while (n : Nat) (hp : PassesOwn (model X.prog X.w) X.A X.env X.xe) (hc : DT X E c fc) (hb : DSs X E sb gb) : DS X E (.While c sb [] pos) (whileD fc gb n) := by
  obtain ⟨tc, pc, rc⟩ := hc
  obtain ⟨tb, pb, rb⟩ := hb
  refine ⟨_, ps_while hp pc pb, fun P H0 al H σ ρ D s h => ⟨fun m σ1 H1 => ∃ al1 ρ1, RS X.K P H0 al1 H1 σ1 ρ1 /\ okS X.K P H0 E D al1 H1 (whileD fc gb m ρ1), ⟨n, al, ρ, s, h⟩, ?_⟩⟩
  rintro m σ1 H1 ⟨al1, ρ1, s1, h1⟩
  cases m with
  | zero => exact h1.elim
  | succ m =>
    refine rc _ _ _ _ _ _ _ s1 (Aft.mono (okS.ofR h1 s1) fun k H2 s2 h2 => ?_)
    cases k with
    | true =>
      refine iteT ⟨fun σ' H' => ∃ al1 ρ1, RS X.K P H0 al1 H' σ' ρ1 /\ okS X.K P H0 E D al1 H' (whileD fc gb m ρ1), fun σ' H' z => ⟨m, Nat.lt_succ_self m, z⟩, rb _ _ _ _ _ _ _ (s1.grow s2) (turn_ok (k := whileD fc gb m) h2 fun al' H' σ' ρ' _ s' h' => ⟨al', ρ', s', h'⟩)⟩
    | false => exact iteF (h2 al1 H2 σ1 .refl (s1.grow s2))
end
noncomputable def Wk (K : W.Frag) (al : Addr -> Prop) (H : Hp) (J : It) (ds : List D) : Prop := ∀ al' H', Xt al H al' H' -> (∀ a, H' a = none -> al' a) ->
  (∀ i d, ds[i]? = some d -> J.go i H' /\ ∀ x H'', J.yld i H' x H'' -> H'' = H' /\ Rep K al' H' x d) /\ ∀ i, ds.length <= i -> J.stop i H'
noncomputable def DI (X : Cx) (E : XK) (tg iter : Expr) (f : Ev -> R (List D)) : Prop := ∃ wi : TI, PI X tg iter wi /\
  ∀ P H0 al H σ ρ (R : It -> Hp -> Prop), RS X.K P H0 al H σ ρ -> Aft X.K al E H (f ρ) (fun ds H' => ∀ J, Wk X.K al H' J ds -> R J H') -> wi σ H R
noncomputable def Kp (l : List Nat) (σ σ' : St) : Prop := σ'.length = σ.length /\ ∀ j, j ∉ l -> σ'[j]? = σ[j]?
noncomputable def DG (X : Cx) (tg : Expr) (l : List Nat) (a : D -> Ev -> Option Ev) : Prop := ∃ g : TG, PG X tg g /\
  ∀ P H0 al H σ ρ v d (Q : St -> Hp -> Prop), RS X.K P H0 al H σ ρ -> Rep X.K al H v d -> (∃ ρ', a d ρ = some ρ' /\ ∀ σ', Kp l σ σ' -> RS X.K P H0 al H σ' ρ' -> Q σ' H) -> g v σ H Q
noncomputable def gV (i : Nat) : D -> Ev -> Option Ev := fun d ρ => if i < ρ.length then some (ρ.set i (.sh d)) else none
noncomputable def toO {α : Type} (r : Option α) (k : α -> RT) : RT := match r with
  | some a => k a
  | none => .bad
noncomputable def forD (a : D -> Ev -> Option Ev) (b : Ev -> RT) : List D -> Ev -> RT
  | [], ρ => .nx ρ
  | d :: r, ρ => toO (a d ρ) fun ρ1 => turnT (b ρ1) (forD a b r)
section
variable {X : Cx} {E : XK} {tg iter : Expr} {body : List Stmt} {fi : Ev -> R (List D)} {a : D -> Ev -> Option Ev} {gb : Ev -> RT} {pos : Pos}
noncomputable def sFor (fi : Ev -> R (List D)) (a : D -> Ev -> Option Ev) (gb : Ev -> RT) : Ev -> RT := fun ρ => toS (fi ρ) fun ds => forD a gb ds ρ
theorem dg_name (i : Nat) {x : Str} (hN : X.N.Nodup) (hi : X.N[i]? = some x) (hx : Loc X.env.scope x) (hf : X.fn x = true \/ X.env.scope.names.lookup x = some .local := by first | exact .inl rfl | exact .inr rfl | assumption) : DG X (.Name x pos) [i] (gV i) := by
  refine ⟨_, pg_name hN hi hx hf, fun P H0 al H σ ρ v d Q s rv h => ?_⟩
  obtain ⟨ρ', e, q⟩ := h
  unfold gV at e
  by_cases z : i < ρ.length
  · rw [if_pos z] at e; cases e
    exact q _ ⟨List.length_set .., fun j hj => List.getElem?_set_ne (fun w => hj (by simp [w]))⟩ (s.set z rv)
  · rw [if_neg z] at e; cases e
theorem ds_for {l : List Nat} (hp : PassesOwn (model X.prog X.w) X.A X.env X.xe) (hc : X.calm = true) (hi : DI X E tg iter fi) (hg : DG X tg l a) (hb : DSs X E body gb) (hs : ∀ x, foldedSetIterable iter X.env x = pure x := by intro _; rfl) :
    DS X E (.For tg iter body [] pos) (sFor fi a gb) := by
  obtain ⟨wi, pi, ri⟩ := hi
  obtain ⟨g, pg, rg⟩ := hg
  obtain ⟨tb, pb, rb⟩ := hb
  refine ⟨_, ps_for hp hc pi pg pb hs, fun P H0 al H σ ρ D s h => ri _ _ _ _ _ _ _ s (Aft.mono (okS.ofR h s) fun ds H1 s1 h1 J wk => ?_)⟩
  refine ⟨fun i m σ2 H2 => ∃ al2 ρ2, RS X.K P H0 al2 H2 σ2 ρ2 /\ Wk X.K al2 H2 J ds /\ okS X.K P H0 E D al2 H2 (forD a gb (ds.drop i) ρ2) /\ m = ds.length - i, ⟨_, al, ρ, s.grow s1, wk, h1, rfl⟩, ?_⟩
  rintro i m σ2 H2 ⟨al2, ρ2, s2, wk2, h2, rfl⟩
  obtain ⟨w1, w2⟩ := wk2 al2 H2 .refl s2.fresh
  by_cases hi : i < ds.length
  · right
    have ed : ds[i]? = some ds[i] := List.getElem?_eq_getElem hi
    obtain ⟨go, yl⟩ := w1 i _ ed
    rw [List.drop_eq_getElem_cons hi] at h2
    refine ⟨go, fun σ' H' => ∃ al2 ρ2, RS X.K P H0 al2 H' σ' ρ2 /\ Wk X.K al2 H' J ds /\ okS X.K P H0 E D al2 H' (forD a gb (ds.drop (i + 1)) ρ2), fun σ' H' ⟨al3, ρ3, z1, z2, z3⟩ => ⟨ds.length - (i + 1), by omega, al3, ρ3, z1, z2, z3, rfl⟩, fun x H3 y => ?_⟩
    obtain ⟨rfl, rx⟩ := yl x H3 y
    unfold forD at h2
    cases q : a ds[i] ρ2 with
    | some ρ3 =>
      rw [q] at h2
      refine rg _ _ _ _ _ _ _ _ _ s2 rx ⟨ρ3, q, fun σ3 _ s3 => rb _ _ _ _ _ _ _ s3 (turn_ok (k := forD a gb (ds.drop (i + 1))) h2 fun al' H' σ' ρ' x' s' h' => ⟨al', ρ', s', fun al4 H4 x4 => wk2 al4 H4 (x'.trans x4), h'⟩)⟩
    | none => rw [q] at h2; exact h2.elim
  · left
    have e : ds.drop i = [] := List.drop_eq_nil_of_le (by omega)
    rw [e] at h2
    exact ⟨w2 i (by omega), h2 al2 H2 σ2 .refl s2⟩
end
end P2
namespace P2
open PySem L2
noncomputable def startD (n : Nat) (ds : List D) : Ev := ds.map .sh ++ List.replicate (n - ds.length) .no
noncomputable def finT : RT -> R D
  | .rt d => .ok d
  | .nx _ => .ok .non
  | .ex c ns ds => .ex c ns ds
  | _ => .bad
theorem rs_start {K : W.Frag} {al : Addr -> Prop} {H : Hp} {vs : List V} {ds : List D} {N : List Str} (tt : TbOk K H) (fr : ∀ a, H a = none -> al a) (r : Reps K al H vs ds) : RS K al H al H (L2.start N vs) (startD N.length ds) where
  same := .refl H
  tt := tt
  fresh := fr
  sub := fun _ h => h
  pf := fr
  len := by unfold L2.start startD; simp [r.length]
  sh := fun i d h => by
    unfold startD at h
    by_cases hi : i < ds.length
    · rw [List.getElem?_append_left (by simpa using hi), List.getElem?_map] at h
      cases q : ds[i]? with
      | none => rw [q] at h; cases h
      | some y =>
        rw [q] at h; cases h
        obtain ⟨v, e1, e2⟩ := r.getD q
        refine ⟨v, ?_, e2⟩
        unfold L2.start
        rw [List.getElem?_append_left (by simpa [r.length] using hi), List.getElem?_map, e1]; rfl
    · rw [List.getElem?_append_right (by simpa using hi), List.getElem?_replicate] at h
      split at h <;> cases h
  ow := fun i d h => by
    unfold startD at h
    by_cases hi : i < ds.length
    · rw [List.getElem?_append_left (by simpa using hi), List.getElem?_map] at h
      cases q : ds[i]? with
      | none => rw [q] at h; cases h
      | some y => rw [q] at h; cases h
    · rw [List.getElem?_append_right (by simpa using hi), List.getElem?_replicate] at h
      split at h <;> cases h
  apart := fun i j d d' a h _ _ _ => by
    unfold startD at h
    by_cases hi : i < ds.length
    · rw [List.getElem?_append_left (by simpa using hi), List.getElem?_map] at h
      cases q : ds[i]? with
      | none => rw [q] at h; cases h
      | some y => rw [q] at h; cases h
    · rw [List.getElem?_append_right (by simpa using hi), List.getElem?_replicate] at h
      split at h <;> cases h
section
variable {P : Program} {w : World} {K : W.Frag} {mg : Str -> Option Value} {base : Heap}
theorem fn_den {x : Str} {st : Stmt} {f : Addr} {fd : FuncData} {N ps : List Str} {k : Nat} {g : Ev -> RT} (F : Fun K x x st f fd) (S : FnScope N ps (defScope st))
    (body : ∀ (cdv : Value) (A : Around) (outer : List Env) (s : Shared) (H : Hp) (E : XK), Room k (cxOf (CXx P w) P w K mg base N x (defScope st) f cdv A outer s H E).A -> DSs (cxOf (CXx P w) P w K mg base N x (defScope st) f cdv A outer s H E) E (defBody st) g) :
    FnOk P w K mg base (CXx P w) (k + 1) f fd ps (spD ps.length K fun ds => finT (g (startD N.length ds))) := by
  refine F.okX S (fun vs H Q E h => h.1) (fun cdv A outer s H vs Q E hr h => ?_)
  obtain ⟨hl, tt, al, ds, fr, rv, h⟩ := h
  obtain ⟨t, p, r⟩ := body cdv A outer s H E hr
  dsimp only at h
  refine ⟨t, p, r al H al H (L2.start N vs) (startD N.length ds) _ (rs_start tt fr rv) ?_⟩
  cases q : g (startD N.length ds) with
  | nx ρ => rw [q] at h; exact fun al' H' σ' _ s' => h H' s'.same .non .non
  | rt d => rw [q] at h; exact fun v H' s' rv => h H' s' v rv
  | ex c ns es => rw [q] at h; exact h
  | bk ρ => rw [q] at h; exact h.elim
  | ct ρ => rw [q] at h; exact h.elim
  | bad => rw [q] at h; exact h.elim
theorem Has.up {j k : Nat} {x : Str} {ps : List Str} {sp : Sp} (G : Has P w K mg base (CXx P w) j x ps sp) (h : j <= k) : Has P w K mg base (CXx P w) k x ps sp := let ⟨f, fd, fo, r⟩ := G; ⟨f, fd, fo.mono h, r⟩
variable {N : List Str} {qual : Str} {scope : Scope} {f : Addr} {cd : Value} {A : Around} {outer : List Env} {s : Shared} {H : Hp} {E : XK}
end
noncomputable def hasT (T : String) : D -> Bool
  | .str _ => T == "str"
  | .int _ => T == "int"
  | .lst _ => T == "list"
  | _ => false
theorem hasT_ty {K : W.Frag} {al : Addr -> Prop} {H : Hp} {v : V} {d : D} {T : String} (r : Rep K al H v d) (h : hasT T d = true) : tyV K T v H := by
  cases r with
  | str x => exact beq_iff_eq.mp h
  | int x => exact beq_iff_eq.mp h
  | lst p q => exact .inl ⟨beq_iff_eq.mp h, _, p.elim (fun z => .inl z.2) KL.sq⟩
  | _ => exact absurd h (by simp [hasT])
noncomputable def dMt (T : String) (g : D -> List D -> R D) (o : Ev -> R D) (a : Ev -> R (List D)) : Ev -> R D := fun ρ => (o ρ).bind fun x => if hasT T x = true then (a ρ).bind fun xs => g x xs else .bad
section
variable {X : Cx} {E : XK} {o e : Expr} {es : List Expr} {fo : Ev -> R D} {fs : Ev -> R (List D)} {name : Str} {apos cpos : Pos} {T id : String} {g : D -> List D -> R D}
theorem de_bm (pa : PlainAttrs T) (slot : Slot T name id) (hty : typeOf (.builtin id) = pure (.type "method_descriptor")) (hm : MtD X E T id g) (ho : DE X E o fo) (ha : DA X E (e :: es) fs)
    (hbase : attributeBase o name X.env (eval o X.env) = eval o X.env := by rfl)
    (hfew : ((backTo cpos (starEach (e :: es) X.env)).all (fun x => !x.1) && (backToKw cpos (keywordEach [] X.env)).all (fun x => x.1.isSome)
      && decide ((e :: es).length + ([] : List Keyword).length + (if ([] : List Keyword).isEmpty then 0 else 1) < 30)) = true := by rfl)
    (hline : (apos.endLine == cpos.line) = true := by rfl) (hs : starEach (e :: es) X.env = (false, eval e X.env) :: starEach es X.env := by rfl) (hplain : (backTo cpos (starEach es X.env)).any (·.1) = false := by rfl) :
    DE X E (.Call (.Attribute o name apos) (e :: es) [] cpos) (dMt T g fo fs) := by
  obtain ⟨r, rm, rr⟩ := hm
  obtain ⟨to, po, ro⟩ := ho
  obtain ⟨ta, qa, ra, _⟩ := ha
  refine ⟨_, pe_bm pa slot hty rm po qa hbase hfew hline hs hplain, fun P H0 al H σ ρ Q s h => ro _ _ _ _ _ _ _ s (Aft.mono (Aft.split h) fun x H1 s1 h1 v rv => ?_)⟩
  by_cases z : hasT T x = true
  · rw [if_pos z] at h1
    exact ⟨hasT_ty rv z, ra _ _ _ _ _ _ _ (s.grow s1) (Aft.mono (Aft.split h1) fun xs H2 s2 h2 vs rvs => rr _ _ _ _ _ _ _ ((s.grow s1).grow s2).fresh (rv.up s2) rvs h2)⟩
  · rw [if_neg z] at h1
    exact h1.elim
noncomputable def DO (X : Cx) (E : XK) (e : Option Expr) (f : Ev -> R (Option Int)) : Prop := ∃ t : TO, PO X e t /\
  ∀ P H0 al H σ ρ (Q : Option Int -> Hp -> Prop), RS X.K P H0 al H σ ρ -> Aft X.K al E H (f ρ) Q -> t σ H Q
noncomputable def SlD (X : Cx) (E : XK) (g : D -> Option Int -> Option Int -> R D) : Prop := ∃ r, SlR X r /\
  ∀ al H x dx lo hi (Q : VK), (∀ a, H a = none -> al a) -> Rep X.K al H x dx -> Aft X.K al E H (g dx lo hi) (fun d H' => ∀ v, Rep X.K al H' v d -> Q v H') -> r x lo hi H Q
noncomputable def pI (d : D) : R (Option Int) := match d with
  | .int i => .ok (some i)
  | _ => .bad
theorem do_none : DO X E none (fun _ => .ok none) := ⟨_, po_none, fun _ _ _ H _ _ _ _ h => h H (.refl H)⟩
theorem do_some (h : DE X E e fo) : DO X E (some e) (fun ρ => (fo ρ).bind pI) := by
  obtain ⟨t, p, r⟩ := h
  refine ⟨_, po_some p, fun P H0 al H σ ρ Q s h => r _ _ _ _ _ _ _ s (Aft.mono (Aft.split h) fun x H1 s1 h1 v rv => ?_)⟩
  cases rv with
  | int i => exact ⟨i, rfl, h1 H1 (.refl H1)⟩
  | _ => exact (h1 : False).elim
noncomputable def dSl (g : D -> Option Int -> Option Int -> R D) (a : Ev -> R D) (l u : Ev -> R (Option Int)) : Ev -> R D := fun ρ => (a ρ).bind fun x => (l ρ).bind fun i => (u ρ).bind fun j => g x i j
theorem de_slice {g : D -> Option Int -> Option Int -> R D} {lo hi : Option Expr} {fl fu : Ev -> R (Option Int)} {pos p2 : Pos} (hr : SlD X E g) (he : DE X E e fo) (hl : DO X E lo fl) (hu : DO X E hi fu) : DE X E (.Subscript e (.Slice lo hi none p2) pos) (dSl g fo fl fu) := by
  obtain ⟨r, rm, rr⟩ := hr
  obtain ⟨to, po, ro⟩ := he
  obtain ⟨tl, pl, rl⟩ := hl
  obtain ⟨tu, pu, ru⟩ := hu
  refine ⟨_, pe_slice rm po pl pu, fun P H0 al H σ ρ Q s h => ro _ _ _ _ _ _ _ s (Aft.mono (Aft.split h) fun x H1 s1 h1 v rv => ?_)⟩
  refine rl _ _ _ _ _ _ _ (s.grow s1) (Aft.mono (Aft.split h1) fun i H2 s2 h2 => ru _ _ _ _ _ _ _ ((s.grow s1).grow s2) (Aft.mono (Aft.split h2) fun j H3 s3 h3 => ?_))
  exact rr _ _ _ _ _ _ _ (((s.grow s1).grow s2).grow s3).fresh ((rv.up s2).up s3) h3
end
theorem pi_or {X : Cx} {tg iter : Expr} {w1 w2 : TI} (h1 : PI X tg iter w1) (h2 : PI X tg iter w2) : PI X tg iter (fun σ H R => w1 σ H R \/ w2 σ H R) := fun pins s σ H R I h => h.elim (h1 pins s σ H R I) (h2 pins s σ H R I)
section
variable {X : Cx} {E : XK} {tg e : Expr} {f : Ev -> R D}
theorem wk_list {K : W.Frag} {al : Addr -> Prop} {H : Hp} {a : Addr} {ds : List D} (r : Rep K al H (.ref a) (.lst ds)) : Wk K al H (Itl K a) ds := by
  intro al' H' x fr
  obtain ⟨a', vs, e, q, rs⟩ := (r.mv x).lstIn
  cases e
  refine ⟨fun i d h => ?_, fun i h => ⟨vs, q, by rw [rs.length]; exact h⟩⟩
  obtain ⟨v, e1, e2⟩ := rs.getD h
  refine ⟨⟨vs, v, q, e1⟩, fun y H'' z => ⟨z.1, ?_⟩⟩
  have := z.2 vs q
  rw [e1] at this; cases this
  exact e2
theorem wk_tup {K : W.Frag} {al : Addr -> Prop} {H : Hp} {a : Addr} {ds : List D} (r : Rep K al H (.ref a) (.tup ds)) : Wk K al H (Itt K a) ds := by
  intro al' H' x fr
  obtain ⟨a', vs, e, q, rs⟩ := (r.mv x).tupIn
  cases e
  refine ⟨fun i d h => ?_, fun i h => ⟨vs, q, by rw [rs.length]; exact h⟩⟩
  obtain ⟨v, e1, e2⟩ := rs.getD h
  refine ⟨⟨vs, v, q, e1⟩, fun y H'' z => ⟨z.1, ?_⟩⟩
  have := z.2 vs q
  rw [e1] at this; cases this
  exact e2
noncomputable def rangeL (lo : Int) (n : Nat) : List D := (List.range n).map fun (k : Nat) => D.int (lo + (k : Int))
theorem wk_range {K : W.Frag} {al : Addr -> Prop} {H : Hp} {lo : Int} {n : Nat} : Wk K al H (Itr lo n) (rangeL lo n) := by
  intro al' H' x fr
  refine ⟨fun i d h => ?_, fun i h => ?_⟩
  · unfold rangeL at h
    rw [List.getElem?_map] at h
    by_cases hi : i < n
    · rw [List.getElem?_range hi] at h
      cases h
      exact ⟨hi, fun y H'' z => ⟨z.1, by rw [z.2]; exact .int _⟩⟩
    · rw [List.getElem?_eq_none (by simpa using hi)] at h; cases h
  · unfold rangeL at h
    show n <= i
    simpa using h
noncomputable def rng1 (ds : List D) : R (List D) := match ds with
  | [.int j] => if -(2 ^ 62) <= j /\ j < 2 ^ 62 then .ok (rangeL 0 j.toNat) else .bad
  | _ => .bad
theorem di_range1 {a : Expr} {fs : Ev -> R (List D)} {p pos : Pos} (hg : Gl X "range") (hm : X.mg "range" = none) (ha : DA X E [a] fs) (hs : starEach [a] X.env = [(false, eval a X.env)] := by rfl) : DI X E tg (.Call (.Name "range" p) [a] [] pos) (fun ρ => (fs ρ).bind rng1) := by
  obtain ⟨t, q, r, _⟩ := ha
  refine ⟨_, pi_range1 hg hm q hs, fun P H0 al H σ ρ R s h => r _ _ _ _ _ _ _ s (Aft.mono (Aft.split h) fun ds H1 s1 h1 vs rv => ?_)⟩
  unfold rng1 at h1
  split at h1
  · rename_i j
    cases rv with
    | cons r1 r2 =>
      cases r2; cases r1
      split at h1
      · rename_i z
        exact ⟨j, rfl, z.1, z.2, h1 H1 (.refl H1) _ wk_range⟩
      · exact h1.elim
  · exact h1.elim
end
section
variable {K : W.Frag} {P al : Addr -> Prop} {H0 H : Hp} {σ : St} {ρ : Ev}
end
section
variable {X : Cx} {E : XK} {e : Expr} {sts : List Stmt} {st : Stmt} {g : Ev -> RT} {f : Ev -> R D} {fn : Ev -> R (List D)} {pos : Pos}
noncomputable def noEx {α : Type} (r : R α) : R α := match r with
  | .ok a => .ok a
  | _ => .bad
end
section
variable {P : Program} {w : World} {K : W.Frag} {mg : Str -> Option Value} {base : Heap} {N : List Str} {qual : Str} {scope : Scope} {f : Addr} {cd : Value} {A : Around} {outer : List Env} {s : Shared} {H : Hp} {E : XK}
theorem ds_raiseI {x : Str} {C fI : Addr} {field : Str} {k : Nat} {fdI : FuncData} {p1 p2 : Str} {np cpos pos : Pos} {arg : Expr} {fs : Ev -> R (List D)} (c : XCls K C fI field) (FI : FnOk P w K mg base CX0 k fI fdI [p1, p2] (spXI C field)) (bI : Binds K fdI [p1, p2] [])
    (hr : Room (k + 1) (cxOf (CXx P w) P w K mg base N qual scope f cd A outer s H E).A) (hg : Gl (cxOf (CXx P w) P w K mg base N qual scope f cd A outer s H E) x) (hm : mg x = some (.ref C)) (ha : DA (cxOf (CXx P w) P w K mg base N qual scope f cd A outer s H E) E [arg] fs)
    (hdb : (x == ("__debug__" : Str)) = false := by decide)
    (he : starEach [arg] (cxOf (CXx P w) P w K mg base N qual scope f cd A outer s H E).env = (false, eval arg (cxOf (CXx P w) P w K mg base N qual scope f cd A outer s H E).env) :: starEach [] (cxOf (CXx P w) P w K mg base N qual scope f cd A outer s H E).env := by rfl)
    (hpl : (backTo cpos (starEach [] (cxOf (CXx P w) P w K mg base N qual scope f cd A outer s H E).env)).any (·.1) = false := by rfl) :
    DS (cxOf (CXx P w) P w K mg base N qual scope f cd A outer s H E) E (.Raise (some (.Call (.Name x np) [arg] [] cpos)) none pos) (fun ρ => toS (fs ρ) fun ds => .ex C [field] ds) := by
  obtain ⟨t, p, r, l⟩ := ha
  refine ⟨_, ps_raiseI c FI bI hr hg hm p hdb he hpl, fun P0 H0 al H1 σ ρ D s1 h => r _ _ _ _ _ _ _ s1 ?_⟩
  dsimp only at h
  cases q : fs ρ with
  | bad => rw [q] at h; exact h.elim
  | ex c ns ds => rw [q] at h; exact fun dx H2 s2 z => h dx H2 (s1.same.trans s2) (z.mv (.sub s1.sub))
  | ok ds =>
    rw [q] at h
    intro H2 s2 vs rv
    have hl := l ρ ds q
    cases rv with
    | nil => cases hl
    | cons r1 r2 =>
      cases r2 with
      | cons _ _ => cases hl
      | nil =>
        refine ⟨_, rfl, fun dx hdx => h (some dx) _ ((s1.same.trans s2).trans (same_upd hdx)) ⟨s1.sub _ ((s1.grow s2).fresh dx hdx), [_], upd_same, ?_⟩⟩
        exact .cons ((r1.up (same_upd hdx)).mv (.sub s1.sub)) .nil
theorem ds_raise0 {x : Str} {C : Addr} {bmB : List Value} {B newId initId : String} {np cpos pos : Pos} (FB : ExcBaseFacts B newId initId bmB) (q : W.excIn K C bmB newId = true)
    (hg : Gl (cxOf (CXx P w) P w K mg base N qual scope f cd A outer s H E) x) (hm : mg x = some (.ref C)) (hdb : (x == ("__debug__" : Str)) = false := by decide) :
    DS (cxOf (CXx P w) P w K mg base N qual scope f cd A outer s H E) E (.Raise (some (.Call (.Name x np) [] [] cpos)) none pos) (fun _ => .ex C [] []) :=
  ⟨_, ps_raise0 FB q hg hm hdb, fun P0 H0 al H1 σ ρ D s1 h => h none H1 s1.same ⟨rfl, rfl⟩⟩
end
section
variable {X : Cx} {E : XK}
noncomputable def DX (X : Cx) (e : Expr) (f : Ev -> R D) : Prop := ∃ t : TX, EX X e t /\
  ∀ P H0 al H σ ρ (Q : VK) (R : XK), RS X.K P H0 al H σ ρ -> Aft X.K al R H (f ρ) (fun d H' => ∀ v, Rep X.K al H' v d -> Q v H') -> t σ H Q R
noncomputable def dAx (F : List D -> R D) (fs : Ev -> R (List D)) : Ev -> R D := fun ρ => match fs ρ with
  | .ok ds => F ds
  | _ => .bad
theorem dx_call {k n : Nat} {x : Str} {ps : List Str} {F : List D -> R D} {e : Expr} {es : List Expr} {fs : Ev -> R (List D)} {p pos : Pos} (G : Has X.prog X.w X.K X.mg X.base (CXx X.prog X.w) k x ps (spD n X.K F)) (hr : Room k X.A) (hg : Gl X x) (hn : (e :: es).length = n) (ha : DA X.nox (fun _ _ _ => False) (e :: es) fs)
    (hex : X.ex = [] := by rfl) (hdb : (x == ("__debug__" : Str)) = false := by decide)
    (he : starEach (e :: es) X.env = (false, eval e X.env) :: starEach es X.env := by rfl) (hpl : (backTo pos (starEach es X.env)).any (·.1) = false := by rfl) : DX X (.Call (.Name x p) (e :: es) [] pos) (dAx F fs) := by
  obtain ⟨ta, pa, ra, lb⟩ := ha
  refine ⟨_, ex_has G hr hg pa hex hdb he hpl, fun P H0 al H σ ρ Q R s h => ra P H0 al H σ ρ _ s ?_⟩
  unfold dAx at h
  cases q : fs ρ with
  | ok ds =>
    rw [q] at h
    intro H1 s1 vs rv
    rw [List.append_nil]
    exact ⟨by rw [rv.length, lb ρ ds q]; exact hn, (s.grow s1).tt, al, ds, (s.grow s1).fresh, rv, Aft.up h s1⟩
  | ex c ns ds => rw [q] at h; exact h.elim
  | bad => rw [q] at h; exact h.elim
noncomputable def DB (X : Cx) (body : List Stmt) (f : Ev -> R Ev) : Prop := ∃ t : TB, BX X body t /\
  ∀ P H0 al H σ ρ (D : Ends) (R : St -> XK), RS X.K P H0 al H σ ρ -> Aft X.K al (R σ) H (f ρ) (fun ρ' H' => ∀ σ', RS X.K P H0 al H' σ' ρ' -> D.nx σ' H') -> t D R σ H
theorem db_expr {e : Expr} {f : Ev -> R D} {pos : Pos} (he : DX X e f) (hs : swapsWith e none pos.line X.env = pure false := by rfl) : DB X [.Expr e pos] (fun ρ => (f ρ).bind fun _ => .ok ρ) := by
  obtain ⟨t, p, r⟩ := he
  exact ⟨_, bx_expr p hs, fun P H0 al H σ ρ D R s h => r _ _ _ _ _ _ _ _ s (Aft.mono (Aft.split h) fun d H1 s1 h1 v rv => h1 H1 (.refl H1) σ (s.grow s1))⟩
noncomputable def calmT (i : Nat) : RT -> RT
  | .nx ρ => .nx (ρ.set i .no)
  | .rt d => .rt d
  | _ => .bad
noncomputable def sTryAs (i : Nat) (mt : Addr -> Bool) (f : Ev -> R Ev) (g : Ev -> RT) : Ev -> RT := fun ρ => match f ρ with
  | .ok ρ' => .nx ρ'
  | .ex c ns ds => if mt c = true /\ i < ρ.length then calmT i (g (ρ.set i (.sh (.exc c ns ds)))) else .bad
  | .bad => .bad
theorem ds_tryAs {body suite : List Stmt} {b0 : Stmt} {fb : Ev -> R Ev} {g : Ev -> RT} {x n : Str} {C : Addr} {np hpos pos : Pos} (i : Nat) (mt : Addr -> Bool) (hX : X.stack = X.env :: X.outer) (hfr : X.env.frame = some X.env.locals) (hN : X.N.Nodup) (hi : X.N[i]? = some n) (hk : X.env.scope.names.lookup n = some .local)
    (hb : DB X body fb) (hs : ∀ ea, DSs (X.suite ea).nox (fun _ _ _ => False) (b0 :: suite) g)
    (hmt : ∀ (h : Heap) (g : Array GenState) (d : Drawn) (tk : Nat) (os : OsState) (e Ce : Addr) (oe : Obj) (M : Model) (A : Around) (E : Value -> Shared -> Prop) (Q : Bool -> Shared -> Prop), X.K.In h -> mt Ce = true -> h.get? e = some oe -> oe.cls = .ref Ce -> Q true ⟨h, g, d, tk, os⟩ -> wpAny M A (excMatches (.ref e) (.ref C)) Q E ⟨h, g, d, tk, os⟩)
    (hg : Gl X x) (hm : X.mg x = some (.ref C)) (hf : X.fn n = true \/ X.env.scope.names.lookup n = some .local := by first | exact .inl rfl | exact .inr rfl | assumption) (hdb : (x == ("__debug__" : Str)) = false := by decide) :
    DS X E (.Try body [.ExceptHandler (some (.Name x np)) (some n) (b0 :: suite) hpos] [] [] pos) (sTryAs i mt fb g) := by
  obtain ⟨tb, pb, rb⟩ := hb
  refine ⟨_, ps_tryAs (mt := fun c => mt c = true) (ts := fun D σ H => ∃ P H0 al ρ, RS X.K P H0 al H σ ρ /\ okS X.K P H0 (fun _ _ _ => False) D al H (g ρ)) hX hfr hN hi hk pb (fun ea => ?_) hmt hg hm hf hdb, fun P H0 al H σ ρ D s h => ?_⟩
  · obtain ⟨t, p, r⟩ := hs ea
    intro pins s1 σ1 H1 D1 I1 h1
    obtain ⟨P, H0, al, ρ, s, h⟩ := h1
    exact p pins s1 σ1 H1 D1 I1 (r P H0 al H1 σ1 ρ D1 s h)
  · refine rb _ _ _ _ _ _ _ _ s ?_
    unfold sTryAs at h
    cases q : fb ρ with
    | bad => rw [q] at h; exact h.elim
    | ok ρ' => rw [q] at h; exact fun H1 s1 σ' s' => h al H1 σ' (.of s1) s'
    | ex c ns ds =>
      rw [q] at h
      intro dx H1 s1 xr
      dsimp only at h
      by_cases z : mt c = true /\ i < ρ.length
      · rw [if_pos z] at h
        refine ⟨c, rfl, z.1, fun ea hea => ?_⟩
        have sm : Same X.K H1 (upd H1 ea (excX ea c dx)) := same_upd hea
        have rp : Rep X.K al (upd H1 ea (excX ea c dx)) (.ref ea) (.exc c ns ds) := by
          cases dx with
          | none => obtain ⟨rfl, rfl⟩ := xr; exact .exc0 ((s.grow s1).fresh ea hea) upd_same
          | some d =>
            obtain ⟨a1, vs, a2, a3⟩ := xr
            exact .exc ((s.grow s1).fresh ea hea) upd_same a1 (sm.at' _ _ nt_xd a2) (a3.up sm)
        refine ⟨P, H0, al, _, ((s.grow s1).grow sm).set z.2 rp, ?_⟩
        cases q2 : g (ρ.set i (.sh (.exc c ns ds))) with
        | nx ρ2 => rw [q2] at h; exact fun al' H' σ' x' s' => h al' H' _ ((Xt.of (s1.trans sm)).trans x') s'.drop
        | rt d => rw [q2] at h; exact h
        | bk _ => rw [q2] at h; exact h.elim
        | ct _ => rw [q2] at h; exact h.elim
        | ex _ _ _ => rw [q2] at h; exact h.elim
        | bad => rw [q2] at h; exact h.elim
      · rw [if_neg z] at h; exact h.elim
end
end P2
namespace L2
open PySem PySem.Spec PyProof.Rows
section
variable {prog : Program} {w : World} {A : Around} {R : Result -> Shared -> Prop} {s : Shared}
theorem comp_loop {elt target iter : Expr} {ifs : List Expr} {scope : Scope} {pos : Pos} {it acc : Value} {env : Env} (I : Nat -> Shared -> Prop)
    (turn : ∀ n s, I n s -> wpAny (model prog w) A (pyNext it) (fun r s₁ => match r with
      | none => R (.ok .next) s₁
      | some v => wpAny (model prog w) A (letOwnedTupleGo target it v) (fun _ s₀ => wpAny (model prog w) A (assign target env v) (fun _ s₂ =>
          wpAny (model prog w) A (forIn ifs true fun c r => if r = true then do let ok ← isTrue c env (eval c env); pure (ForInStep.yield ok) else pure (ForInStep.yield r)) (fun ok s₃ =>
            if ok = true then wpAny (model prog w) A (eval elt env) (fun x s₄ =>
              wpAny (model prog w) A (call (.builtin "list.append") [acc, x]) (fun _ s₅ => ∃ m, m < n /\ I m s₅) (notedBy (model prog w) A env fun e s' => R (.error e) s') s₄) (notedBy (model prog w) A env fun e s' => R (.error e) s') s₃
            else ∃ m, m < n /\ I m s₃) (notedBy (model prog w) A env fun e s' => R (.error e) s') s₂) (notedBy (model prog w) A env fun e s' => R (.error e) s') s₀) (notedBy (model prog w) A env fun e s' => R (.error e) s') s₁) (notedBy (model prog w) A env fun e s' => R (.error e) s') s)
    (n : Nat) (h : I n s) : codeAny (model prog w) A (.compLoop (.ListComp elt [⟨target, iter, ifs, 0⟩] scope pos) 0 it acc env) R s := by
  refine codeAny_loop rfl I (fun n s hI => ?_) n h
  show wpAny _ A ((compTurn (.ListComp elt [⟨target, iter, ifs, 0⟩] scope pos) 0 it acc env).onRaise (fun x => do noteFrame x env; theTreesLotGoes x)) _ _ s
  refine wpAny_noted ?_
  rw [compTurn_list]
  refine wpAny_bind (wpAny_standAt (wpAny_bind (wpAny_mono (turn n s hI) (fun r s₁ h₁ => ?_) fun _ _ h' => h')))
  cases r with
  | none => exact wpAny_pure h₁
  | some v =>
    refine wpAny_bind (wpAny_mono h₁ (fun _ s₀ h₀ => ?_) fun _ _ h' => h')
    refine wpAny_bind (wpAny_mono h₀ (fun _ s₂ h₂ => wpAny_bind (wpAny_mono h₂ (fun ok s₃ h₃ => ?_) fun _ _ h' => h')) fun _ _ h' => h')
    cases ok with
    | false => exact wpAny_pure ⟨rfl, h₃⟩
    | true =>
      exact wpAny_bind (wpAny_bind (wpAny_mono h₃ (fun x s₄ h₄ => wpAny_bind (wpAny_mono h₄ (fun _ s₅ h₅ => wpAny_pure (wpAny_pure ⟨rfl, h₅⟩)) fun _ _ h' => h')) fun _ _ h' => h'))
end
noncomputable abbrev Cx.comp (X : Cx) (scope : Scope) (N' : List Str) (cl : List (Str × Addr)) (fp : List Addr) (s3 : Shared) (H3 : Hp) (C : Addr) : Cx :=
  { X with N := N', s₀ := s3, H₀ := H3, env := compEnvC scope cl C X.env, outer := X.stack, ex := fp, fn := fun _ => false, pn := [], xe := fun _ _ => False }
inductive Caps (X : Cx) (cl : List (Str × Addr)) : List Str -> List Nat -> Prop
  | nil : Caps X cl [] []
  | cons {x : Str} {i : Nat} {N : List Str} {ci : List Nat} : X.N[i]? = some x -> (X.env.kindOf x = some .cell \/ X.env.kindOf x = some .free) -> cl.lookup x = X.env.cells.lookup x -> Caps X cl N ci -> Caps X cl (x :: N) (i :: ci)
theorem Caps.length {X : Cx} {cl : List (Str × Addr)} {N : List Str} {ci : List Nat} (h : Caps X cl N ci) : N.length = ci.length := by
  induction h with
  | nil => rfl
  | cons _ _ _ _ ih => rw [List.length_cons, List.length_cons, ih]
theorem Caps.get {X : Cx} {cl : List (Str × Addr)} {N : List Str} {ci : List Nat} (h : Caps X cl N ci) {k : Nat} {x : Str} (e : N[k]? = some x) : ∃ i, ci[k]? = some i /\ X.N[i]? = some x /\ (X.env.kindOf x = some .cell \/ X.env.kindOf x = some .free) /\ cl.lookup x = X.env.cells.lookup x := by
  induction h generalizing k with
  | nil => simp at e
  | cons h1 h2 h3 _ ih =>
    cases k with
    | zero => simp at e; subst e; exact ⟨_, rfl, h1, h2, h3⟩
    | succ k => simpa using ih (by simpa using e)
noncomputable def capS (tn : Nat) (ci : List Nat) (σ : St) : St := List.replicate tn none ++ ci.map fun i => (σ[i]?).getD none
theorem capS_some {tn : Nat} {ci : List Nat} {σ : St} {j : Nat} {v : V} (h : (capS tn ci σ)[j]? = some (some v)) : ∃ k i, j = tn + k /\ ci[k]? = some i /\ σ[i]? = some (some v) := by
  unfold capS at h
  by_cases hj : j < tn
  · rw [List.getElem?_append_left (by simpa using hj), List.getElem?_replicate, if_pos hj] at h; cases h
  · rw [List.getElem?_append_right (by simpa using hj), List.length_replicate, List.getElem?_map] at h
    cases q : ci[j - tn]? with
    | none => rw [q] at h; cases h
    | some i =>
      rw [q] at h
      refine ⟨j - tn, i, by omega, q, ?_⟩
      have h' : (σ[i]?).getD none = some v := Option.some.inj h
      cases z : σ[i]? with
      | none => rw [z] at h'; cases h'
      | some y => rw [z] at h'; exact congrArg some h'
theorem capS_length {tn : Nat} {ci : List Nat} {σ : St} : (capS tn ci σ).length = tn + ci.length := by unfold capS; simp
noncomputable def tComp (wi : TI) (tn : Nat) (ci : List Nat) (g : TG) (tc : TT) (te : TE) : TE := fun σ H Q => wi σ H fun J H1 => ∀ l, H1 l = none -> ∃ W : Nat -> Nat -> Hp -> Prop, (∃ m, W 0 m (upd H1 l (.lst []))) /\ ∀ i m H2, W i m H2 ->
  (J.stop i H2 /\ Q (.ref l) H2) \/ (J.go i H2 /\ ∀ x H3, J.yld i H2 x H3 -> g x (capS tn ci σ) H3 fun σ2 H4 => (σ2.length = tn + ci.length /\ ∀ j, tn <= j -> σ2[j]? = (capS tn ci σ)[j]?) /\ tc σ2 H4 fun b H5 =>
    if b = true then te σ2 H5 fun v H6 => ∃ acc, H6 l = some (.lst acc) /\ acc.length < sizeLine /\ ∃ m', m' < m /\ W (i + 1) m' (upd H6 l (.lst (acc ++ [v]))) else ∃ m', m' < m /\ W (i + 1) m' H5)
noncomputable def PF (X : Cx) (ifs : List Expr) (t : TT) : Prop :=
  ∀ (pins : List (Addr × Obj)) (s : Shared) (σ : St) (H : Hp) (Q : Bool -> Hp -> Prop), Inv X pins σ H s -> t σ H Q ->
    wpAny (model X.prog X.w) X.A (forIn ifs true fun c r => if r = true then do let ok ← isTrue c X.env (eval c X.env); pure (ForInStep.yield ok) else pure (ForInStep.yield r)) (TP X pins σ Q) X.xe s
theorem pf_nil {X : Cx} : PF X [] (fun _ H Q => Q true H) := fun _ _ _ H _ I h => wpAny_tests_nil ⟨H, I, h⟩
theorem pf_one {X : Cx} {c : Expr} {t : TT} (h : PT X c t) : PF X [c] t := fun pins s σ H Q I hq => wpAny_tests_one (h pins s σ H Q I hq)
section
variable {X : Cx} {tg iter elt : Expr} {ifs : List Expr} {scope : Scope} {pos : Pos} {wi : TI} {g : TG} {tc : TT} {te : TE} {cl : List (Str × Addr)} {tn : Nat} {Nt Nc : List Str} {ci : List Nat}
theorem comp_run {pins : List (Addr × Obj)} {s : Shared} {σ : St} {H : Hp} {Q : VK} {RR : Value -> Addr -> Result -> Shared -> Prop} (I : Inv X pins σ H s) (hc : X.calm = true) (hi : PI X tg iter wi)
    (hg : ∀ fp s3 H3 C, PG (X.comp scope (Nt ++ Nc) cl fp s3 H3 C) tg g) (hf : ∀ fp s3 H3 C, PF (X.comp scope (Nt ++ Nc) cl fp s3 H3 C) ifs tc) (he : ∀ fp s3 H3 C, PE (X.comp scope (Nt ++ Nc) cl fp s3 H3 C) elt te)
    (hkind : scope.kind = .function) (hcell : ∀ y ∈ scope.names, y.2 ≠ .cell) (hcap : Caps X cl Nc ci) (hNt : Nt.length = tn)
    (hsub : ∀ x c, cl.lookup x = some c -> X.env.cells.lookup x = some c) (hhas : ∀ x, ((relabel scope X.env).names.lookup x = some .cell \/ (relabel scope X.env).names.lookup x = some .free) -> ∃ c, cl.lookup x = some c)
    (hvis : ∀ x ∈ Nc, (relabel scope X.env).names.lookup x = some .cell \/ (relabel scope X.env).names.lookup x = some .free)
    (h : tComp wi tn ci g tc te σ H Q)
    (fin : ∀ l C H' s' m, s'.heap.Ns C m -> Inv X pins σ H' s' -> H' C = none -> C ≠ X.env.locals -> X.s₀.heap.objs.size <= C -> (∀ x c, X.env.cells.lookup x = some c -> c ≠ C) -> (∀ p ∈ X.pn ++ pins, p.1 ≠ C) -> Q (.ref l) H' -> RR (.ref l) C (.ok .next) s') :
    wpAny (model X.prog X.w) X.A (eval iter X.env) (fun x s₁ => wpAny (model X.prog X.w) X.A (pyIter x) (fun it s₂ => wpAny (model X.prog X.w) X.A (newList []) (fun acc s₃ =>
      wpAny (model X.prog X.w) X.A (newFunctionEnv scope X.env.globals cl [] X.env.qual none .none (some X.env)) (fun cenv s₄ =>
        codeAny (model X.prog X.w) X.A (.compStart (.ListComp elt [⟨tg, iter, ifs, 0⟩] scope pos) 0 it acc { cenv with scope := relabel scope X.env }) (RR acc cenv.locals) s₄) X.xe s₃) X.xe s₂) X.xe s₁) X.xe s := by
  refine thn (hi pins s σ H _ I h) fun v s1 h1 => thn h1 fun itv s2 h2 => ?_
  obtain ⟨it, fp, tk, J, H2, rfl, I2, T, st2, f2, hW⟩ := h2
  refine wpAny_newObj_type (wpAny_newFunctionEnv hcell (by intro y hy; simp at hy) (fun h₁ hns₁ hsb₁ => ?_) hkind)
  dsimp only at hns₁ hsb₁ ⊢
  generalize hG : s2.heap.push { cls := .type "list", dict := none, data := .seq ([] : List Value).toArray } = G at hns₁ hsb₁ ⊢
  have hGs : G.objs.size = s2.heap.objs.size + 1 := by rw [← hG, Heap.size_push]
  have hl : H2 s2.heap.objs.size = none := I2.hok.fresh (Nat.le_refl _)
  obtain ⟨W, ⟨m0, w0⟩, turn⟩ := hW _ hl
  have I3 : Inv X pins σ (upd H2 s2.heap.objs.size (.lst [])) { s2 with heap := G } := by
    rw [← hG]
    exact I2.laid (t' := s2.toks) (fun b u e => Heap.get?_push_of_some _ e) (Nat.le_refl _) ⟨Nat.zero_le _, [], 0, .nil, Heap.get?_push_size _ rfl⟩
  generalize hH3 : upd H2 s2.heap.objs.size (.lst []) = H3 at w0 I3
  have keep : ∀ b o, G.get? b = some o -> h₁.get? b = some o := fun b o e => hsb₁.extBut b o (Nat.ne_of_lt (Heap.lt_size e)) (Heap.get?_push_of_some _ e)
  have lt2 : ∀ b ∈ fp, b < s2.heap.objs.size := fun b hb => by
    obtain ⟨o, e, _⟩ := T.obj 0 _ st2 b hb
    exact Heap.lt_size e
  have fpC : ∀ b ∈ fp, b ≠ G.objs.size := fun b hb => Nat.ne_of_lt (Nat.lt_of_lt_of_le (lt2 b hb) (by rw [hGs]; exact Nat.le_succ _))
  have fpH : ∀ b ∈ fp, H3 b = none := fun b hb => by
    rw [← hH3, upd_ne (Nat.ne_of_lt (lt2 b hb))]; exact (f2 b hb).1
  let X' := X.comp scope (Nt ++ Nc) cl fp { s2 with heap := G } H3 G.objs.size
  have ok' : X'.Ok := by
    refine ⟨I3.ok.mod, (by show (relabel scope X.env).kind = _; exact hkind), I3.ok.glob, I3.ok.blt, Nat.le_refl _, fun x y c e1 e2 => I3.ok.inj x y c (hsub x c e1) (hsub y c e2), fun x hx => hhas x hx, (fun x c z => nomatch z), I3.ok.hd, I3.ok.frames, .inl rfl, fun b hb => ⟨fpC b hb, fun x c e => (f2 b hb).2.2.2.2.1 x c (hsub x c e)⟩, fun b o e => I3.bs b o e, Nat.le_trans I3.ok.bsz I3.sz, fun b o e hb => ?_, fun b hb z => ?_, I3.stack, I3.stkFree⟩
    · rcases (f2 b hb).2.2.2.1 with z | z
      · exact I3.ok.noex b o e z
      · exact absurd (Nat.lt_of_lt_of_le (Heap.lt_size e) (Nat.le_trans I3.ok.bsz z)) (Nat.lt_irrefl _)
    · rcases List.mem_cons.mp (I3.stkSub b z) with e | e
      · exact (f2 b hb).2.1 e
      · exact (f2 b hb).2.2.1 e
  have J0 : Inv X' [] (capS tn ci σ) H3 { s2 with heap := h₁, toks := s2.toks + 0 } := by
    refine ⟨ok', rfl, I3.bare, Un.kept keep, ⟨_, hns₁, fun i x v e1 e2 e3 => ?_⟩, fun x c e => ?_, I3.hok.fresh (Nat.le_refl _), fun x c e => I3.freeC x c (hsub x c e), fun p hp => absurd (show p ∈ ([] : List (Addr × Obj)) from hp) (by simp), I3.hok.kept keep, ?_⟩
    · obtain ⟨k, j, rfl, q1, q2⟩ := capS_some e2
      have e1' : Nc[k]? = some x := by
        rw [List.getElem?_append_right (by omega)] at e1
        rw [show tn + k - Nt.length = k by omega] at e1; exact e1
      obtain ⟨j', z1, z2, z3, z4⟩ := hcap.get e1'
      rw [q1] at z1; cases z1
      obtain ⟨m, hn, hlk⟩ := I3.loc
      obtain ⟨u, r, lk⟩ := hlk j x v z2 q2 (z3.elim (fun z => .inr (.inl z)) fun z => .inr (.inr z))
      refine ⟨u, r, .inr ⟨hvis x (List.mem_of_getElem? e1'), ?_⟩⟩
      rcases lk with ⟨k1, _⟩ | ⟨_, c, k2, k3⟩
      · rcases z3 with z | z <;> (rw [k1] at z; cases z)
      · refine ⟨c, z4.trans k2, ?_⟩
        obtain ⟨o, ho, hd⟩ := k3
        exact ⟨o, keep _ _ ho, hd⟩
    · obtain ⟨v, o, ho, hd⟩ := I3.cell x c (hsub x c e)
      exact ⟨v, o, keep _ _ ho, hd⟩
    · rw [capS_length]
      show _ = (Nt ++ Nc).length
      rw [List.length_append, hcap.length, hNt]
  have stat : ∀ {pins' : List (Addr × Obj)} {H' : Hp}, (∀ p ∈ pins', p.1 ∉ fp) -> (∀ b ∈ fp, H' b = none) -> ∀ b ∈ fp, FpOk X' pins' H' b := fun {pins' H'} hp hn b hb =>
    ⟨hn b hb, fpC b hb, fun z => ok'.exfs b hb z, .inl hb, fun x c e => (ok'.exf b hb).2 x c e, fun p hpm z => hp p ((List.mem_append.mp hpm).elim (fun w => absurd (show p ∈ ([] : List (Addr × Obj)) from w) (by simp)) fun w => w) (by rw [z]; exact hb)⟩
  have mk : ∀ (s5 : Shared), (∀ i H5, Inv X' [] (capS tn ci σ) H5 s5 -> tk i s5.heap -> (∀ b ∈ fp, H5 b = none) -> ∀ n, W i n H5 ->
      codeAny (model X.prog X.w) X.A (.compLoop (.ListComp elt [⟨tg, iter, ifs, 0⟩] scope pos) 0 (.ref it) (.ref s2.heap.objs.size) (compEnvC scope cl G.objs.size X.env)) (RR (.ref s2.heap.objs.size) G.objs.size) s5) := by
    intro s5 i5 H5 J5 st5 fr5 n5 w5
    refine comp_loop (fun n s' => ∃ i H', Inv X' [] (capS tn ci σ) H' s' /\ tk i s'.heap /\ (∀ b ∈ fp, H' b = none) /\ W i n H') ?_ n5 ⟨i5, H5, J5, st5, fr5, w5⟩
    rintro n s6 ⟨i, H6, J6, st6, fr6, w6⟩
    rcases turn i n H6 w6 with ⟨stop, q⟩ | ⟨go, step⟩
    · refine wpAny_mono (T.done X' rfl rfl rfl hc i [] s6 _ H6 (fun _ _ => False) J6 (stat (by simp) fr6) st6 stop) (fun r s7 ⟨hr, J7⟩ => ?_) fun _ _ z => z.elim
      subst hr
      obtain ⟨m, hn, _⟩ := J7.loc
      have IX : Inv X pins σ H6 s7 := I3.call' (ch := fp) J7.os J7.base J7.hok J7.bare fun b hb => ⟨(f2 b hb).2.2.2.1, (f2 b hb).2.1, (f2 b hb).2.2.2.2.1, (f2 b hb).2.2.2.2.2⟩
      refine fin _ _ H6 s7 m hn IX J7.free (Nat.ne_of_gt I3.lt) (Nat.le_trans I3.sz (Nat.le_refl _)) (fun x c e z => ?_) (fun p hp z => ?_) q
      · obtain ⟨v, o, ho, _⟩ := I3.cell x c e
        exact absurd (Heap.lt_size ho) (by rw [z]; exact Nat.lt_irrefl _)
      · exact absurd (Heap.lt_size (I3.pin p hp).1) (by rw [z]; exact Nat.lt_irrefl _)
    · refine wpAny_mono (T.item X' rfl rfl rfl hc i [] s6 _ H6 (fun _ _ => False) J6 (stat (by simp) fr6) st6 go) (fun r s7 ⟨u, hr, h7⟩ => ?_) fun _ _ z => z.elim
      subst hr
      refine wpAny_mono h7 (fun _ s8 ⟨x, H8, J8, r8, y8, st8, fr8⟩ => ?_) fun _ _ z => z.elim
      have J8' := J8.pinned (stat (by simp) fr8) (T.obj _ _ st8)
      have back : ∀ {σ9 : St} {H9 : Hp} {s9 : Shared}, Inv X' ([] ++ pinsAt fp s8.heap) σ9 H9 s9 -> σ9.length = tn + ci.length -> (∀ j, tn <= j -> σ9[j]? = (capS tn ci σ)[j]?) -> ∀ m', m' < n -> W (i + 1) m' H9 ->
          ∃ m, m < n /\ ∃ i H', Inv X' [] (capS tn ci σ) H' s9 /\ tk i s9.heap /\ (∀ b ∈ fp, H' b = none) /\ W i m H' := fun {σ9 H9 s9} J9 hl9 hk9 m' hm w9 => by
        refine ⟨m', hm, i + 1, H9, J9.unpinned.weak (by rw [capS_length, hl9]) fun j v e => ?_, T.keep _ _ _ st8 fun b hb o e => (J9.pin (b, o) (List.mem_append_right _ (List.mem_append_right _ (mem_pinsAt hb e)))).1, fun b hb => ?_, w9⟩
        · obtain ⟨k, _, rfl, _⟩ := capS_some e
          rw [hk9 _ (by omega)]; exact e
        · obtain ⟨o, e, d⟩ := T.obj _ _ st8 b hb
          exact (J9.pin (b, o) (List.mem_append_right _ (List.mem_append_right _ (mem_pinsAt hb e)))).2.1
      refine wpAny_mono (hg fp _ _ _ _ s8 _ H8 x u _ J8' r8 (step x H8 y8)) (fun _ s9 ⟨σ9, H9, J9, ⟨l9, k9⟩, q9⟩ => ?_) fun _ _ z => z.elim
      refine wpAny_mono (hf fp _ _ _ _ s9 σ9 H9 _ J9 q9) (fun b s10 ⟨H10, J10, q10⟩ => ?_) fun _ _ z => z.elim
      cases b with
      | false =>
        rw [if_neg Bool.false_ne_true] at q10 ⊢
        obtain ⟨m', hm, w10⟩ := q10
        exact back J10 l9 k9 m' hm w10
      | true =>
        rw [if_pos rfl] at q10 ⊢
        refine wpAny_mono (he fp _ _ _ _ s10 σ9 H10 _ J10 q10) (fun y s11 ⟨v, H11, J11, r11, acc, e11, z11, m', hm, w11⟩ => ?_) fun _ _ z => z.elim
        refine wpAny_mono (mt_append (X := X') _ s11 σ9 H11 (.ref _) [v] (.ref _) [y] (fun _ H12 => W (i + 1) m' H12) J11 rfl (.cons r11 .nil) ⟨_, acc, v, rfl, rfl, e11, z11, w11⟩) (fun _ s12 ⟨_, H12, J12, _, w12⟩ => ?_) fun _ _ z => z.elim
        exact back J12 l9 k9 m' hm w12
  have st4 : tk 0 h₁ := T.keep _ _ _ st2 fun b _ o e => keep b o (by rw [← hG]; exact Heap.get?_push_of_some _ e)
  exact codeAny_compStart_list (mk _ 0 H3 J0 st4 fpH m0 w0) (T.self _ 0 _ _ _ st4 (mk _ 0 H3 J0 st4 fpH m0 w0))
theorem pe_comp (hc : X.calm = true) (hi : PI X tg iter wi) (hg : ∀ fp s3 H3 C, PG (X.comp scope (Nt ++ Nc) cl fp s3 H3 C) tg g) (hf : ∀ fp s3 H3 C, PF (X.comp scope (Nt ++ Nc) cl fp s3 H3 C) ifs tc) (he : ∀ fp s3 H3 C, PE (X.comp scope (Nt ++ Nc) cl fp s3 H3 C) elt te)
    (hclos : closureFor scope X.env = pure cl) (hkind : scope.kind = .function) (hcell : ∀ y ∈ scope.names, y.2 ≠ .cell) (hnames : ∀ x ∈ scope.names, x.2 = .local -> scope.names.lookup x.1 = some .local) (hcap : Caps X cl Nc ci) (hNt : Nt.length = tn)
    (hsub : ∀ x c, cl.lookup x = some c -> X.env.cells.lookup x = some c) (hhas : ∀ x, ((relabel scope X.env).names.lookup x = some .cell \/ (relabel scope X.env).names.lookup x = some .free) -> ∃ c, cl.lookup x = some c)
    (hvis : ∀ x ∈ Nc, (relabel scope X.env).names.lookup x = some .cell \/ (relabel scope X.env).names.lookup x = some .free)
    (hs : ∀ x, foldedSetIterable iter X.env x = pure x := by intro _; rfl) : PE X (.ListComp elt [⟨tg, iter, ifs, 0⟩] scope pos) (tComp wi tn ci g tc te) := by
  intro pins s σ H Q I h
  rw [eval_ListComp]
  refine wpAny_comprehension_free (use := none) rfl hs hclos hkind hnames (comp_run (Nt := Nt) (Nc := Nc) I hc hi hg hf he hkind hcell hcap hNt hsub hhas hvis h ?_)
  intro l C H' s' m hn I' h1 h2 h3 h4 h5 q
  exact ⟨m, hn, fun h'' hs'' => ⟨.ref l, H', I'.turned (t' := s'.toks) (fun b o hb e => hs''.extBut b o hb e) h1 h2 (.inr h3) h4 h5, rfl, q⟩⟩
noncomputable def PUse (X : Cx) (e : Expr) (t : TE) : Prop :=
  ∀ (i : Nat) (x : Str) (pos' : Pos) (_ : X.N.Nodup) (_ : X.N[i]? = some x) (_ : Loc X.env.scope x) (_ : X.fn x = true \/ X.env.scope.names.lookup x = some .local) (pins : List (Addr × Obj)) (s : Shared) (σ : St) (H : Hp) (Q : VK), Inv X pins σ H s -> t σ H Q ->
    wpAny (model X.prog X.w) X.A (evalThenUse e X.env (assign (.Name x pos') X.env)) (fun _ s' => ∃ v H', Inv X pins (σ.set i (some v)) H' s' /\ Q v H') X.xe s
theorem pu_comp (hc : X.calm = true) (hi : PI X tg iter wi) (hg : ∀ fp s3 H3 C, PG (X.comp scope (Nt ++ Nc) cl fp s3 H3 C) tg g) (hf : ∀ fp s3 H3 C, PF (X.comp scope (Nt ++ Nc) cl fp s3 H3 C) ifs tc) (he : ∀ fp s3 H3 C, PE (X.comp scope (Nt ++ Nc) cl fp s3 H3 C) elt te)
    (hclos : closureFor scope X.env = pure cl) (hkind : scope.kind = .function) (hcell : ∀ y ∈ scope.names, y.2 ≠ .cell) (hnames : ∀ x ∈ scope.names, x.2 = .local -> scope.names.lookup x.1 = some .local) (hcap : Caps X cl Nc ci) (hNt : Nt.length = tn)
    (hsub : ∀ x c, cl.lookup x = some c -> X.env.cells.lookup x = some c) (hhas : ∀ x, ((relabel scope X.env).names.lookup x = some .cell \/ (relabel scope X.env).names.lookup x = some .free) -> ∃ c, cl.lookup x = some c)
    (hvis : ∀ x ∈ Nc, (relabel scope X.env).names.lookup x = some .cell \/ (relabel scope X.env).names.lookup x = some .free)
    (hs : ∀ x, foldedSetIterable iter X.env x = pure x := by intro _; rfl) : PUse X (.ListComp elt [⟨tg, iter, ifs, 0⟩] scope pos) (tComp wi tn ci g tc te) := by
  intro i x pos' hN hxi hx hfn pins s σ H Q I h
  unfold evalThenUse
  refine wpAny_bind (wpAny_comprehension_free (use := some (assign (.Name x pos') X.env)) rfl hs hclos hkind hnames (comp_run (Nt := Nt) (Nc := Nc) I hc hi hg hf he hkind hcell hcap hNt hsub hhas hvis h ?_))
  intro l C H' s' m hn I' h1 h2 h3 h4 h5 q
  show wpAny _ _ (assign (.Name x pos') X.env (.ref l)) _ _ _
  refine wpAny_bind (wpAny_standAt (wpAny_bindName (store_ok2 I' hN hxi hx (v := .ref l) rfl (fun s2 I2 ha => ?_) hfn)))
  obtain ⟨a, sb, ha⟩ := ha
  have ne : C ≠ a := by
    rcases ha with rfl | ha
    · exact h2
    · exact fun z => h4 _ _ ha z.symm
  obtain ⟨o, es, ep, e, r⟩ := hn
  refine ⟨m, ⟨o, es, ep, (sb.2 C ne).trans e, r⟩, fun h'' hs'' => wpAny_pure ⟨.ref l, H', I2.turned (t' := s2.toks) (fun b o hb e => hs''.extBut b o hb e) h1 h2 (.inr h3) h4 h5, q⟩⟩
theorem ps_use {i : Nat} {x : Str} {e : Expr} {te : TE} {pos' spos : Pos} (hN : X.N.Nodup) (hi : X.N[i]? = some x) (hx : Loc X.env.scope x) (he : PUse X e te) (hs : swapsWith e (some (.Name x pos')) spos.line X.env = pure true := by rfl) (hf : X.fn x = true \/ X.env.scope.names.lookup x = some .local := by first | exact .inl rfl | exact .inr rfl | assumption) :
    PS X (.Assign [.Name x pos'] e spos) (tAsg te (gName i)) := by
  intro pins s σ H D I h
  rw [exec_Assign_Name_used _ _ _ _ hs]
  refine wpAny_bind (wpAny_standAt (wpAny_bind (thn (he i x pos' hN hi hx hf pins s σ H _ I h) fun _ s' ⟨v, H', I', q⟩ => wpAny_pure ⟨_, H', I', q⟩)))
end
end L2
namespace P2
open PySem L2 PyProof.Rows
noncomputable abbrev bits (x : Int) : Nat := Builtin.Int.intBits x
theorem opr_or {X : Cx} {f : Value -> Value -> Sem Value} {r r' : R2} (h : OpR X f r) (h' : OpR X f r') : OpR X f (fun x y H Q => r x y H Q \/ r' x y H Q) :=
  fun pins s σ H x y v u Q I rx ry q => q.elim (h pins s σ H x y v u Q I rx ry) (h' pins s σ H x y v u Q I rx ry)
noncomputable def iB (C : Int -> Int -> Bool) (g : Int -> Int -> D) (x y : D) : R D := match x, y with
  | .int i, .int j => if C i j = true then .ok (g i j) else .bad
  | _, _ => .bad
section
variable {X : Cx} {E : XK}
theorem opd_I {op : Value -> Value -> Sem Value} {C : Int -> Int -> Prop} {Cb : Int -> Int -> Bool} {g : Int -> Int -> V} {gd : Int -> Int -> D} (ho : OpR X op (rI C g)) (hC : ∀ i j, Cb i j = true -> C i j) (hg : ∀ i j K al H, Rep K al H (g i j) (gd i j)) : OpD X E op (iB Cb gd) := by
  refine ⟨_, ho, fun al H x y dx dy Q fr rx ry h => ?_⟩
  unfold iB at h
  split at h
  · rename_i i j
    cases rx; cases ry
    split at h
    · rename_i z
      exact ⟨i, j, rfl, rfl, hC i j z, h H (.refl H) _ (hg i j _ _ _)⟩
    · exact h.elim
  · exact h.elim
theorem opd_I0 {op : Value -> Value -> Sem Value} {g : Int -> Int -> V} {gd : Int -> Int -> D} (ho : OpR X op (rI0 g)) (hg : ∀ i j K al H, Rep K al H (g i j) (gd i j)) : OpD X E op (iB (fun _ _ => true) gd) := by
  refine ⟨_, ho, fun al H x y dx dy Q fr rx ry h => ?_⟩
  unfold iB at h
  split at h
  · rename_i i j
    cases rx; cases ry
    exact ⟨i, j, rfl, rfl, h H (.refl H) _ (hg i j _ _ _)⟩
  · exact h.elim
noncomputable def subD : D -> D -> R D := iB (fun _ _ => true) fun i j => .int (i - j)
noncomputable def okMul (i j : Int) : Bool := decide (bits i <= 1048576) && decide (bits j <= 1048576)
noncomputable def okDiv (_ j : Int) : Bool := decide (j ≠ 0) && decide (bits j <= 9000)
noncomputable def fdivD : D -> D -> R D := iB okDiv fun i j => .int (i.fdiv j)
theorem op_fdivD : OpD X E (binaryOp .FloorDiv) fdivD := opd_I op_fdivB (fun i j h => by unfold okDiv at h; simpa [CDivB] using h) fun _ _ _ _ _ => .int _
noncomputable def modD : D -> D -> R D := iB (fun _ j => decide (j ≠ 0)) fun i j => .int (i.fmod j)
theorem op_modD : OpD X E (binaryOp .Mod) modD := opd_I op_modN (fun i j h => by simpa using h) fun _ _ _ _ _ => .int _
noncomputable def ltD : D -> D -> R D := iB (fun _ _ => true) fun i j => .bl (decide (i < j))
noncomputable def leD : D -> D -> R D := iB (fun _ _ => true) fun i j => .bl (decide (i <= j))
noncomputable def gtD : D -> D -> R D := iB (fun _ _ => true) fun i j => .bl (decide (j < i))
noncomputable def geD : D -> D -> R D := iB (fun _ _ => true) fun i j => .bl (decide (j <= i))
theorem op_ltD : OpD X E (compareOp .Lt) ltD := opd_I0 op_lt fun _ _ _ _ _ => .bl _
theorem op_gtD : OpD X E (compareOp .Gt) gtD := opd_I0 op_gt fun _ _ _ _ _ => .bl _
theorem op_geD : OpD X E (compareOp .GtE) geD := opd_I0 op_ge fun _ _ _ _ _ => .bl _
noncomputable def negD : D -> R D
  | .int i => .ok (.int (-i))
  | _ => .bad
theorem un_negD : UnD X E (unaryOp .USub) negD := by
  refine ⟨_, un_neg, fun al H x dx Q fr rx h => ?_⟩
  unfold negD at h
  split at h
  · cases rx; exact ⟨_, rfl, h H (.refl H) _ (.int _)⟩
  · exact h.elim
noncomputable def SqF (K : W.Frag) (H : Hp) (a : Addr) (xs : List V) : Prop := Rd H a (.lst xs) \/ KL K a xs
theorem SqF.is {X : Cx} {pins : List (Addr × Obj)} {s : Shared} {σ : L2.St} {H : Hp} {a : Addr} {xs : List V} (I : Inv X pins σ H s) (h : SqF X.K H a xs) : ∃ its n, Vals xs its /\ s.heap.get? a = some { cls := .type "list", data := .seq its.toArray n } := by
  rcases h with h | ⟨its, n, h1, h2, h3⟩
  · obtain ⟨z, its, n, r, e⟩ := h.ok I.hok
    exact ⟨its, n, r, e⟩
  · exact ⟨its, n, h3, I.kIn a _ h1⟩
noncomputable def rCatR (K : W.Frag) : R2 := fun x y H Q => ∃ l b xs zs, x = .ref l /\ y = .ref b /\ SqF K H l xs /\ SqF K H b zs /\ xs.length + zs.length <= sizeLine /\ ∀ p, H p = none -> Q (.ref p) (upd H p (.lst (xs ++ zs)))
theorem op_catR : OpR X (binaryOp .Add) (rCatR X.K) := by
  intro pins s σ H x y v u Q I rx ry h
  obtain ⟨l, b, xs, zs, rfl, rfl, hH, hB, hz, q⟩ := h
  cases rx
  cases ry
  obtain ⟨its, n, r, e⟩ := hH.is I
  obtain ⟨its2, n2, r2, e2⟩ := hB.is I
  have hl := r.length
  have hl2 := r2.length
  refine PySem.P.add_list e e2 ?_ (by rw [List.size_toArray, List.size_toArray]; omega)
  have ea : its.toArray ++ its2.toArray = (its ++ its2).toArray := by simp
  rw [ea]
  exact ⟨.ref _, _, I.lnew (t' := s.toks) (r.append r2) (by rw [List.length_append]; omega), rfl, q _ I.fresh⟩
noncomputable def addD : D -> D -> R D
  | .int i, .int j => .ok (.int (i + j))
  | .str i, .str j => if i.length + j.length <= sizeLine then .ok (.str (i ++ j)) else .bad
  | .lst xs, .lst ys => if xs.length + ys.length <= sizeLine then .ok (.lst (xs ++ ys)) else .bad
  | _, _ => .bad
theorem op_addD : OpD X E (binaryOp .Add) addD := by
  refine ⟨_, opr_or op_add (opr_or op_add_str op_catR), fun al H x y dx dy Q fr rx ry h => ?_⟩
  unfold addD at h
  split at h
  · cases rx; cases ry; exact .inl ⟨_, _, rfl, rfl, h H (.refl H) _ (.int _)⟩
  · cases rx; cases ry
    split at h
    · rename_i z; exact .inr (.inl ⟨_, _, rfl, rfl, z, h H (.refl H) _ (.str _)⟩)
    · exact h.elim
  · split at h
    · rename_i z
      obtain ⟨a, vs, rfl, h1, h2⟩ := rx.lstRd
      obtain ⟨b, ws, rfl, h3, h4⟩ := ry.lstRd
      exact .inr (.inr ⟨a, b, vs, ws, rfl, rfl, h1, h3, by rw [h2.length, h4.length]; exact z, fun p hp => h _ (same_upd hp) _ ((h2.append h4).lstNew hp (fr p hp))⟩)
    · exact h.elim
  · exact h.elim
noncomputable def okMulS (x : Str) (n : Int) : Bool := !(decide (n < -(2 ^ 63 : Int)) || decide (n ≥ 2 ^ 63)) && decide (x.length * n.toNat <= 1000000) && decide (x.length <= 1000000) && decide (n <= 1000000)
theorem op_mul_str : OpR X (binaryOp .Mult) (fun x y H Q => ∃ i n, x = .str i /\ y = .int n /\ MulOk i n /\ Q (.str (Txt.mul i n)) H) := by
  intro pins s σ H x y v u Q I rx ry h
  obtain ⟨i, j, rfl, rfl, hz, q⟩ := h
  obtain ⟨t, rfl⟩ := rx
  obtain ⟨t', rfl⟩ := ry
  exact SB.mul hz fun t'' k => ⟨.str _, H, I.tok _, ⟨_, rfl⟩, q⟩
theorem mulOk_of {x : Str} {n : Int} (h : okMulS x n = true) : MulOk x n := by
  unfold okMulS at h
  simp only [Bool.and_eq_true, decide_eq_true_eq, Bool.not_eq_true'] at h
  obtain ⟨⟨⟨h1, h2⟩, h3⟩, h4⟩ := h
  refine ⟨h1, fun h5 _ => ?_, fun _ _ => ?_⟩
  · have h6 : (1 : Int) <= n := by omega
    have h7 : (1000000 : Int) <= (2 ^ 63 - 1) / n := by
      apply (Int.le_ediv_iff_mul_le (by omega)).mpr
      have : (1000000 : Int) * n <= 1000000 * 1000000 := Int.mul_le_mul_of_nonneg_left h4 (by decide)
      omega
    omega
  · have : sizeLine = 16777216 := sizeLine_eq
    unfold Builtin.Str.tooLong
    simp only [decide_eq_false_iff_not]
    omega
noncomputable def flatEq : D -> D -> Option Bool
  | .non, .non => some true
  | .int i, .int j => some (decide (i = j))
  | .str i, .str j => some (decide (i = j))
  | .bl i, .bl j => some (decide (i = j))
  | .non, .int _ => some false
  | .int _, .non => some false
  | .non, .str _ => some false
  | .str _, .non => some false
  | .non, .bl _ => some false
  | .bl _, .non => some false
  | .int _, .str _ => some false
  | .str _, .int _ => some false
  | _, _ => none
noncomputable def eqSD (x y : D) : R D := match flatEq x y with
  | some b => .ok (.bl b)
  | none => .bad
noncomputable def neSD (x y : D) : R D := match flatEq x y with
  | some b => .ok (.bl (!b))
  | none => .bad
theorem flat_eq {K : W.Frag} {al : Addr -> Prop} {H : Hp} {x y : V} {dx dy : D} {b : Bool} (rx : Rep K al H x dx) (ry : Rep K al H y dy) (h : flatEq dx dy = some b) : scal x y = true /\ decide (x = y) = b := by
  unfold flatEq at h
  split at h <;> first | (cases h; done) | (cases rx; cases ry; cases h; refine ⟨rfl, ?_⟩; simp)
theorem op_eqSD : OpD X E (compareOp .Eq) eqSD := by
  refine ⟨_, op_eq, fun al H x y dx dy Q fr rx ry h => ?_⟩
  unfold eqSD at h
  cases q : flatEq dx dy with
  | none => rw [q] at h; exact h.elim
  | some b =>
    rw [q] at h
    obtain ⟨h1, h2⟩ := flat_eq rx ry q
    exact ⟨h1, by rw [h2]; exact h H (.refl H) _ (.bl b)⟩
theorem op_neSD : OpD X E (compareOp .NotEq) neSD := by
  refine ⟨_, op_ne, fun al H x y dx dy Q fr rx ry h => ?_⟩
  unfold neSD at h
  cases q : flatEq dx dy with
  | none => rw [q] at h; exact h.elim
  | some b =>
    rw [q] at h
    obtain ⟨h1, h2⟩ := flat_eq rx ry q
    exact ⟨h1, by rw [h2]; exact h H (.refl H) _ (.bl _)⟩
noncomputable def inSD : D -> D -> R D
  | .str i, .str j => .ok (.bl (Txt.contains j i))
  | _, _ => .bad
theorem op_inSD : OpD X E (compareOp .In) inSD := by
  refine ⟨_, op_in_str, fun al H x y dx dy Q fr rx ry h => ?_⟩
  unfold inSD at h
  split at h
  · cases rx; cases ry; exact ⟨_, _, rfl, rfl, h H (.refl H) _ (.bl _)⟩
  · exact h.elim
theorem Reps.atI {K : W.Frag} {al : Addr -> Prop} {H : Hp} {vs : List V} {ds : List D} (r : Reps K al H vs ds) {i : Int} {d : D} (h : L2.atI ds i = some d) : ∃ v, L2.atI vs i = some v /\ Rep K al H v d := by
  unfold L2.atI at h ⊢
  rw [r.length]
  cases q : ixN ds.length i with
  | none => rw [q] at h; cases h
  | some j =>
    rw [q] at h
    exact r.getD h
noncomputable def ixD : D -> D -> R D
  | .lst ds, .int i => match L2.atI ds i with
    | some d => .ok d
    | none => .bad
  | .tup ds, .int i => match L2.atI ds i with
    | some d => .ok d
    | none => .bad
  | .str z, .int i => if z.length <= sizeLine then (match L2.atI z.cps.toList i with
    | some c => .ok (.str ⟨#[c]⟩)
    | none => .bad) else .bad
  | _, _ => .bad
theorem ix_D : IxD X E ixD := by
  refine ⟨_, ix_seq, fun al H x y dx dy Q fr rx ry h => ?_⟩
  unfold ixD at h
  split at h
  · rename_i ds i
    cases ry
    cases q : L2.atI ds i with
    | none => rw [q] at h; exact h.elim
    | some d =>
      rw [q] at h
      obtain ⟨a, vs, rfl, h1, h2⟩ := rx.lstIn
      obtain ⟨v, e1, e2⟩ := Reps.atI h2 q
      exact .inl ⟨a, vs, i, v, rfl, rfl, h1, e1, h H (.refl H) _ e2⟩
  · rename_i ds i
    cases ry
    cases q : L2.atI ds i with
    | none => rw [q] at h; exact h.elim
    | some d =>
      rw [q] at h
      obtain ⟨a, vs, rfl, h1, h2⟩ := rx.tupIn
      obtain ⟨v, e1, e2⟩ := Reps.atI h2 q
      exact .inr (.inl ⟨a, vs, i, v, rfl, rfl, h1, e1, h H (.refl H) _ e2⟩)
  · rename_i z i
    cases rx; cases ry
    split at h
    · rename_i hz
      cases q : L2.atI z.cps.toList i with
      | none => rw [q] at h; exact h.elim
      | some c => rw [q] at h; exact .inr (.inr ⟨z, i, c, rfl, rfl, hz, q, h H (.refl H) _ (.str _)⟩)
    · exact h.elim
  · exact h.elim
noncomputable def rSlS : V -> Option Int -> Option Int -> Hp -> VK -> Prop := fun x lo hi H Q => ∃ z, x = .str z /\ z.length <= sizeLine /\ Q (.str (Txt.slice z lo hi)) H
theorem sl_str : SlR X rSlS := by
  intro pins s σ H x v vl vu lo hi sl Q I rx hs pl pu h
  obtain ⟨z, rfl, hz, q⟩ := h
  obtain ⟨t, rfl⟩ := rx
  refine ⟨"str", _, PySem.F.slot_str_getitem.lookup, typeIs_str s z t, ?_⟩
  obtain ⟨o, h1, h2, h3⟩ := hs
  cases pl with
  | none =>
    cases pu with
    | none => exact wpAny_getItem_str_slice (l := none) (u := none) (st := none) ⟨o, h1, h2, h3⟩ rfl (post_val_or_str ⟨Nat.le_trans (Txt.slice_le z none none) hz, fun t' k => ⟨.str _, H, I.tok _, ⟨_, rfl⟩, q⟩⟩)
    | int j u => exact wpAny_getItem_str_slice (l := none) (u := some (j, u)) (st := none) ⟨o, h1, h2, h3⟩ rfl (post_val_or_str ⟨Nat.le_trans (Txt.slice_le z none (some j)) hz, fun t' k => ⟨.str _, H, I.tok _, ⟨_, rfl⟩, q⟩⟩)
  | int i ui =>
    cases pu with
    | none => exact wpAny_getItem_str_slice (l := some (i, ui)) (u := none) (st := none) ⟨o, h1, h2, h3⟩ rfl (post_val_or_str ⟨Nat.le_trans (Txt.slice_le z (some i) none) hz, fun t' k => ⟨.str _, H, I.tok _, ⟨_, rfl⟩, q⟩⟩)
    | int j u => exact wpAny_getItem_str_slice (l := some (i, ui)) (u := some (j, u)) (st := none) ⟨o, h1, h2, h3⟩ rfl (post_val_or_str ⟨Nat.le_trans (Txt.slice_le z (some i) (some j)) hz, fun t' k => ⟨.str _, H, I.tok _, ⟨_, rfl⟩, q⟩⟩)
noncomputable def cutD (xs : List D) (lo hi : Option Int) : List D := (xs.drop (HT.sIx xs.length 0 lo)).take (HT.sIx xs.length xs.length hi - HT.sIx xs.length 0 lo)
theorem Reps.cut {K : W.Frag} {al : Addr -> Prop} {H : Hp} {vs : List V} {ds : List D} (r : Reps K al H vs ds) (lo hi : Option Int) : Reps K al H (cutV vs lo hi) (cutD ds lo hi) := by
  unfold cutV cutD
  rw [r.length]
  exact (r.drop _).take _
noncomputable def slD : D -> Option Int -> Option Int -> R D
  | .lst ds, lo, hi => .ok (.lst (cutD ds lo hi))
  | .str z, lo, hi => if z.length <= sizeLine then .ok (.str (Txt.slice z lo hi)) else .bad
  | _, _, _ => .bad
theorem sl_D : SlD X E slD := by
  refine ⟨_, sl_list.or sl_str, fun al H x dx lo hi Q fr rx h => ?_⟩
  unfold slD at h
  split at h
  · obtain ⟨a, vs, rfl, h1, h2⟩ := rx.lstIn
    exact .inl ⟨a, vs, rfl, h1, fun p hp => h _ (same_upd hp) _ ((h2.cut lo hi).lstNew hp (fr p hp))⟩
  · cases rx
    split at h
    · rename_i hz; exact .inr ⟨_, rfl, hz, h H (.refl H) _ (.str _)⟩
    · exact h.elim
  · exact h.elim
noncomputable def lenD : List D -> R D
  | [.str z] => if z.length <= sizeLine then .ok (.int z.length) else .bad
  | [.lst ds] => .ok (.int ds.length)
  | [.tup ds] => .ok (.int ds.length)
  | _ => .bad
theorem Reps.one {K : W.Frag} {al : Addr -> Prop} {H : Hp} {vs : List V} {d : D} (r : Reps K al H vs [d]) : ∃ v, vs = [v] /\ Rep K al H v d := by
  cases r with
  | cons a b => cases b; exact ⟨_, rfl, a⟩
theorem Reps.two {K : W.Frag} {al : Addr -> Prop} {H : Hp} {vs : List V} {d e : D} (r : Reps K al H vs [d, e]) : ∃ v u, vs = [v, u] /\ Rep K al H v d /\ Rep K al H u e := by
  cases r with
  | cons a b => obtain ⟨u, rfl, q⟩ := Reps.one b; exact ⟨_, _, rfl, a, q⟩
theorem call_lenD : CallD X E (.builtin "len") lenD := by
  refine ⟨_, call_len_str.or call_len_seq, fun al H xs ds Q fr r h => ?_⟩
  unfold lenD at h
  split at h
  · obtain ⟨v, rfl, q⟩ := Reps.one r
    cases q
    split at h
    · rename_i hz; exact .inl ⟨_, rfl, hz, h H (.refl H) _ (.int _)⟩
    · exact h.elim
  · obtain ⟨v, rfl, q⟩ := Reps.one r
    obtain ⟨a, vs, rfl, h1, h2⟩ := q.lstIn
    exact .inr ⟨a, vs, rfl, .inl h1, by rw [h2.length]; exact h H (.refl H) _ (.int _)⟩
  · obtain ⟨v, rfl, q⟩ := Reps.one r
    obtain ⟨a, vs, rfl, h1, h2⟩ := q.tupIn
    exact .inr ⟨a, vs, rfl, .inr h1, by rw [h2.length]; exact h H (.refl H) _ (.int _)⟩
  · exact h.elim
noncomputable def absD : List D -> R D
  | [.int i] => .ok (.int (if i < 0 then -i else i))
  | _ => .bad
theorem call_absD : CallD X E (.builtin "abs") absD := by
  refine ⟨_, call_abs, fun al H xs ds Q fr r h => ?_⟩
  unfold absD at h
  split at h
  · obtain ⟨v, rfl, q⟩ := Reps.one r
    cases q
    exact ⟨_, rfl, h H (.refl H) _ (.int _)⟩
  · exact h.elim
noncomputable def max2D : List D -> R D
  | [.int i, .int j] => .ok (.int (if j > i then j else i))
  | _ => .bad
noncomputable def strD : List D -> R D
  | [.int i] => if i.natAbs.log2 < 1920 then .ok (.str (toString i)) else .bad
  | _ => .bad
theorem call_strD : CallD X E (.type "str") strD := by
  refine ⟨_, call_str_int, fun al H xs ds Q fr r h => ?_⟩
  unfold strD at h
  split at h
  · obtain ⟨v, rfl, q⟩ := Reps.one r
    cases q
    split at h
    · rename_i hz; exact ⟨_, rfl, hz, h H (.refl H) _ (.str _)⟩
    · exact h.elim
  · exact h.elim
theorem call_int_str : CallR X (.type "int") (fun xs H Q => ∃ z n, xs = [.str z] /\ PySem.intText? z = some n /\ z.length <= 640 /\ Q (.int n) H) := by
  intro pins s σ H xs us Q I r h
  obtain ⟨z, n, rfl, h1, h2, q⟩ := h
  obtain ⟨u, rfl, t, rfl⟩ := vals1 r
  exact W.KIN.call_text h1 h2 ⟨.int n, H, I.tok _, ⟨_, rfl⟩, q⟩
noncomputable def intD : List D -> R D
  | [.str z] => match PySem.intText? z with
    | some n => if z.length <= 640 then .ok (.int n) else .bad
    | none => .bad
  | _ => .bad
theorem call_intD : CallD X E (.type "int") intD := by
  refine ⟨_, call_int_str, fun al H xs ds Q fr r h => ?_⟩
  unfold intD at h
  split at h
  · rename_i z
    obtain ⟨v, rfl, q⟩ := Reps.one r
    cases q
    cases e : PySem.intText? z with
    | none => rw [e] at h; exact h.elim
    | some n =>
      rw [e] at h
      dsimp only at h
      split at h
      · rename_i hz; exact ⟨z, n, rfl, e, hz, h H (.refl H) _ (.int _)⟩
      · exact h.elim
  · exact h.elim
theorem vals_bools : ∀ {bs : List Bool} {us : List Value}, Vals (bs.map V.bl) us -> us = bs.map Value.bool
  | [], _, r => by cases r; rfl
  | b :: bs, _, r => by
    cases r with
    | cons r1 r2 => cases r1; rw [vals_bools r2]; rfl
theorem all_range (bs : List Bool) : (List.range bs.length).all (fun i => bs.getD i false) = bs.all id := by
  rw [Bool.eq_iff_iff]
  simp only [List.all_eq_true, List.mem_range, id]
  constructor
  · intro h b hb
    obtain ⟨i, hi, rfl⟩ := List.getElem_of_mem hb
    have := h i hi
    rwa [List.getD_eq_getElem?_getD, List.getElem?_eq_getElem hi] at this
  · intro h i hi
    rw [List.getD_eq_getElem?_getD, List.getElem?_eq_getElem hi]
    exact h _ (List.getElem_mem hi)
theorem any_range (bs : List Bool) : (List.range bs.length).any (fun i => bs.getD i false) = bs.any id := by
  rw [Bool.eq_iff_iff]
  simp only [List.any_eq_true, List.mem_range, id]
  constructor
  · rintro ⟨i, hi, h⟩
    rw [List.getD_eq_getElem?_getD, List.getElem?_eq_getElem hi] at h
    exact ⟨_, List.getElem_mem hi, h⟩
  · rintro ⟨b, hb, h⟩
    obtain ⟨i, hi, rfl⟩ := List.getElem_of_mem hb
    exact ⟨i, hi, by rw [List.getD_eq_getElem?_getD, List.getElem?_eq_getElem hi]; exact h⟩
theorem call_all (hc : X.calm = true) : CallR X (.builtin "all") (fun xs H Q => ∃ (a : Addr) (bs : List Bool), xs = [.ref a] /\ SqL X.K H a (bs.map V.bl) /\ Q (.bl (bs.all id)) H) := by
  intro pins s σ H xs us Q I r h
  obtain ⟨a, bs, rfl, ha, q⟩ := h
  obtain ⟨u, rfl, ru⟩ := vals1 r
  cases ru
  obtain ⟨its, rv, pl, hz⟩ := I.list ha
  have ei := vals_bools rv
  subst ei
  refine call_all_walk (wpAny_pyIter_list pl.isList ?_)
  have hd : (X.A.in1).handled = none := I.ok.hd hc
  have hne : a ≠ s.heap.objs.size := Nat.ne_of_lt (by obtain ⟨o, e, _⟩ := pl.isList; exact Heap.lt_size e)
  refine ⟨s.heap.objs.size, _, _, _, _, _, fun i => bs.getD i false, rfl, Walks.list hd s.heap.objs.size a hne (bs.map Value.bool).toArray, ⟨⟨_, Heap.get?_push_size _ rfl, rfl, rfl⟩, pl.isList.at fun o e => Heap.get?_push_of_some _ e⟩, ?_, fun h' tk k => ?_⟩
  · intro i v s2 Q2 E2 hv hq
    have : v = Value.bool (bs.getD i false) := by
      simp only [List.getElem?_toArray, List.getElem?_map] at hv
      cases e : bs[i]? with
      | none => rw [e] at hv; cases hv
      | some b => rw [e] at hv; cases hv; rw [List.getD_eq_getElem?_getD, e]; rfl
    subst this
    exact wpAny_truthy_bool hq
  · refine ⟨.bl (bs.all id), H, I.kept (t' := tk) fun b o e => k b o (by simp only [List.mem_singleton]; exact Nat.ne_of_lt (Heap.lt_size e)) (Heap.get?_push_of_some _ e), ?_, q⟩
    show Value.bool _ = Value.bool _
    rw [List.size_toArray, List.length_map, all_range]
theorem call_any (hc : X.calm = true) : CallR X (.builtin "any") (fun xs H Q => ∃ (a : Addr) (bs : List Bool), xs = [.ref a] /\ SqL X.K H a (bs.map V.bl) /\ Q (.bl (bs.any id)) H) := by
  intro pins s σ H xs us Q I r h
  obtain ⟨a, bs, rfl, ha, q⟩ := h
  obtain ⟨u, rfl, ru⟩ := vals1 r
  cases ru
  obtain ⟨its, rv, pl, hz⟩ := I.list ha
  have ei := vals_bools rv
  subst ei
  refine call_any_walk (wpAny_pyIter_list pl.isList ?_)
  have hd : (X.A.in1).handled = none := I.ok.hd hc
  have hne : a ≠ s.heap.objs.size := Nat.ne_of_lt (by obtain ⟨o, e, _⟩ := pl.isList; exact Heap.lt_size e)
  refine ⟨s.heap.objs.size, _, _, _, _, _, fun i => bs.getD i false, rfl, Walks.list hd s.heap.objs.size a hne (bs.map Value.bool).toArray, ⟨⟨_, Heap.get?_push_size _ rfl, rfl, rfl⟩, pl.isList.at fun o e => Heap.get?_push_of_some _ e⟩, ?_, fun h' tk k => ?_⟩
  · intro i v s2 Q2 E2 hv hq
    have : v = Value.bool (bs.getD i false) := by
      simp only [List.getElem?_toArray, List.getElem?_map] at hv
      cases e : bs[i]? with
      | none => rw [e] at hv; cases hv
      | some b => rw [e] at hv; cases hv; rw [List.getD_eq_getElem?_getD, e]; rfl
    subst this
    exact wpAny_truthy_bool hq
  · refine ⟨.bl (bs.any id), H, I.kept (t' := tk) fun b o e => k b o (by simp only [List.mem_singleton]; exact Nat.ne_of_lt (Heap.lt_size e)) (Heap.get?_push_of_some _ e), ?_, q⟩
    show Value.bool _ = Value.bool _
    rw [List.size_toArray, List.length_map, any_range]
noncomputable def boolsD : List D -> Option (List Bool)
  | [] => some []
  | .bl b :: r => (boolsD r).map (b :: ·)
  | _ => none
theorem Reps.bools {K : W.Frag} {al : Addr -> Prop} {H : Hp} : ∀ {vs : List V} {ds : List D} {bs : List Bool}, Reps K al H vs ds -> boolsD ds = some bs -> vs = bs.map V.bl
  | _, [], bs, r, h => by cases r; cases h; rfl
  | _, .bl b :: ds, bs, r, h => by
    unfold boolsD at h
    obtain ⟨bs', h1, h2⟩ := Option.map_eq_some_iff.mp h
    subst h2
    cases r with
    | cons a q => cases a; rw [Reps.bools q h1]; rfl
  | _, .non :: _, _, _, h => by cases h
  | _, .int _ :: _, _, _, h => by cases h
  | _, .str _ :: _, _, _, h => by cases h
  | _, .ty _ :: _, _, _, h => by cases h
  | _, .ref _ :: _, _, _, h => by cases h
  | _, .tup _ :: _, _, _, h => by cases h
  | _, .lst _ :: _, _, _, h => by cases h
  | _, .exc _ _ _ :: _, _, _, h => by cases h
noncomputable def allD : List D -> R D
  | [.lst ds] => match boolsD ds with
    | some bs => .ok (.bl (bs.all id))
    | none => .bad
  | _ => .bad
noncomputable def anyD : List D -> R D
  | [.lst ds] => match boolsD ds with
    | some bs => .ok (.bl (bs.any id))
    | none => .bad
  | _ => .bad
theorem call_allD (hc : X.calm = true) : CallD X E (.builtin "all") allD := by
  refine ⟨_, call_all hc, fun al H xs ds Q fr r h => ?_⟩
  unfold allD at h
  split at h
  · rename_i ds
    obtain ⟨v, rfl, q⟩ := Reps.one r
    obtain ⟨a, vs, rfl, h1, h2⟩ := q.lstIn
    cases e : boolsD ds with
    | none => rw [e] at h; exact h.elim
    | some bs =>
      rw [e] at h
      have e2 := Reps.bools h2 e
      subst e2
      exact ⟨a, bs, rfl, h1, h H (.refl H) _ (.bl _)⟩
  · exact h.elim
theorem call_anyD (hc : X.calm = true) : CallD X E (.builtin "any") anyD := by
  refine ⟨_, call_any hc, fun al H xs ds Q fr r h => ?_⟩
  unfold anyD at h
  split at h
  · rename_i ds
    obtain ⟨v, rfl, q⟩ := Reps.one r
    obtain ⟨a, vs, rfl, h1, h2⟩ := q.lstIn
    cases e : boolsD ds with
    | none => rw [e] at h; exact h.elim
    | some bs =>
      rw [e] at h
      have e2 := Reps.bools h2 e
      subst e2
      exact ⟨a, bs, rfl, h1, h H (.refl H) _ (.bl _)⟩
  · exact h.elim
theorem mt_starts : MtR X "str.startswith" (fun x xs H Q => ∃ i j, x = .str i /\ xs = [.str j] /\ Q (.bl (Txt.startswith i j)) H) := by
  intro pins s σ H x xs v us Q I rx rs h
  obtain ⟨i, j, rfl, rfl, q⟩ := h
  obtain ⟨t, rfl⟩ := rx
  obtain ⟨u, rfl, t', rfl⟩ := vals1 rs
  exact SC.startswith ⟨.bl _, H, I, rfl, q⟩
noncomputable def startsD : D -> List D -> R D
  | .str i, [.str j] => .ok (.bl (Txt.startswith i j))
  | _, _ => .bad
theorem mt_startsD : MtD X E "str" "str.startswith" startsD := by
  refine ⟨_, mt_starts, fun al H x xs d ds Q fr rx rs h => ?_⟩
  unfold startsD at h
  split at h
  · cases rx
    obtain ⟨v, rfl, q⟩ := Reps.one rs
    cases q
    exact ⟨_, _, rfl, rfl, h H (.refl H) _ (.bl _)⟩
  · exact h.elim
noncomputable def zfillD : D -> List D -> R D
  | .str z, [.int i] => if PadOk i = true then .ok (.str (Txt.zfill z i)) else .bad
  | _, _ => .bad
noncomputable def fmtD : D -> R D
  | .str z => if z.length <= sizeLine then .ok (.str z) else .bad
  | .int i => if i.natAbs.log2 < 1920 then .ok (.str (toString i)) else .bad
  | _ => .bad
theorem de_fmt {e : Expr} {f : Ev -> R D} {pos : Pos} (he : DE X E e f) : DE X E (.FormattedValue e (-1) none pos) (d1 fmtD f) := by
  obtain ⟨t, p, r⟩ := he
  refine ⟨fun σ H Q => t σ H fun v H1 => (∃ z, v = .str z /\ z.length <= sizeLine /\ Q (.str z) H1) \/ ∃ i, v = .int i /\ i.natAbs.log2 < 1920 /\ Q (.str (toString i)) H1, fun pins s σ H Q I h => ?_, fun P H0 al H σ ρ Q s h => r _ _ _ _ _ _ _ s (Aft.mono (Aft.split h) fun d H1 s1 h1 v rv => ?_)⟩
  · refine FormattedValue_plain (thn (p pins s σ H _ I h) fun u s1 ⟨v, H1, I1, r1, q1⟩ => ?_)
    rcases q1 with ⟨z, rfl, hz, q⟩ | ⟨i, rfl, hz, q⟩
    · obtain ⟨t1, rfl⟩ := r1
      exact formatField_str (fun t' tk => ⟨.str z, H1, I1.tok _, ⟨_, rfl⟩, q⟩) hz
    · obtain ⟨t1, rfl⟩ := r1
      exact formatField_int_small hz ⟨.str _, H1, I1.tok _, ⟨_, rfl⟩, q⟩
  · unfold fmtD at h1
    split at h1
    · cases rv
      split at h1
      · rename_i hz; exact .inl ⟨_, rfl, hz, h1 H1 (.refl H1) _ (.str _)⟩
      · exact h1.elim
    · cases rv
      split at h1
      · rename_i hz; exact .inr ⟨_, rfl, hz, h1 H1 (.refl H1) _ (.str _)⟩
      · exact h1.elim
    · exact h1.elim
noncomputable def DJ (X : Cx) (E : XK) (es : List Expr) (f : Str -> Ev -> R D) : Prop := ∃ t : Str -> TE, (∀ (out : Str) (pins : List (Addr × Obj)) (s : Shared) (σ : L2.St) (H : Hp) (Q : VK), Inv X pins σ H s -> t out σ H Q -> wpAny (model X.prog X.w) X.A (joinParts out (evalEach es X.env)) (EP X pins σ Q) X.xe s) /\
  ∀ out P H0 al H σ ρ (Q : VK), RS X.K P H0 al H σ ρ -> Aft X.K al E H (f out ρ) (fun d H' => ∀ v, Rep X.K al H' v d -> Q v H') -> t out σ H Q
noncomputable def jNil (out : Str) : Ev -> R D := fun _ => if out.length <= sizeLine then .ok (.str out) else .bad
noncomputable def jCons (a : Ev -> R D) (r : Str -> Ev -> R D) (out : Str) : Ev -> R D := fun ρ => (a ρ).bind fun x => match x with
  | .str y => if (out ++ y).length <= sizeLine then r (out ++ y) ρ else .bad
  | _ => .bad
theorem dj_nil : DJ X E [] jNil := by
  refine ⟨fun out _ H Q => out.length <= sizeLine /\ Q (.str out) H, fun out pins s σ H Q I h => joinParts_nil ⟨.str out, H, I.tok _, ⟨_, rfl⟩, h.2⟩ h.1, fun out P H0 al H σ ρ Q s h => ?_⟩
  unfold jNil at h
  split at h
  · rename_i z; exact ⟨z, h H (.refl H) _ (.str _)⟩
  · exact h.elim
theorem dj_cons {e : Expr} {es : List Expr} {fa : Ev -> R D} {fr : Str -> Ev -> R D} (ha : DE X E e fa) (hr : DJ X E es fr) : DJ X E (e :: es) (jCons fa fr) := by
  obtain ⟨ta, pa, ra⟩ := ha
  obtain ⟨tr, pr, rr⟩ := hr
  refine ⟨fun out σ H Q => ta σ H fun v H1 => ∃ y, v = .str y /\ (out ++ y).length <= sizeLine /\ tr (out ++ y) σ H1 Q, fun out pins s σ H Q I h => ?_, fun out P H0 al H σ ρ Q s h => ra _ _ _ _ _ _ _ s (Aft.mono (Aft.split h) fun d H1 s1 h1 v rv => ?_)⟩
  · show wpAny _ _ (joinParts out (eval e X.env :: evalEach es X.env)) _ _ _
    refine joinParts_cons (thn (pa pins s σ H _ I h) fun u s1 ⟨v, H1, I1, r1, y, e1, z, q⟩ => ?_)
    subst e1
    obtain ⟨t1, rfl⟩ := r1
    exact ⟨z, pr _ pins s1 σ H1 Q I1 q⟩
  · cases rv with
    | str y =>
      dsimp only at h1
      split at h1
      · rename_i z; exact ⟨y, rfl, z, rr _ _ _ _ _ _ _ _ (s.grow s1) h1⟩
      · exact h1.elim
    | _ => exact (h1 : False).elim
theorem de_join {e1 e2 : Expr} {es : List Expr} {f : Str -> Ev -> R D} {pos : Pos} (h : DJ X E (e1 :: e2 :: es) f) : DE X E (.JoinedStr (e1 :: e2 :: es) pos) (f Str.empty) := by
  obtain ⟨t, p, r⟩ := h
  exact ⟨t Str.empty, fun pins s σ H Q I h => JoinedStr_many (p Str.empty pins s σ H Q I h), r Str.empty⟩
end
end P2
namespace P2
open PySem L2 PyProof.Rows
noncomputable def wE (K : W.Frag) (E : XK) (f : Ev -> R D) : TE := fun σ H Q => ∃ P H0 al ρ, RS K P H0 al H σ ρ /\ Aft K al E H (f ρ) (fun d H' => ∀ v, Rep K al H' v d -> Q v H')
noncomputable def wT (K : W.Frag) (E : XK) (f : Ev -> R Bool) : TT := fun σ H Q => ∃ P H0 al ρ, RS K P H0 al H σ ρ /\ Aft K al E H (f ρ) Q
noncomputable def wG (K : W.Frag) (l : List Nat) (a : D -> Ev -> Option Ev) : TG := fun v σ H Q => ∃ P H0 al ρ d, RS K P H0 al H σ ρ /\ Rep K al H v d /\ ∃ ρ', a d ρ = some ρ' /\ ∀ σ', Kp l σ σ' -> RS K P H0 al H σ' ρ' -> Q σ' H
theorem DE.w {X : Cx} {E : XK} {e : Expr} {f : Ev -> R D} (h : DE X E e f) : PE X e (wE X.K E f) := by
  obtain ⟨t, p, r⟩ := h
  intro pins s σ H Q I hq
  obtain ⟨P, H0, al, ρ, s1, a⟩ := hq
  exact p pins s σ H Q I (r P H0 al H σ ρ Q s1 a)
theorem DT.w {X : Cx} {E : XK} {e : Expr} {f : Ev -> R Bool} (h : DT X E e f) : PT X e (wT X.K E f) := by
  obtain ⟨t, p, r⟩ := h
  intro pins s σ H Q I hq
  obtain ⟨P, H0, al, ρ, s1, a⟩ := hq
  exact p pins s σ H Q I (r P H0 al H σ ρ Q s1 a)
theorem DG.w {X : Cx} {tg : Expr} {l : List Nat} {a : D -> Ev -> Option Ev} (h : DG X tg l a) : PG X tg (wG X.K l a) := by
  obtain ⟨t, p, r⟩ := h
  intro pins s σ H v u Q I rv hq
  obtain ⟨P, H0, al, ρ, d, s1, rd, a⟩ := hq
  exact p pins s σ H v u Q I rv (r P H0 al H σ ρ v d Q s1 rd a)
noncomputable def DFt (X : Cx) (ifs : List Expr) (f : Ev -> R Bool) : Prop := PF X ifs (wT X.K (fun _ _ _ => False) f)
theorem df_nil {X : Cx} : DFt X [] (fun _ => .ok true) := fun pins s σ H Q I h => by
  obtain ⟨P, H0, al, ρ, s1, a⟩ := h
  exact pf_nil pins s σ H Q I (a H (.refl H))
theorem df_one {X : Cx} {c : Expr} {f : Ev -> R Bool} (h : DT X (fun _ _ _ => False) c f) : DFt X [c] f := pf_one h.w
noncomputable def capD (tn : Nat) (ci : List Nat) (ρ : Ev) : Ev := List.replicate tn .no ++ ci.map fun i => match ρ[i]? with
  | some (.sh d) => .sh d
  | _ => .no
noncomputable def okO {α : Type} : R α -> Option α
  | .ok a => some a
  | _ => none
noncomputable def ofO {α : Type} : Option α -> R α
  | some a => .ok a
  | none => .bad
noncomputable def compO (a : D -> Ev -> Option Ev) (c : Ev -> R Bool) (e : Ev -> R D) (ρ0 : Ev) : List D -> Option (List D)
  | [] => some []
  | d :: r => (a d ρ0).bind fun ρ1 => (okO (c ρ1)).bind fun b => if b = true then (okO (e ρ1)).bind fun v => (compO a c e ρ0 r).bind fun vs => some (v :: vs) else compO a c e ρ0 r
noncomputable def dComp (fi : Ev -> R (List D)) (tn : Nat) (ci : List Nat) (a : D -> Ev -> Option Ev) (c : Ev -> R Bool) (e : Ev -> R D) : Ev -> R (List D) := fun ρ => (fi ρ).bind fun ds => if ds.length <= sizeLine then ofO (compO a c e (capD tn ci ρ) ds) else .bad
theorem okO_some {α : Type} {r : R α} {a : α} (h : okO r = some a) : r = .ok a := by
  cases r with
  | ok x => cases h; rfl
  | ex _ _ _ => cases h
  | bad => cases h
theorem rs_cap {K : W.Frag} {P : Addr -> Prop} {H0 H2 : Hp} {al al' : Addr -> Prop} {σ : L2.St} {ρ : Ev} {H1 : Hp} (s : RS K P H0 al H1 σ ρ) (x : Xt al H1 al' H2) (sm : Same K H1 H2) (fr : ∀ a, H2 a = none -> al' a) (sub : ∀ a, al' a -> al a) (tn : Nat) (ci : List Nat) :
    RS K al H1 al' H2 (capS tn ci σ) (capD tn ci ρ) where
  same := sm
  tt := sm.tt s.tt
  fresh := fr
  sub := sub
  pf := s.fresh
  len := by unfold capS capD; simp
  sh := fun j d h => by
    unfold capD at h
    by_cases hj : j < tn
    · rw [List.getElem?_append_left (by simpa using hj), List.getElem?_replicate, if_pos hj] at h; cases h
    · rw [List.getElem?_append_right (by simpa using hj), List.length_replicate, List.getElem?_map] at h
      cases q : ci[j - tn]? with
      | none => rw [q] at h; cases h
      | some i =>
        rw [q] at h
        have h' : (match ρ[i]? with | some (.sh d) => Sl.sh d | _ => .no) = .sh d := Option.some.inj h
        cases z : ρ[i]? with
        | none => rw [z] at h'; cases h'
        | some y =>
          rw [z] at h'
          cases y with
          | sh e =>
            cases h'
            obtain ⟨v, e1, e2⟩ := s.sh i d z
            refine ⟨v, ?_, e2.mv x⟩
            unfold capS
            rw [List.getElem?_append_right (by simpa using hj), List.length_replicate, List.getElem?_map, q]
            show some ((σ[i]?).getD none) = _
            rw [e1]; rfl
          | no => cases h'
          | ow _ => cases h'
  ow := fun j d h => by
    unfold capD at h
    by_cases hj : j < tn
    · rw [List.getElem?_append_left (by simpa using hj), List.getElem?_replicate, if_pos hj] at h; cases h
    · rw [List.getElem?_append_right (by simpa using hj), List.length_replicate, List.getElem?_map] at h
      cases q : ci[j - tn]? with
      | none => rw [q] at h; cases h
      | some i =>
        rw [q] at h
        have h' : (match ρ[i]? with | some (.sh d) => Sl.sh d | _ => .no) = .ow d := Option.some.inj h
        split at h' <;> cases h'
  apart := fun j k d d' b h _ _ _ => by
    exfalso
    unfold capD at h
    by_cases hj : j < tn
    · rw [List.getElem?_append_left (by simpa using hj), List.getElem?_replicate, if_pos hj] at h; cases h
    · rw [List.getElem?_append_right (by simpa using hj), List.length_replicate, List.getElem?_map] at h
      cases q : ci[j - tn]? with
      | none => rw [q] at h; cases h
      | some i =>
        rw [q] at h
        have h' : (match ρ[i]? with | some (.sh d) => Sl.sh d | _ => .no) = .ow d := Option.some.inj h
        split at h' <;> cases h'
section
variable {X : Cx} {E : XK} {tg iter elt : Expr} {ifs : List Expr} {scope : Scope} {pos : Pos} {fi : Ev -> R (List D)} {a : D -> Ev -> Option Ev} {fc : Ev -> R Bool} {fe : Ev -> R D} {cl : List (Str × Addr)} {tn : Nat} {Nt Nc : List Str} {ci l : List Nat}
noncomputable def DNU (X : Cx) (E : XK) (e : Expr) (f : Ev -> R (List D)) : Prop := ∃ t : TE, PE X e t /\ PUse X e t /\
  ∀ P H0 al H σ ρ (Q : VK), RS X.K P H0 al H σ ρ -> Aft X.K al E H (f ρ) (fun ds H' => ∀ p vs, H' p = none -> Reps X.K al H' vs ds -> Q (.ref p) (upd H' p (.lst vs))) -> t σ H Q
theorem DNU.dn {X : Cx} {E : XK} {e : Expr} {f : Ev -> R (List D)} (h : DNU X E e f) : DN X E e f := let ⟨t, p, _, r⟩ := h; ⟨t, p, r⟩
theorem dnu_comp (hc : X.calm = true) (hi : DI X E tg iter fi) (hg : ∀ fp s3 H3 C, DG (X.comp scope (Nt ++ Nc) cl fp s3 H3 C) tg l a) (hl : ∀ j ∈ l, j < tn) (hf : ∀ fp s3 H3 C, DFt (X.comp scope (Nt ++ Nc) cl fp s3 H3 C) ifs fc)
    (he : ∀ fp s3 H3 C, DE (X.comp scope (Nt ++ Nc) cl fp s3 H3 C) (fun _ _ _ => False) elt fe)
    (hclos : closureFor scope X.env = pure cl) (hkind : scope.kind = .function) (hcell : ∀ y ∈ scope.names, y.2 ≠ .cell) (hnames : ∀ x ∈ scope.names, x.2 = .local -> scope.names.lookup x.1 = some .local) (hcap : Caps X cl Nc ci) (hNt : Nt.length = tn)
    (hsub : ∀ x c, cl.lookup x = some c -> X.env.cells.lookup x = some c) (hhas : ∀ x, ((relabel scope X.env).names.lookup x = some .cell \/ (relabel scope X.env).names.lookup x = some .free) -> ∃ c, cl.lookup x = some c)
    (hvis : ∀ x ∈ Nc, (relabel scope X.env).names.lookup x = some .cell \/ (relabel scope X.env).names.lookup x = some .free)
    (hs : ∀ x, foldedSetIterable iter X.env x = pure x := by intro _; rfl) : DNU X E (.ListComp elt [⟨tg, iter, ifs, 0⟩] scope pos) (dComp fi tn ci a fc fe) := by
  obtain ⟨wi, pi, ri⟩ := hi
  refine ⟨_, pe_comp (te := wE X.K (fun _ _ _ => False) fe) (tc := wT X.K (fun _ _ _ => False) fc) (g := wG X.K l a) hc pi (fun fp s3 H3 C => (hg fp s3 H3 C).w) hf (fun fp s3 H3 C => (he fp s3 H3 C).w) hclos hkind hcell hnames hcap hNt hsub hhas hvis hs, pu_comp (te := wE X.K (fun _ _ _ => False) fe) (tc := wT X.K (fun _ _ _ => False) fc) (g := wG X.K l a) hc pi (fun fp s3 H3 C => (hg fp s3 H3 C).w) hf (fun fp s3 H3 C => (he fp s3 H3 C).w) hclos hkind hcell hnames hcap hNt hsub hhas hvis hs, fun P H0 al H σ ρ Q s h => ri _ _ _ _ _ _ _ s (Aft.mono (Aft.split h) fun ds H1 s1 h1 J wk => ?_)⟩
  intro p hp
  by_cases hz : ds.length <= sizeLine
  · rw [if_pos hz] at h1
    cases q : compO a fc fe (capD tn ci ρ) ds with
    | none => rw [q] at h1; exact h1.elim
    | some out =>
      rw [q] at h1
      have s2 := s.grow s1
      let al' : Addr -> Prop := fun b => al b /\ b ≠ p
      refine ⟨fun i m H2 => ∃ done rest accv, out = done ++ rest /\ compO a fc fe (capD tn ci ρ) (ds.drop i) = some rest /\ H2 p = some (.lst accv) /\ Reps X.K al' H2 accv done /\ Same X.K H1 H2 /\ (∀ b, H2 b = none -> al' b) /\ m = ds.length - i /\ i <= ds.length /\ done.length <= i, ⟨_, [], out, [], rfl, q, upd_same, .nil, same_upd hp, fun b hb => ?_, rfl, Nat.zero_le _, Nat.le_refl _⟩, ?_⟩
      · have z : b ≠ p := fun w => by rw [w, upd_same] at hb; cases hb
        rw [upd_ne z] at hb
        exact ⟨s2.fresh b hb, z⟩
      · rintro i m H2 ⟨done, rest, accv, e1, e2, e3, e4, e5, e6, rfl, e7, e8⟩
        have x12 : Xt al H1 al' H2 := fun b o n hb w => ⟨⟨hb, ne_of_none w hp⟩, e5.at' _ _ n w⟩
        obtain ⟨w1, w2⟩ := wk al' H2 x12 e6
        by_cases hi : i < ds.length
        · right
          have ed : ds[i]? = some ds[i] := List.getElem?_eq_getElem hi
          obtain ⟨go, yl⟩ := w1 i _ ed
          refine ⟨go, fun x H3 y => ?_⟩
          obtain ⟨rfl, rx⟩ := yl x H3 y
          rw [List.drop_eq_getElem_cons hi] at e2
          unfold compO at e2
          obtain ⟨ρ1, a1, a2⟩ := Option.bind_eq_some_iff.mp e2
          obtain ⟨b, a3, a4⟩ := Option.bind_eq_some_iff.mp a2
          refine ⟨al, H1, al', capD tn ci ρ, ds[i], rs_cap s2 x12 e5 e6 (fun _ z => z.1) tn ci, rx, ρ1, a1, fun σ2 kp s3 => ⟨⟨?_, fun j hj => kp.2 j fun w => absurd (hl j w) (by omega)⟩, al, H1, al', ρ1, s3, ?_⟩⟩
          · rw [kp.1, capS_length]
          · rw [okO_some a3]
            intro H5 s5
            cases b with
            | false =>
              rw [if_neg Bool.false_ne_true] at a4 ⊢
              exact ⟨ds.length - (i + 1), by omega, done, rest, accv, e1, a4, s5.at' _ _ nt_lst e3, e4.up s5, e5.trans s5, fun b hb => e6 b (s5.free hb), rfl, hi, by omega⟩
            | true =>
              rw [if_pos rfl] at a4 ⊢
              obtain ⟨v, a5, a6⟩ := Option.bind_eq_some_iff.mp a4
              obtain ⟨vs, a7, a8⟩ := Option.bind_eq_some_iff.mp a6
              cases a8
              refine ⟨al, H1, al', ρ1, s3.grow s5, ?_⟩
              rw [okO_some a5]
              intro H6 s6 u ru
              have e36 := s6.at' _ _ nt_lst (s5.at' _ _ nt_lst e3)
              have x6 : Xt al' H6 al' (upd H6 p (.lst (accv ++ [u]))) := fun c o _ hc w => ⟨hc, by rw [upd_ne hc.2]; exact w⟩
              refine ⟨accv, e36, by rw [e4.length]; omega, ds.length - (i + 1), by omega, done ++ [v], vs, accv ++ [u], by rw [e1]; simp, a7, upd_same, ((((e4.up s5).up s6).append (.cons ru .nil)).mv x6), ?_, fun c hc => ?_, rfl, hi, by rw [List.length_append]; simp; omega⟩
              · exact ⟨fun c o n w => by
                  rw [upd_ne (ne_of_none w hp)]; exact s6.at' _ _ n (s5.at' _ _ n (e5.at' _ _ n w)), fun c w => by
                  by_cases z : c = p
                  · rw [z]; exact hp
                  · rw [upd_ne z] at w; exact e5.fr c (s5.fr c (s6.fr c w)), fun t => (s6.tt (s5.tt (e5.tt t))).upd (lst_tb e36).1 (lst_tb e36).2⟩
              · have z : c ≠ p := fun w => by rw [w, upd_same] at hc; cases hc
                rw [upd_ne z] at hc
                exact e6 c (s5.free (s6.free hc))
        · left
          have ei : i = ds.length := by omega
          rw [List.drop_eq_nil_of_le (by omega)] at e2
          cases e2
          rw [List.append_nil] at e1
          subst e1
          refine ⟨w2 i (by omega), ?_⟩
          let H' : Hp := fun b => if b = p then none else H2 b
          have hH : upd H' p (.lst accv) = H2 := by
            funext b
            by_cases z : b = p
            · subst z; rw [upd_same, e3]
            · rw [upd_ne z]; show (if b = p then none else H2 b) = _; rw [if_neg z]
          have sm : Same X.K H1 H' := ⟨fun b o n w => by
            show (if b = p then none else H2 b) = _
            rw [if_neg (ne_of_none w hp)]; exact e5.at' _ _ n w, fun b w => by
            by_cases z : b = p
            · rw [z]; exact hp
            · have w' : (if b = p then none else H2 b) = none := w
              rw [if_neg z] at w'; exact e5.fr b w', fun t => (e5.tt t).off (lst_tb e3).1 (lst_tb e3).2 fun b z => by show (if b = p then none else H2 b) = _; rw [if_neg z]⟩
          rw [← hH]
          refine h1 H' sm p accv (by show (if p = p then none else H2 p) = _; rw [if_pos rfl]) (e4.mv fun b o _ hb w => ⟨hb.1, ?_⟩)
          show (if b = p then none else H2 b) = _
          rw [if_neg hb.2]; exact w
  · rw [if_neg hz] at h1
    exact h1.elim
theorem dnu_comp0 (hc : X.calm = true) (hi : DI X E tg iter fi) (hg : ∀ fp s3 H3 C, DG (X.comp scope Nt [] fp s3 H3 C) tg l a) (hl : ∀ j ∈ l, j < tn) (hf : ∀ fp s3 H3 C, DFt (X.comp scope Nt [] fp s3 H3 C) ifs fc)
    (he : ∀ fp s3 H3 C, DE (X.comp scope Nt [] fp s3 H3 C) (fun _ _ _ => False) elt fe)
    (hfree : ∀ y ∈ scope.names, y.2 ≠ .free) (hkind : scope.kind = .function) (hcell : ∀ y ∈ scope.names, y.2 ≠ .cell) (hnames : ∀ x ∈ scope.names, x.2 = .local -> scope.names.lookup x.1 = some .local) (hNt : Nt.length = tn)
    (hs : ∀ x, foldedSetIterable iter X.env x = pure x := by intro _; rfl) : DNU X E (.ListComp elt [⟨tg, iter, ifs, 0⟩] scope pos) (dComp fi tn [] a fc fe) := by
  have e : relabel scope X.env = scope := by
    have : scope.names.map (fun (n, k) => if (k == NameKind.free && X.env.scope.kind == .function && X.env.kindOf n == some .cell) then (n, NameKind.cell) else (n, k)) = scope.names := by
      refine map_eq_self fun y hy => ?_
      obtain ⟨n, k⟩ := y
      have : (k == NameKind.free) = false := by simpa using hfree _ hy
      simp [this]
    unfold relabel
    rw [this]
  refine dnu_comp (cl := []) (Nc := []) (ci := []) hc hi (by rw [List.append_nil]; exact hg) hl (by rw [List.append_nil]; exact hf) (by rw [List.append_nil]; exact he) (closureFor_none hfree) hkind hcell hnames .nil hNt (fun x c z => nomatch z) (fun x z => ?_) (fun x z => nomatch z) hs
  rw [e] at z
  rcases z with z | z
  · exact absurd rfl (hcell _ (PySem.mem_of_lookup z))
  · exact absurd rfl (hfree _ (PySem.mem_of_lookup z))
theorem dn_comp0 (hc : X.calm = true) (hi : DI X E tg iter fi) (hg : ∀ fp s3 H3 C, DG (X.comp scope Nt [] fp s3 H3 C) tg l a) (hl : ∀ j ∈ l, j < tn) (hf : ∀ fp s3 H3 C, DFt (X.comp scope Nt [] fp s3 H3 C) ifs fc)
    (he : ∀ fp s3 H3 C, DE (X.comp scope Nt [] fp s3 H3 C) (fun _ _ _ => False) elt fe)
    (hfree : ∀ y ∈ scope.names, y.2 ≠ .free) (hkind : scope.kind = .function) (hcell : ∀ y ∈ scope.names, y.2 ≠ .cell) (hnames : ∀ x ∈ scope.names, x.2 = .local -> scope.names.lookup x.1 = some .local) (hNt : Nt.length = tn)
    (hs : ∀ x, foldedSetIterable iter X.env x = pure x := by intro _; rfl) : DN X E (.ListComp elt [⟨tg, iter, ifs, 0⟩] scope pos) (dComp fi tn [] a fc fe) := (dnu_comp0 hc hi hg hl hf he hfree hkind hcell hnames hNt hs).dn
end
noncomputable def Its (x : Str) : It := ⟨fun i _ => i < x.cps.size, fun i H v H' => H' = H /\ ∃ c, x.cps[i]? = some c /\ v = .str ⟨#[c]⟩, fun i _ => x.cps.size <= i⟩
theorem turn_ascii {P : Program} {w : World} {K : W.Frag} {tg : Expr} (x : Str) (t : Tok) (it : Addr) : Turn P w K tg (Its x) [it] it (fun i h => h.IsStrIter it "str_ascii_iterator" x t i) where
  mem := by simp
  obj := fun i h st b hb => by
    have e : b = it := by simpa using hb
    subst e
    obtain ⟨o, e, c, d⟩ := st
    exact ⟨o, e, fun v z => by rw [d] at z; cases z⟩
  keep := fun i h h' st k => let ⟨o, ho, r⟩ := st; ⟨o, k it (by simp) o ho, r⟩
  item := by
    intro X hP hw hK hcalm i pins s σ H E I hf st hg
    subst hP hw hK
    obtain ⟨f0, f1, f2, f3, f4, f5⟩ := hf it (by simp)
    have hg' : i < x.cps.size := hg
    refine wpAny_pyNext_ascii_item st (c := x.cps[i]) (by simp [hg']) fun h' st' sb => ?_
    have I1 : Inv X pins σ H { s with heap := h', toks := s.toks + 1 } := I.turned (fun b o hb e => (sb.2 b hb).trans e) f0 f1 f3 f4 f5
    obtain ⟨o, e, c, d⟩ := id st'
    exact ⟨_, rfl, go_of (s := { s with heap := h', toks := s.toks + 1 }) e c d (by decide) ⟨.str ⟨#[x.cps[i]]⟩, H, I1, ⟨_, rfl⟩, ⟨rfl, x.cps[i], by simp [hg'], rfl⟩, st', fun b hb => (hf b hb).1⟩⟩
  done := by
    intro X hP hw hK hcalm i pins s σ H E I hf st hg
    subst hP hw hK
    obtain ⟨f0, f1, f2, f3, f4, f5⟩ := hf it (by simp)
    have hg' : x.cps.size <= i := hg
    exact wpAny_pyNext_ascii_end (I.ok.hd hcalm) st (by simp [hg']) fun h' eb => ⟨rfl, I.turned (t' := s.toks) (fun b o hb e => eb b o hb e) f0 f1 f3 f4 f5⟩
  self := fun _ _ _ _ _ st h => wpAny_pyIter_striter_ascii st h
theorem turn_wide {P : Program} {w : World} {K : W.Frag} {tg : Expr} (x : Str) (t : Tok) (it : Addr) : Turn P w K tg (Its x) [it] it (fun i h => h.IsStrIter it "str_iterator" x t i) where
  mem := by simp
  obj := fun i h st b hb => by
    have e : b = it := by simpa using hb
    subst e
    obtain ⟨o, e, c, d⟩ := st
    exact ⟨o, e, fun v z => by rw [d] at z; cases z⟩
  keep := fun i h h' st k => let ⟨o, ho, r⟩ := st; ⟨o, k it (by simp) o ho, r⟩
  item := by
    intro X hP hw hK hcalm i pins s σ H E I hf st hg
    subst hP hw hK
    obtain ⟨f0, f1, f2, f3, f4, f5⟩ := hf it (by simp)
    have hg' : i < x.cps.size := hg
    refine wpAny_pyNext_wide_item st (c := x.cps[i]) (by simp [hg']) fun h' st' sb => ?_
    have I1 : Inv X pins σ H { s with heap := h', toks := s.toks + 1 } := I.turned (fun b o hb e => (sb.2 b hb).trans e) f0 f1 f3 f4 f5
    obtain ⟨o, e, c, d⟩ := id st'
    exact ⟨_, rfl, go_of (s := { s with heap := h', toks := s.toks + 1 }) e c d (by decide) ⟨.str ⟨#[x.cps[i]]⟩, H, I1, ⟨_, rfl⟩, ⟨rfl, x.cps[i], by simp [hg'], rfl⟩, st', fun b hb => (hf b hb).1⟩⟩
  done := by
    intro X hP hw hK hcalm i pins s σ H E I hf st hg
    subst hP hw hK
    obtain ⟨f0, f1, f2, f3, f4, f5⟩ := hf it (by simp)
    have hg' : x.cps.size <= i := hg
    exact wpAny_pyNext_wide_end (I.ok.hd hcalm) st (by simp [hg']) fun h' eb => ⟨rfl, I.turned (t' := s.toks) (fun b o hb e => eb b o hb e) f0 f1 f3 f4 f5⟩
  self := fun _ _ _ _ _ st h => wpAny_pyIter_striter_wide st h
section
variable {X : Cx} {E : XK} {tg e : Expr} {f : Ev -> R D}
noncomputable def iStr (tl : TE) : TI := fun σ H R => tl σ H fun x H1 => ∃ z, x = .str z /\ R (Its z) H1
theorem pi_str {l : Expr} {tl : TE} (hl : PE X l tl) : PI X tg l (iStr tl) := by
  intro pins s σ H R I h
  refine thn (hl pins s σ H _ I h) fun v s1 ⟨x, H1, I1, r1, q1⟩ => ?_
  obtain ⟨z, e, q⟩ := q1
  subst e
  obtain ⟨t, rfl⟩ := r1
  have fp : ∀ b ∈ [s1.heap.objs.size], FpOk X pins H1 b := fun b hb => by
    have e : b = s1.heap.objs.size := by simpa using hb
    subst e
    exact I1.fpOk (Nat.le_refl _) (I1.hok.fresh (Nat.le_refl _))
  cases ha : z.cps.all (· < 128) with
  | true =>
    refine wpAny_pyIter_ascii ha ?_
    exact ⟨s1.heap.objs.size, [s1.heap.objs.size], _, _, H1, rfl, I1.kept (t' := s1.toks) fun b o e => Heap.get?_push_of_some _ e, turn_ascii z t _, ⟨_, Heap.get?_push_size _ rfl, rfl, rfl⟩, fp, q⟩
  | false =>
    refine wpAny_pyIter_wide ha ?_
    exact ⟨s1.heap.objs.size, [s1.heap.objs.size], _, _, H1, rfl, I1.kept (t' := s1.toks) fun b o e => Heap.get?_push_of_some _ e, turn_wide z t _, ⟨_, Heap.get?_push_size _ rfl, rfl, rfl⟩, fp, q⟩
noncomputable def signs (z : Str) : List D := z.cps.toList.map fun c => .str ⟨#[c]⟩
theorem wk_str {K : W.Frag} {al : Addr -> Prop} {H : Hp} {z : Str} : Wk K al H (Its z) (signs z) := by
  intro al' H' x fr
  refine ⟨fun i d h => ?_, fun i h => ?_⟩
  · unfold signs at h
    rw [List.getElem?_map, Array.getElem?_toList] at h
    cases q : z.cps[i]? with
    | none => rw [q] at h; cases h
    | some c =>
      rw [q] at h; cases h
      refine ⟨(Array.getElem?_eq_some_iff.mp q).1, fun y H'' w => ⟨w.1, ?_⟩⟩
      obtain ⟨c', e1, e2⟩ := w.2
      rw [q] at e1; cases e1
      subst e2
      exact .str _
  · unfold signs at h
    show z.cps.size <= i
    simpa using h
noncomputable def asI (d : D) : R (List D) := match d with
  | .lst ds => .ok ds
  | .tup ds => .ok ds
  | .str z => .ok (signs z)
  | _ => .bad
theorem di_any (he : DE X E e f) : DI X E tg e (fun ρ => (f ρ).bind asI) := by
  obtain ⟨t, p, r⟩ := he
  refine ⟨_, pi_or (pi_list p) (pi_or (pi_tup p) (pi_str p)), fun P H0 al H σ ρ R s h => ?_⟩
  dsimp only at h
  cases q : f ρ with
  | bad => rw [q] at h; exact h.elim
  | ex c ns ds => rw [q] at h; exact .inl (r _ _ _ _ _ _ _ s (by rw [q]; exact h))
  | ok d =>
    rw [q] at h
    cases d with
    | lst ds =>
      left
      refine r _ _ _ _ _ _ _ s ?_
      rw [q]
      intro H1 s1 v rv
      obtain ⟨a, vs, e1, e2, e3⟩ := rv.lstIn
      subst e1
      exact ⟨a, rfl, ⟨vs, e2⟩, h H1 s1 _ (wk_list rv)⟩
    | tup ds =>
      right; left
      refine r _ _ _ _ _ _ _ s ?_
      rw [q]
      intro H1 s1 v rv
      obtain ⟨a, vs, e1, e2, e3⟩ := rv.tupIn
      subst e1
      exact ⟨a, rfl, ⟨vs, e2⟩, h H1 s1 _ (wk_tup rv)⟩
    | str z =>
      right; right
      refine r _ _ _ _ _ _ _ s ?_
      rw [q]
      intro H1 s1 v rv
      cases rv
      exact ⟨z, rfl, h H1 s1 _ wk_str⟩
    | _ => exact (h : False).elim
end
noncomputable def tyName : D -> Option String
  | .non => some "NoneType"
  | .bl _ => some "bool"
  | .int _ => some "int"
  | .str _ => some "str"
  | .lst _ => some "list"
  | .tup _ => some "tuple"
  | _ => none
noncomputable def knowT : List String := ["NoneType", "bool", "int", "str", "list", "tuple"]
theorem kit_all (K : W.Frag) : ∀ T ∈ knowT, ∀ n ∈ knowT, W.kitOne K (.type T) (.type n) = some (T == n || (T == "bool" && n == "int")) := by
  intro T hT n hn
  simp only [knowT, List.mem_cons, List.not_mem_nil, or_false] at hT hn
  rcases hT with rfl | rfl | rfl | rfl | rfl | rfl <;> rcases hn with rfl | rfl | rfl | rfl | rfl | rfl <;> first | rfl | kernel_rfl
noncomputable def isD : List D -> R D
  | [d, .ty n] => match tyName d with
    | some T => if knowT.contains n then .ok (.bl (T == n || (T == "bool" && n == "int"))) else .bad
    | none => .bad
  | _ => .bad
section
variable {X : Cx} {E : XK}
noncomputable def rIsD (X : Cx) : List V -> Hp -> VK -> Prop := fun xs H Q => ∃ x n T, xs = [x, .ty n] /\ knowT.contains T = true /\ knowT.contains n = true /\
  ((x = .non /\ T = "NoneType") \/ (∃ b, x = .bl b /\ T = "bool") \/ (∃ i, x = .int i /\ T = "int") \/ (∃ z, x = .str z /\ T = "str") \/ (∃ a vs, x = .ref a /\ SqL X.K H a vs /\ T = "list") \/ (∃ a vs, x = .ref a /\ SqT X.K H a vs /\ T = "tuple")) /\ Q (.bl (T == n || (T == "bool" && n == "int"))) H
theorem call_isD : CallR X (.builtin "isinstance") (rIsD X) := by
  intro pins s σ H xs us Q I r h
  obtain ⟨x, n, T, rfl, kT, kn, hx, q⟩ := h
  obtain ⟨u, c, rfl, ru, rc⟩ := vals2 r
  cases rc
  have e := kit_all X.K T (by simpa using kT) n (by simpa using kn)
  have fin : ∀ tk, EP X pins σ Q (.bool (T == n || (T == "bool" && n == "int"))) { s with toks := tk } := fun tk => ⟨.bl _, H, I.tok tk, rfl, q⟩
  rcases hx with ⟨rfl, rfl⟩ | ⟨b, rfl, rfl⟩ | ⟨i, rfl, rfl⟩ | ⟨z, rfl, rfl⟩ | ⟨a, vs, rfl, ha, rfl⟩ | ⟨a, vs, rfl, ha, rfl⟩
  · cases ru; exact W.kia_one W.kitx_none I.kIn True.intro e (fun z => nomatch z) fin
  · cases ru; exact W.kia_one W.kitx_bool I.kIn True.intro e (fun z => nomatch z) fin
  · obtain ⟨t, rfl⟩ := ru; exact W.kia_one W.kitx_int I.kIn True.intro e (fun z => nomatch z) fin
  · obtain ⟨t, rfl⟩ := ru; exact W.kia_one W.kitx_str I.kIn True.intro e (fun z => nomatch z) fin
  · cases ru
    obtain ⟨its, _, pl, _⟩ := I.list ha
    obtain ⟨o, k, e1, e2, _⟩ := pl
    exact W.kia_one W.kitx_list I.kIn ⟨o, e1, e2⟩ e (fun z => nomatch z) fin
  · cases ru
    obtain ⟨its, _, pl, _⟩ := I.tuple ha
    obtain ⟨o, e1, e2, _⟩ := pl
    exact W.kia_one W.kitx_tuple I.kIn ⟨o, e1, e2⟩ e (fun z => nomatch z) fin
theorem call_isinstD : CallD X E (.builtin "isinstance") isD := by
  refine ⟨_, call_isD, fun al H xs ds Q fr r h => ?_⟩
  unfold isD at h
  split at h
  · rename_i d n
    obtain ⟨v, u, rfl, q, q2⟩ := Reps.two r
    cases q2
    cases e : tyName d with
    | none => rw [e] at h; exact h.elim
    | some T =>
      rw [e] at h
      dsimp only at h
      split at h
      · rename_i hn
        have hq := h H (.refl H) _ (.bl _)
        cases q with
        | non => cases e; exact ⟨_, n, _, rfl, rfl, hn, .inl ⟨rfl, rfl⟩, hq⟩
        | bl b => cases e; exact ⟨_, n, _, rfl, rfl, hn, .inr (.inl ⟨b, rfl, rfl⟩), hq⟩
        | int b => cases e; exact ⟨_, n, _, rfl, rfl, hn, .inr (.inr (.inl ⟨b, rfl, rfl⟩)), hq⟩
        | str b => cases e; exact ⟨_, n, _, rfl, rfl, hn, .inr (.inr (.inr (.inl ⟨b, rfl, rfl⟩))), hq⟩
        | lst p _ => cases e; exact ⟨_, n, _, rfl, rfl, hn, .inr (.inr (.inr (.inr (.inl ⟨_, _, rfl, p.elim (fun z => .inl z.2) KL.sq, rfl⟩)))), hq⟩
        | tup p _ => cases e; exact ⟨_, n, _, rfl, rfl, hn, .inr (.inr (.inr (.inr (.inr ⟨_, _, rfl, p.elim (fun z => .inl z.2) .inr, rfl⟩)))), hq⟩
        | _ => cases e
      · exact h.elim
  · exact h.elim
end
end P2
namespace P2
open PySem L2 PyProof.Rows
theorem bt_isinstance : bootBuiltins "isinstance" = some (.builtin "isinstance") := by decide +kernel
theorem bt_len : bootBuiltins "len" = some (.builtin "len") := by decide +kernel
theorem bt_abs : bootBuiltins "abs" = some (.builtin "abs") := by decide +kernel
theorem bt_all : bootBuiltins "all" = some (.builtin "all") := by decide +kernel
theorem bt_any : bootBuiltins "any" = some (.builtin "any") := by decide +kernel
theorem bt_int : bootBuiltins "int" = some (.type "int") := by decide +kernel
theorem bt_bool : bootBuiltins "bool" = some (.type "bool") := by decide +kernel
theorem bt_str : bootBuiltins "str" = some (.type "str") := by decide +kernel
theorem bt_tuple : bootBuiltins "tuple" = some (.type "tuple") := by decide +kernel
section
variable {X : Cx} {E : XK} {x : Str} {pos : Pos}
inductive GlV (mg : Str -> Option Value) (x : Str) : D -> Prop
  | int {i : Int} {t : Tok} : mg x = some (.int i t) -> GlV mg x (.int i)
  | str {z : Str} {t : Tok} : mg x = some (.str z t) -> GlV mg x (.str z)
theorem de_gl {d : D} (hg : Gl X x) (h : GlV X.mg x d) (hdb : (x == ("__debug__" : Str)) = false := by decide) : DE X E (.Name x pos) (dC d) := by
  cases h with
  | @int i t h => exact de_glob (v := .int i) hg h ⟨t, rfl⟩ (fun _ _ => .int _) hdb
  | @str z t h => exact de_glob (v := .str z) hg h ⟨t, rfl⟩ (fun _ _ => .str _) hdb
noncomputable def xfldD (C : Addr) (field : Str) : D -> R D
  | .exc c ns ds => if c = C then (match (ns.zip ds).lookup field with
    | some d => .ok d
    | none => .bad) else .bad
  | _ => .bad
theorem Reps.look {K : W.Frag} {al : Addr -> Prop} {H : Hp} {field : Str} {d : D} : ∀ {ns : List Str} {vs : List V} {ds : List D}, Reps K al H vs ds -> (ns.zip ds).lookup field = some d -> ∃ v, (ns.zip vs).lookup field = some v /\ Rep K al H v d
  | [], _, _, _, h => by simp at h
  | _ :: _, _, [], _, h => by simp at h
  | n :: ns, _, e :: ds, r, h => by
    cases r with
    | cons a b =>
      rw [List.zip_cons_cons, List.lookup_cons] at h ⊢
      cases q : field == n with
      | true => rw [q] at h; cases h; exact ⟨_, rfl, a⟩
      | false => rw [q] at h; exact Reps.look b h
theorem de_xfld {e : Expr} {f : Ev -> R D} {field : Str} {C fI : Addr} (c : XCls X.K C fI field) (he : DE X E e f) (hb : attributeBase e field X.env (eval e X.env) = eval e X.env) : DE X E (.Attribute e field pos) (d1 (xfldD C field) f) := by
  obtain ⟨t, p, r⟩ := he
  refine ⟨_, pe_fldX c p hb, fun P H0 al H σ ρ Q s h => r _ _ _ _ _ _ _ s (Aft.mono (Aft.split h) fun d H1 s1 h1 v rv => ?_)⟩
  unfold xfldD at h1
  split at h1
  · rename_i c' ns ds
    by_cases z : c' = C
    · rw [if_pos z] at h1
      subst z
      cases q : (ns.zip ds).lookup field with
      | none => rw [q] at h1; exact h1.elim
      | some d =>
        rw [q] at h1
        cases rv with
        | exc p1 p2 p3 p4 p5 =>
          obtain ⟨v, e1, e2⟩ := Reps.look p5 q
          exact ⟨_, _, _, v, rfl, p2, p4, e1, h1 H1 (.refl H1) _ e2⟩
        | exc0 p1 p2 => simp at q
    · rw [if_neg z] at h1; exact h1.elim
  · exact h1.elim
end
section
variable {P : Program} {w : World} {K : W.Frag} {mg : Str -> Option Value} {base : Heap}
theorem ok_xinit {cn : Str} {st : Stmt} {fI : Addr} {fd : FuncData} {C : Addr} {field : Str} {k : Nat} {body : List Stmt} (c : XCls K C fI field) (F : Fun K "__init__" cn st fI fd) (S : FnScope ["self", field] ["self", field] (defScope st)) {p1 p2 p3 p4 : Pos}
    (hb : defBody st = [.Assign [.Attribute (.Name "self" p1) field p2] (.Name field p3) p4]) (h1 : (defScope st).names.lookup ("self" : Str) = some .local) (h2 : (defScope st).names.lookup field = some .local) (hd : (field == ("__debug__" : Str)) = false) (hd2 : (field == ("__classdict__" : Str)) = false) :
    FnOk P w K mg base CX0 (k + 1) fI fd ["self", field] (spXI C field) := by
  refine F.ok S (fun vs H Q E h => ?_) (fun cdv A outer s H vs Q E hr h => ?_)
  · obtain ⟨e, t, v, rfl, _⟩ := h; rfl
  obtain ⟨e, t, v, rfl, he, q⟩ := h
  rw [hb]
  refine ⟨_, pss_one (ps_fldX c (pe_var (i := 0) rfl (.inl h1)) (pe_var (i := 1) rfl (.inl h2) hd hd2) (by rfl)), ?_⟩
  exact ⟨v, rfl, .ref e, rfl, e, t, rfl, he, fun dx h3 h4 => q dx h3 h4⟩
end
end P2
namespace Fx
open PySem
section
variable {prog : Program} {w : World} {A : Around} {E : Value -> Shared -> Prop} {h : Heap} {g : Array GenState} {d : Drawn} {t : Nat} {os : OsState}
variable {nm q : Str} {C N : Addr} {bs bm bmB : List Value} {hdct : Bool} {sn : List Str} {sub : List Value} {ab : Bool} {col : Option Bool} {dd : Option Addr} {k0 k1 k2 k3 k5 : Option Value} {newId : String}
theorem class_get_exc {x : Addr} {o : Obj} {R : Result -> Shared -> Prop} (hC : h.get? C = some (excClassObj nm q C N bs bm hdct sn sub ab col dd k0 k1 k2 k3 k5 newId)) (hob : bm.contains (.type "object") = true)
    (hx : h.get? x = some o) (hc : o.cls = .ref C) (hq : R (.ok (.ret (.ref C))) ⟨h, g, d, t, os⟩) :
    codeAny (model prog w) A (.call (.builtin "getset_descriptor.__get__") ⟨[.builtin "object.__class__", .ref x, .ref C], []⟩) R ⟨h, g, d, t, os⟩ := by
  have hT5 : (⟨h, g, d, t, os⟩ : Shared).TypeIs (.builtin "object.__class__") "getset_descriptor" := PySem.F.typeOf_object_class
  have ow : ".".intercalate ("object.__class__".cutAt '.').dropLast = "object" := by decide +kernel
  have hcB : (Value.ref C :: bm).contains (.type (".".intercalate ("object.__class__".cutAt '.').dropLast)) = true := by rw [ow, List.contains_cons, hob, Bool.or_true]
  refine codeAny_call_builtin PySem.F.slot_gs_get.plain PySem.F.entry_gs_get (PySem.F.slot_gs_get.check _ _ _ _ _ _ _ _ hT5 (PySem.F.args_gs_get _ _ _) ?_)
  repeat (any_goals (first | assumption | (with_reducible refine wpAny_loadPart_at hx ?_; rw [hc]) | (with_reducible refine wpAny_isSubtype_exc hC ?_; rw [hcB]) | wp_step))
  refine ⟨Code.quiet_builtin _ (by decide +kernel), codeAny_builtin PySem.F.entry_object_class ?_⟩
  repeat (any_goals (first | assumption | (with_reducible refine wpAny_loadPart_at hx ?_; rw [hc]) | wp_step))
theorem class_entry_exc {x : Addr} {o : Obj} {tk : Tok} {Q : Fin -> Shared -> Prop} (hC : h.get? C = some (excClassObj nm q C N bs bm hdct sn sub ab col dd k0 k1 k2 k3 k5 newId)) (hob : bm.contains (.type "object") = true)
    (l3 : Tlk h C "__class__" (some (.builtin "object.__class__"))) (hx : h.get? x = some o) (hc : o.cls = .ref C) (hq : Q (.done (.ret (.ref C))) ⟨h, g, d, t, os⟩) :
    wpAny (model prog w) A (Builtin.«object.__getattribute__» ⟨[.ref x, .str "__class__" tk], []⟩) Q E ⟨h, g, d, t, os⟩ := by
  have hT5 : (⟨h, g, d, t, os⟩ : Shared).TypeIs (.builtin "object.__class__") "getset_descriptor" := PySem.F.typeOf_object_class
  have f5 := PySem.F.typeOf_object_class
  have f6 := PySem.F.slot_gs_get.lookup
  have f7 := PySem.F.slot_gs_set.lookup
  repeat (any_goals (first | assumption | (with_reducible refine wpAny_loadPart_at hx ?_; rw [hc]) | with_reducible refine l3 _ _ _ _ _ _ _ _ ?_ | wp_step))
  refine class_get_exc hC hob hx hc ?_
  repeat (any_goals (first | assumption | wp_step))
theorem check_ga_excH {M : Model} {x : Addr} {o : Obj} {nv : Value} {Q : Unit -> Shared -> Prop} (hC : h.get? C = some (excClassObj nm q C N bs bm hdct sn sub ab col dd k0 k1 k2 k3 k5 newId))
    (hob : bm.contains (.type "BaseException") = true) (hx : h.get? x = some o) (hc : o.cls = .ref C) (hq : Q () ⟨h, g, d, t, os⟩) : wpAny M A (checkBuiltinCall "BaseException.__getattribute__" ⟨[.ref x, nv], []⟩) Q E ⟨h, g, d, t, os⟩ := by
  have hk : builtinKind "BaseException.__getattribute__" = some .slot := by decide +kernel
  have hsp : splitId "BaseException.__getattribute__" = some ("BaseException", "__getattribute__") := by decide +kernel
  have hcB : (Value.ref C :: bm).contains (.type "BaseException") = true := by rw [List.contains_cons, hob, Bool.or_true]
  have ha := PySem.F.args_bexc_ga (.ref x) nv
  simp only [checkBuiltinCall, hk, hsp]
  refine wpAny_bind ?_
  unfold isInstance
  repeat (first | (with_reducible refine wpAny_loadPart_at hx ?_; rw [hc]) | (with_reducible refine wpAny_isSubtype_exc hC ?_; rw [hcB]) | wp_step)
  exact hq
theorem class_by_exc {x : Addr} {o : Obj} {tk : Tok} {Q : Value -> Shared -> Prop} (hC : h.get? C = some (excClassObj nm q C N bs bm hdct sn sub ab col dd k0 k1 k2 k3 k5 newId)) (hb : bm.contains (.type "BaseException") = true) (hob : bm.contains (.type "object") = true)
    (l1 : Tlk h C "__getattribute__" (some (.builtin "BaseException.__getattribute__"))) (l2 : Tlk h C "__getattr__" none) (l3 : Tlk h C "__class__" (some (.builtin "object.__class__"))) (hx : h.get? x = some o) (hc : o.cls = .ref C) (hq : Q (.ref C) ⟨h, g, d, t, os⟩) :
    wpAny (model prog w) A (getAttrBy (.ref x) (.str "__class__" tk) false) Q E ⟨h, g, d, t, os⟩ := by
  have FB := PySem.F.attr_ValueError
  have f3 := FB.ga.bind (.ref x)
  have z2 : (Value.builtin "BaseException.__getattribute__" == Value.builtin "object.__getattribute__") = false := by decide +kernel
  have z1 : (onTheHeap (Value.ref C) && Value.builtin "BaseException.__getattribute__" == Value.builtin "object.__getattribute__") = false := by rw [z2]; rfl
  repeat (any_goals (first | assumption | (with_reducible refine wpAny_loadPart_at hx ?_; rw [hc]) | with_reducible refine l1 _ _ _ _ _ _ _ _ ?_ | with_reducible refine l2 _ _ _ _ _ _ _ _ ?_ | wp_step))
  refine codeAny_call_builtin FB.ga.plain PySem.F.entry_bexc_ga (check_ga_excH hC hb hx hc (class_entry_exc hC hob l3 hx hc ?_))
  repeat (any_goals (first | assumption | wp_step))
theorem class_attr_exc {x : Addr} {o : Obj} {Q : Option Value -> Shared -> Prop} (hC : h.get? C = some (excClassObj nm q C N bs bm hdct sn sub ab col dd k0 k1 k2 k3 k5 newId)) (hb : bm.contains (.type "BaseException") = true) (hob : bm.contains (.type "object") = true)
    (l1 : Tlk h C "__getattribute__" (some (.builtin "BaseException.__getattribute__"))) (l2 : Tlk h C "__getattr__" none) (l3 : Tlk h C "__class__" (some (.builtin "object.__class__"))) (hx : h.get? x = some o) (hc : o.cls = .ref C) (hq : Q (some (.ref C)) ⟨h, g, d, t + 1, os⟩) :
    wpAny (model prog w) A (getAttr? (.ref x) "__class__") Q E ⟨h, g, d, t, os⟩ := by
  unfold getAttr? getAttrBy?
  repeat (any_goals (first | assumption | with_reducible apply class_by_exc hC hb hob l1 l2 l3 hx hc | wp_step))
end
end Fx
namespace L2
open PySem PySem.Spec PyProof.Rows
structure YCls (K : PySem.W.Frag) (C : Addr) : Prop where
  ob : ∀ h : Heap, K.In h -> ∃ nm q N bs bm hdct sn sub ab col dd k0 k1 k2 k3 k5 newId, h.get? C = some (excClassObj nm q C N bs bm hdct sn sub ab col dd k0 k1 k2 k3 k5 newId) /\ bm.contains (.type "BaseException") = true /\ bm.contains (.type "object") = true
  ga : PySem.W.findIn K (.ref C) "__getattribute__" = some (some (.builtin "BaseException.__getattribute__"))
  gn : PySem.W.findIn K (.ref C) "__getattr__" = some none
  cl : PySem.W.findIn K (.ref C) "__class__" = some (some (.builtin "object.__class__"))
theorem XCls.y {K : PySem.W.Frag} {C fI : Addr} {field : Str} (c : XCls K C fI field) (cl : PySem.W.findIn K (.ref C) "__class__" = some (some (.builtin "object.__class__"))) : YCls K C := by
  refine ⟨fun h k => ?_, c.ga, c.gn, cl⟩
  obtain ⟨bm, N, nm, qn, bs, sn, sub, ab, col, dd, k0, k1, k2, k3, k5, all⟩ := exc_objI c.cls
  obtain ⟨hC, T, _⟩ := all _ k
  exact ⟨_, _, _, _, _, _, _, _, _, _, _, _, _, _, _, _, _, hC, T.hasType (by rfl), T.hasType (by rfl)⟩
structure ZCls (K : PySem.W.Frag) (C : Addr) : Prop where
  cls : PySem.W.excIn K C [.type "ValueError", .type "Exception", .type "BaseException", .type "object"] "ValueError.__new__" = true
  kp : PySem.W.keepIn K (.ref C) = true
  ga : PySem.W.findIn K (.ref C) "__getattribute__" = some (some (.builtin "BaseException.__getattribute__"))
  gn : PySem.W.findIn K (.ref C) "__getattr__" = some none
  cl : PySem.W.findIn K (.ref C) "__class__" = some (some (.builtin "object.__class__"))
theorem ZCls.y {K : PySem.W.Frag} {C : Addr} (c : ZCls K C) : YCls K C := by
  refine ⟨fun h k => ?_, c.ga, c.gn, c.cl⟩
  obtain ⟨bm, NS, nm, qn, bs, hdct, sn, sub, ab, col, dd, k0, k1, k2, k3, k5, mN, hC, hN, hni, TL⟩ := exc_obj k c.cls
  exact ⟨_, _, _, _, _, _, _, _, _, _, _, _, _, _, _, _, _, hC, TL.hasType (by rfl), TL.hasType (by rfl)⟩
theorem kitx_exc {K : PySem.W.Frag} {x C : Addr} (c : YCls K C) : PySem.W.KitX K (.ref x) (.ref C) (fun h => ∃ o, h.get? x = some o /\ o.cls = .ref C) where
  ty := fun M h k p => by
    obtain ⟨o, h1, h2⟩ := p
    exact h2 ▸ (PySem.W.Looks.ld h1).andThen .now
  it := fun M h k p => by
    obtain ⟨nm, q, N, bs, bm, hdct, sn, sub, ab, col, dd, k0, k1, k2, k3, k5, ni, hC, _⟩ := c.ob h k
    intro A' Q' E' s' k' q'
    unfold isType loadHead
    exact wpAny_bind (wpAny_loadPart (k' _ _ hC) (wpAny_pure q'))
  ne := fun h tp dd its n sl k htp => by
    obtain ⟨nm, q, N, bs, bm, hdct, sn, sub, ab, col, dd', k0, k1, k2, k3, k5, ni, hC, _⟩ := c.ob h k
    refine Bool.eq_false_iff.mpr fun z => ?_
    have e : C = tp := Value.ref.inj (beq_iff_eq.mp z)
    subst e
    have z := congrArg Obj.cls (Option.some.inj (hC.symm.trans htp))
    have z2 : Value.type "type" = Value.type "tuple" := z
    exact absurd (Value.type.inj z2) (by decide)
  ca := fun {prog w A E Q s} k p hq => by
    obtain ⟨o, h1, h2⟩ := p
    obtain ⟨nm, q, N, bs, bm, hdct, sn, sub, ab, col, dd', k0, k1, k2, k3, k5, ni, hC, e1, e2⟩ := c.ob _ k
    obtain ⟨h, g, d, t, os⟩ := s
    exact Fx.class_attr_exc hC e1 e2 (tlk_of k c.ga) (tlk_of k c.gn) (tlk_of k c.cl) h1 h2 hq
section
variable {X : Cx}
theorem call_isX : CallR X (.builtin "isinstance") (fun xs H Q => ∃ a c d cv u b, xs = [.ref a, cv] /\ H a = some (excX a c d) /\ YCls X.K c /\ (∀ z, RelV cv z -> z = u) /\ PySem.W.kitOne X.K (.ref c) u = some b /\ Q (.bl b) H) := by
  intro pins s σ H xs us Q I r h
  obtain ⟨a, c, d, cv, u, b, rfl, ha, yc, un, e, q⟩ := h
  obtain ⟨u1, u2, rfl, r1, r2⟩ := vals2 r
  cases un u2 r2
  cases r1
  obtain ⟨⟨oe, vs, h1, h2, h3, h4⟩, _, _⟩ := I.hok a _ ha
  exact PySem.W.kia_one (kitx_exc yc) I.kIn ⟨oe, h1, h2⟩ e (fun z => nomatch z) fun tk => ⟨.bl b, H, I.tok tk, rfl, q⟩
theorem mt_sub {K : PySem.W.Frag} {W : Addr} (cW : YCls K W) {Ce : Addr} (hs : PySem.W.kitOne K (.ref Ce) (.ref W) = some true) (h : Heap) (g : Array GenState) (d : Drawn) (tk : Nat) (os : OsState) (e : Addr) (oe : Obj) (M : Model) (A : Around) (E : Value -> Shared -> Prop) (Q : Bool -> Shared -> Prop)
    (k : K.In h) (he : h.get? e = some oe) (ho : oe.cls = .ref Ce) (hq : Q true ⟨h, g, d, tk, os⟩) : wpAny M A (excMatches (.ref e) (.ref W)) Q E ⟨h, g, d, tk, os⟩ := by
  obtain ⟨nm, q, N, bs, bm, hdct, sn, sub, ab, col, dd', k0, k1, k2, k3, k5, ni, hC, e1, e2⟩ := cW.ob _ k
  unfold PySem.W.kitOne at hs
  split at hs
  · rename_i z
    have : Ce = W := Value.ref.inj (beq_iff_eq.mp z)
    subst this
    exact wpAny_excMatches_sub_self hC he ho e1 hq
  · obtain ⟨_, _, L⟩ := PySem.W.kit_cls (M := M) k hs
    have hcB : (Value.ref W :: bm).contains (.type "BaseException") = true := by rw [List.contains_cons, e1, Bool.or_true]
    have f := tc_notTuple
    unfold excMatches
    repeat (first | (with_reducible refine wpAny_loadPart_at he ?_; rw [ho]) | with_reducible refine wpAny_loadPart_at hC ?_ | (with_reducible refine wpAny_isSubtype_exc hC ?_; rw [hcB]) | wp_step)
    refine L.at ?_
    repeat wp_step
    exact hq
end
end L2
namespace P2
open PySem L2 PySem.Spec
open PyProof.Rows hiding St
section
variable {X : Cx} {E : XK} {x : Str} {pos : Pos}
theorem bt_ValueError : bootBuiltins "ValueError" = some (.type "ValueError") := by decide +kernel
theorem de_cls {C : Addr} (hg : Gl X x) (hm : X.mg x = some (.ref C)) (hdb : (x == ("__debug__" : Str)) = false := by decide) : DE X E (.Name x pos) (dC (.ref C)) := de_glob (v := .ref C) hg hm rfl (fun _ _ => .ref _) hdb
theorem callr_or {f : Value} {r r' : List V -> Hp -> VK -> Prop} (h : CallR X f r) (h' : CallR X f r') : CallR X f (fun xs H Q => r xs H Q \/ r' xs H Q) :=
  fun pins s σ H xs us Q I rx q => q.elim (h pins s σ H xs us Q I rx) (h' pins s σ H xs us Q I rx)
noncomputable def clsU : D -> Option Value
  | .ref C => some (.ref C)
  | .ty T => some (.type T)
  | _ => none
noncomputable def isXD (q : Addr -> Value -> Option Bool) (ds : List D) : R D := match ds with
  | [.exc c _ _, d] => (match (clsU d).bind (q c) with
    | some b => .ok (.bl b)
    | none => .bad)
  | ds => isD ds
noncomputable def IsOk (K : W.Frag) (q : Addr -> Value -> Option Bool) : Prop := ∀ c u b, q c u = some b -> YCls K c /\ W.kitOne K (.ref c) u = some b
theorem call_isXD {q : Addr -> Value -> Option Bool} (hI : IsOk X.K q) : CallD X E (.builtin "isinstance") (isXD q) := by
  obtain ⟨r0, c0, d0⟩ := call_isinstD (X := X) (E := E)
  refine ⟨_, callr_or call_isX c0, fun al H xs ds Q fr r h => ?_⟩
  unfold isXD at h
  split at h
  · rename_i c ns es d
    obtain ⟨v, u, rfl, p, p2⟩ := Reps.two r
    left
    cases z : (clsU d).bind (q c) with
    | none => rw [z] at h; exact h.elim
    | some b =>
      rw [z] at h
      have hq := h H (.refl H) _ (.bl _)
      obtain ⟨w, z1, z2⟩ := Option.bind_eq_some_iff.mp z
      obtain ⟨yc, kk⟩ := hI _ _ _ z2
      have ha : ∃ a dx, v = .ref a /\ H a = some (excX a c dx) := by
        cases p with
        | exc p1 p2 p3 p4 p5 => exact ⟨_, _, rfl, p2⟩
        | exc0 p1 p2 => exact ⟨_, _, rfl, p2⟩
      obtain ⟨a, dx, rfl, ha⟩ := ha
      refine ⟨a, c, dx, u, w, b, rfl, ha, yc, fun y hy => ?_, kk, hq⟩
      cases p2 with
      | ref C => cases z1; exact hy
      | ty T => cases z1; exact hy
      | _ => cases z1
  · exact .inr (d0 al H xs ds Q fr r h)
mutual
noncomputable def pyD : D -> Option PyData
  | .non => some .none
  | .bl b => some (.bool b)
  | .int i => some (.int i)
  | .str z => some (.str z)
  | .tup ds => (pyDs ds).map .tuple
  | .lst ds => (pyDs ds).map .list
  | _ => none
noncomputable def pyDs : List D -> Option (List PyData)
  | [] => some []
  | d :: ds => (pyD d).bind fun p => (pyDs ds).map (p :: ·)
end
mutual
theorem rep_reads {pins : List (Addr × Obj)} {σ : L2.St} {H : Hp} {s : Shared} (I : Inv X pins σ H s) {al : Addr -> Prop} : ∀ {v : V} {d : D} {u : Value} {p : PyData}, Rep X.K al H v d -> RelV v u -> pyD d = some p -> ∃ as, Reads s.heap u p as
  | _, _, _, _, .non, r, e => by cases r; cases e; exact ⟨_, .none⟩
  | _, _, _, _, .bl b, r, e => by cases r; cases e; exact ⟨_, .bool _⟩
  | _, _, _, _, .int b, r, e => by obtain ⟨t, rfl⟩ := r; cases e; exact ⟨_, .int _ _⟩
  | _, _, _, _, .str b, r, e => by obtain ⟨t, rfl⟩ := r; cases e; exact ⟨_, .str _ _⟩
  | _, _, _, _, .ty b, r, e => by cases e
  | _, _, _, _, .ref b, r, e => by cases e
  | _, _, _, _, .tup (vs := vs) z q, r, e => by
    cases r
    have e' : (pyDs _).map PyData.tuple = some _ := e
    obtain ⟨ps, e1, rfl⟩ := Option.map_eq_some_iff.mp e'
    have z' : SqT X.K H _ vs := z.elim (fun z => .inl z.2) .inr
    obtain ⟨its, rv, ⟨o, h1, h2, n, h3⟩, _⟩ := I.tuple z'
    obtain ⟨as, w⟩ := reps_reads I q rv e1
    exact ⟨as, reads_tuple_at h1 h2 h3 (by simpa using w)⟩
  | _, _, _, _, .lst (vs := vs) z q, r, e => by
    cases r
    have e' : (pyDs _).map PyData.list = some _ := e
    obtain ⟨ps, e1, rfl⟩ := Option.map_eq_some_iff.mp e'
    have z' : SqL X.K H _ vs := z.elim (fun z => .inl z.2) KL.sq
    obtain ⟨its, rv, ⟨o, n, h1, h2, h3, h4⟩, _⟩ := I.list z'
    obtain ⟨as, w⟩ := reps_reads I q rv e1
    exact ⟨_, reads_list_at h1 h2 h4 (by simpa using w)⟩
  | _, _, _, _, .exc _ _ _ _ _, r, e => by cases e
  | _, _, _, _, .exc0 _ _, r, e => by cases e
theorem reps_reads {pins : List (Addr × Obj)} {σ : L2.St} {H : Hp} {s : Shared} (I : Inv X pins σ H s) {al : Addr -> Prop} : ∀ {vs : List V} {ds : List D} {us : List Value} {ps : List PyData}, Reps X.K al H vs ds -> Vals vs us -> pyDs ds = some ps -> ∃ as, ReadsAll s.heap us ps as
  | _, _, _, _, .nil, r, e => by cases r; cases e; exact ⟨_, .nil⟩
  | _, _, _, _, .cons p q, r, e => by
    cases r with
    | cons r1 r2 =>
      obtain ⟨p1, e1, e2⟩ := Option.bind_eq_some_iff.mp e
      obtain ⟨ps, e3, rfl⟩ := Option.map_eq_some_iff.mp e2
      obtain ⟨as, w1⟩ := rep_reads I p r1 e1
      obtain ⟨bs, w2⟩ := reps_reads I q r2 e3
      exact ⟨_, .cons w1 w2⟩
end
end
section
variable {X : Cx} {E : XK} {tg iter elt : Expr} {ifs : List Expr} {scope : Scope} {pos : Pos} {fi : Ev -> R (List D)} {l : List Nat} {a : D -> Ev -> Option Ev} {fc : Ev -> R Bool} {fe : Ev -> R D} {tn : Nat} {Nt : List Str}
end
noncomputable def mtX (q : Addr -> Value -> Option Bool) (W : Addr) (c : Addr) : Bool := q c (.ref W) == some true
theorem mt_X {K : W.Frag} {q : Addr -> Value -> Option Bool} {W : Addr} (hI : IsOk K q) (yW : YCls K W) (h : Heap) (g : Array GenState) (d : Drawn) (tk : Nat) (os : OsState) (e Ce : Addr) (oe : Obj) (M : Model) (A : Around) (E : Value -> Shared -> Prop) (Q : Bool -> Shared -> Prop)
    (k : K.In h) (hc : mtX q W Ce = true) (he : h.get? e = some oe) (ho : oe.cls = .ref Ce) (hq : Q true ⟨h, g, d, tk, os⟩) : wpAny M A (excMatches (.ref e) (.ref W)) Q E ⟨h, g, d, tk, os⟩ :=
  mt_sub yW (hI _ _ _ (beq_iff_eq.mp hc)).2 h g d tk os e oe M A E Q k he ho hq
end P2
namespace P2
open PySem L2 PySem.Spec
open PySem.Builtin PySem.Builtin.Str
open PyProof.Rows hiding St
section
variable {prog : Program} {w : World} {A : Around} {E : Value -> Shared -> Prop} {s : Shared} {x y : PySem.Str} {t u : Tok} {Q : Value -> Shared -> Prop}
theorem split_call (hy : (y.length == 0) = false) (hz : x.length + 2 <= sizeLine)
    (hq : ∀ (l : List (PySem.Str × Tok)) (k : Nat), l.map (·.1) = Txt.split x y -> Q (.ref s.heap.objs.size) { s with heap := s.heap.push { cls := .type "list", data := .seq (strValues l).toArray }, toks := k }) :
    wpAny (model prog w) A (call (.builtin "str.split") [.str x t, .str y u]) Q E s := by
  have hsz : x.length <= sizeLine := by omega
  cases h1 : (decide (x.length < y.length) || decide (strKind x < strKind y))
  · cases hf : (occurrences x y 0 x.length (x.length + 1)).isEmpty
    · have hsz2 : (partsBetween x (occurrences x y 0 x.length (x.length + 1)) y.length).length <= sizeLine := by
        have e : Txt.split x y = partsBetween x (occurrences x y 0 x.length (x.length + 1)) y.length := (if_neg (ne_true_of_eq_false h1)).trans (if_neg (ne_true_of_eq_false hf))
        rw [← e]; exact Nat.le_trans (split_le x y) hz
      refine call_meets F.slot_str_split (typeIs_str _ _ _) F.entry_str_split (F.args_str_split_2 _ _) (meets_str_split_sep x y t u h1 hy hf hsz hsz2) ?_
      show wants Q E _ { s with toks := _, heap := s.heap.push { cls := .type "list", data := .seq (strsFrom s.toks (partsBetween x (occurrences x y 0 x.length (x.length + 1)) y.length)).toArray } }
      rw [strsFrom_eq]
      exact hq (numbered s.toks _) _ ((numbered_texts _ _).trans ((if_neg (ne_true_of_eq_false h1)).trans (if_neg (ne_true_of_eq_false hf))).symm)
    · exact call_meets F.slot_str_split (typeIs_str _ _ _) F.entry_str_split (F.args_str_split_2 _ _) (meets_str_split_not_found x y t u h1 hy hf)
        (hq [(x, t)] _ ((if_neg (ne_true_of_eq_false h1)).trans (if_pos hf)).symm)
  · exact call_meets F.slot_str_split (typeIs_str _ _ _) F.entry_str_split (F.args_str_split_2 _ _) (meets_str_split_cannot_occur x y t u h1)
      (hq [(x, t)] _ (if_pos h1).symm)
end
theorem vals_strs : ∀ (l : List (PySem.Str × Tok)), Vals ((l.map (·.1)).map V.str) (strValues l)
  | [] => .nil
  | (a, t) :: l => .cons ⟨t, rfl⟩ (vals_strs l)
section
variable {X : Cx} {E : XK}
theorem mt_split : MtR X "str.split" (fun x xs H Q => ∃ z y, x = .str z /\ xs = [.str y] /\ (y.length == 0) = false /\ z.length + 2 <= sizeLine /\ ∀ p, H p = none -> Q (.ref p) (upd H p (.lst ((Txt.split z y).map V.str)))) := by
  intro pins s σ H x xs v us Q I rx rs h
  obtain ⟨z, y, rfl, rfl, hy, hz, q⟩ := h
  obtain ⟨t, rfl⟩ := rx
  obtain ⟨u, rfl, t', rfl⟩ := vals1 rs
  refine split_call hy hz fun l k e => ?_
  have hv := vals_strs l
  rw [e] at hv
  exact ⟨.ref _, _, I.lnew (t' := k) hv (by rw [List.length_map]; exact Nat.le_trans (split_le z y) hz), rfl, q _ I.fresh⟩
noncomputable def splitD : D -> List D -> R D
  | .str z, [.str y] => if (y.length == 0) = false /\ z.length + 2 <= sizeLine then .ok (.lst ((Txt.split z y).map D.str)) else .bad
  | _, _ => .bad
theorem reps_strs {K : W.Frag} {al : Addr -> Prop} {H : Hp} : ∀ l : List PySem.Str, Reps K al H (l.map V.str) (l.map D.str)
  | [] => .nil
  | _ :: l => .cons (.str _) (reps_strs l)
theorem mt_splitD : MtD X E "str" "str.split" splitD := by
  refine ⟨_, mt_split, fun al H x xs d ds Q fr rx rs h => ?_⟩
  unfold splitD at h
  split at h
  · cases rx
    obtain ⟨v, rfl, q⟩ := Reps.one rs
    cases q
    split at h
    · rename_i z
      exact ⟨_, _, rfl, rfl, z.1, z.2, fun p hp => h _ (same_upd hp) _ (Reps.lstNew (reps_strs _) hp (fr p hp))⟩
    · exact h.elim
  · exact h.elim
noncomputable def okMul64 (i j : Int) : Bool := (decide (-18446744073709551616 < i) && decide (i < 18446744073709551616)) || (decide (-18446744073709551616 < j) && decide (j < 18446744073709551616))
end
end P2
namespace P2
open PySem L2 PySem.Spec
open PyProof.Rows hiding St
theorem pass_cx {CX : CXT} {P : Program} {w : World} {K : W.Frag} {mg : Str -> Option Value} {base : Heap} {N : List Str} {qual : Str} {scope : Scope} {f : Addr} {cd : Value} {A : Around} {outer : List Env} {s : Shared} {H : Hp} {E : XK} :
    PassesOwn (model (cxOf CX P w K mg base N qual scope f cd A outer s H E).prog (cxOf CX P w K mg base N qual scope f cd A outer s H E).w) (cxOf CX P w K mg base N qual scope f cd A outer s H E).A (cxOf CX P w K mg base N qual scope f cd A outer s H E).env (cxOf CX P w K mg base N qual scope f cd A outer s H E).xe :=
  PassesOwn.leaving (Q₁ := fun e s'' => CX outer H s E e s'')
section
variable {X : Cx} {E : XK} {e a b c tg : Expr} {f fa fb fc : Ev -> R D} {pos : Pos}
noncomputable def sameD : D -> D -> Option Bool
  | .non, .non => some true
  | .bl a, .bl b => some (a == b)
  | .bl _, .non => some false
  | .int _, .non => some false
  | .str _, .non => some false
  | .tup _, .non => some false
  | .lst _, .non => some false
  | _, _ => none
noncomputable def isD2 (x y : D) : R D := match sameD x y with
  | some b => .ok (.bl b)
  | none => .bad
noncomputable def isnD2 (x y : D) : R D := match sameD x y with
  | some b => .ok (.bl (!b))
  | none => .bad
noncomputable def slWD : D -> Option Int -> Option Int -> R D
  | .tup ds, lo, hi => if ¬ (HT.sIx ds.length 0 lo = 0 /\ HT.sIx ds.length ds.length hi = ds.length) then .ok (.tup (cutD ds lo hi)) else .bad
  | d, lo, hi => slD d lo hi
theorem sl_WD : SlD X E slWD := by
  obtain ⟨r0, s0, d0⟩ := sl_D (X := X) (E := E)
  refine ⟨_, sl_tup.or s0, fun al H x dx lo hi Q fr rx h => ?_⟩
  unfold slWD at h
  split at h
  · obtain ⟨a, vs, rfl, h1, h2⟩ := rx.tupIn
    split at h
    · rename_i z
      exact .inl ⟨a, vs, rfl, h1, by rw [h2.length]; exact z, fun p hp => h _ (same_upd hp) _ ((h2.cut lo hi).tupNew hp (fr p hp))⟩
    · exact h.elim
  · exact .inr (d0 _ _ _ _ _ _ _ fr rx h)
end
end P2
namespace P2
open PySem L2 PySem.Spec
open PyProof.Rows hiding St
section
variable {X : Cx} {E : XK}
noncomputable def hasV (x : D) (ys : List D) : Option Bool := (pyD x).bind fun p => (pyDs ys).bind fun ps => if (PyData.canLayAll0 ps && PyData.canLay0 p && decide (p.depth <= 63)) = true then some (ps.any fun y => PyData.eqv y p) else none
noncomputable def inLD (x y : D) : R D := match y with
  | .lst ys => (match hasV x ys with
    | some b => .ok (.bl b)
    | none => .bad)
  | .tup ys => (match hasV x ys with
    | some b => .ok (.bl b)
    | none => .bad)
  | _ => inSD x y
noncomputable def ninLD (x y : D) : R D := match y with
  | .lst ys => (match hasV x ys with
    | some b => .ok (.bl (!b))
    | none => .bad)
  | .tup ys => (match hasV x ys with
    | some b => .ok (.bl (!b))
    | none => .bad)
  | _ => .bad
theorem has_of {pins : List (Addr × Obj)} {σ : L2.St} {H : Hp} {s : Shared} (I : Inv X pins σ H s) (hu : X.A.units + 64 < cLine) {al : Addr -> Prop} {x y : V} {d : D} {ys : List D} {u v : Value} {b : Bool} (rd : Rep X.K al H x d) (rl : Rep X.K al H y (.lst ys) \/ Rep X.K al H y (.tup ys)) (rx : RelV x u) (ry : RelV y v) (e : hasV d ys = some b) :
    ∃ p ps as bs, (Reads s.heap v (.list ps) as \/ Reads s.heap v (.tuple ps) as) /\ Reads s.heap u p bs /\ PyData.canLayAll0 ps = true /\ PyData.canLay0 p = true /\ X.A.units + 1 + min (PyData.depthAll ps) p.depth < cLine /\ (ps.any fun y => PyData.eqv y p) = b := by
  obtain ⟨p, e1, e2⟩ := Option.bind_eq_some_iff.mp e
  obtain ⟨ps, e3, e4⟩ := Option.bind_eq_some_iff.mp e2
  split at e4
  · rename_i z
    simp only [Bool.and_eq_true, decide_eq_true_eq] at z
    obtain ⟨bs, w2⟩ := rep_reads I rd rx e1
    have := Nat.min_le_right (PyData.depthAll ps) p.depth
    rcases rl with rl | rl
    · obtain ⟨as, w1⟩ := rep_reads (p := .list ps) I rl ry (show (pyDs ys).map PyData.list = some _ by rw [e3]; rfl)
      exact ⟨p, ps, as, bs, .inl w1, w2, z.1.1, z.1.2, by omega, Option.some.inj e4⟩
    · obtain ⟨as, w1⟩ := rep_reads (p := .tuple ps) I rl ry (show (pyDs ys).map PyData.tuple = some _ by rw [e3]; rfl)
      exact ⟨p, ps, as, bs, .inr w1, w2, z.1.1, z.1.2, by omega, Option.some.inj e4⟩
  · cases e4
theorem op_inLD (hu : X.A.units + 64 < cLine) : OpD X E (compareOp .In) inLD := by
  obtain ⟨r0, o0, d0⟩ := op_inSD (X := X) (E := E)
  refine ⟨fun x y H Q => (∃ al d ys b, Rep X.K al H x d /\ (Rep X.K al H y (.lst ys) \/ Rep X.K al H y (.tup ys)) /\ hasV d ys = some b /\ Q (.bl b) H) \/ r0 x y H Q, fun pins s σ H x y v u Q I rx ry h => ?_, fun al H x y dx dy Q fr rx ry h => ?_⟩
  · rcases h with ⟨al, d, ys, b, h1, h2, h3, h4⟩ | h
    · obtain ⟨p, ps, as, bs, w1, w2, w3, w4, w5, w6⟩ := has_of I hu h1 h2 rx ry h3
      rcases w1 with w1 | w1
      · exact SeqAt.in_list_reads w1 w2 w3 w4 w5 (by rw [w6]; exact ⟨.bl b, H, I, rfl, h4⟩)
      · exact SeqAt.in_tuple_reads w1 w2 w3 w4 w5 (by rw [w6]; exact ⟨.bl b, H, I, rfl, h4⟩)
    · exact o0 pins s σ H x y v u Q I rx ry h
  · unfold inLD at h
    split at h
    · rename_i ys
      cases q : hasV dx ys with
      | none => rw [q] at h; exact h.elim
      | some b => rw [q] at h; exact .inl ⟨al, dx, ys, b, rx, .inl ry, q, h H (.refl H) _ (.bl b)⟩
    · rename_i ys
      cases q : hasV dx ys with
      | none => rw [q] at h; exact h.elim
      | some b => rw [q] at h; exact .inl ⟨al, dx, ys, b, rx, .inr ry, q, h H (.refl H) _ (.bl b)⟩
    · exact .inr (d0 _ _ _ _ _ _ _ fr rx ry h)
theorem op_ninLD (hu : X.A.units + 64 < cLine) : OpD X E (compareOp .NotIn) ninLD := by
  refine ⟨fun x y H Q => ∃ al d ys b, Rep X.K al H x d /\ (Rep X.K al H y (.lst ys) \/ Rep X.K al H y (.tup ys)) /\ hasV d ys = some b /\ Q (.bl (!b)) H, fun pins s σ H x y v u Q I rx ry h => ?_, fun al H x y dx dy Q fr rx ry h => ?_⟩
  · obtain ⟨al, d, ys, b, h1, h2, h3, h4⟩ := h
    obtain ⟨p, ps, as, bs, w1, w2, w3, w4, w5, w6⟩ := has_of I hu h1 h2 rx ry h3
    rcases w1 with w1 | w1
    · exact SeqAt.notIn_list_reads w1 w2 w3 w4 w5 (by rw [w6]; exact ⟨.bl (!b), H, I, rfl, h4⟩)
    · exact SeqAt.notIn_tuple_reads w1 w2 w3 w4 w5 (by rw [w6]; exact ⟨.bl (!b), H, I, rfl, h4⟩)
  · unfold ninLD at h
    split at h
    · rename_i ys
      cases q : hasV dx ys with
      | none => rw [q] at h; exact h.elim
      | some b => rw [q] at h; exact ⟨al, dx, ys, b, rx, .inl ry, q, h H (.refl H) _ (.bl (!b))⟩
    · rename_i ys
      cases q : hasV dx ys with
      | none => rw [q] at h; exact h.elim
      | some b => rw [q] at h; exact ⟨al, dx, ys, b, rx, .inr ry, q, h H (.refl H) _ (.bl (!b))⟩
    · exact h.elim
end
end P2
namespace L2
open PySem PySem.Spec PyProof.Rows
section
variable {X : Cx} {pos : Pos}
end
end L2
namespace P2
open PySem L2 PySem.Spec
open PyProof.Rows hiding St
section
variable {X : Cx} {E : XK} {a b c : Expr} {pos : Pos}
end
inductive FlatV : V -> D -> Prop
  | non : FlatV .non .non
  | bl (b : Bool) : FlatV (.bl b) (.bl b)
  | int (i : Int) : FlatV (.int i) (.int i)
  | str (x : Str) : FlatV (.str x) (.str x)
inductive FlatVs : List V -> List D -> Prop
  | nil : FlatVs [] []
  | cons {v : V} {d : D} {vs : List V} {ds : List D} : FlatV v d -> FlatVs vs ds -> FlatVs (v :: vs) (d :: ds)
theorem FlatV.rep {K : W.Frag} {al : Addr -> Prop} {H : Hp} {v : V} {d : D} (h : FlatV v d) : Rep K al H v d := by
  cases h with
  | non => exact .non
  | bl b => exact .bl b
  | int i => exact .int i
  | str x => exact .str x
theorem FlatVs.reps {K : W.Frag} {al : Addr -> Prop} {H : Hp} : ∀ {vs : List V} {ds : List D}, FlatVs vs ds -> Reps K al H vs ds
  | _, _, .nil => .nil
  | _, _, .cons p q => .cons p.rep q.reps
structure GlT (K : W.Frag) (mg : Str -> Option Value) (x : Str) (ds : List D) : Prop where
  ex : ∃ (a : Addr) (vs : List V), mg x = some (.ref a) /\ KT K a vs /\ FlatVs vs ds
theorem de_glT {X : Cx} {E : XK} {x : Str} {pos : Pos} {ds : List D} (hg : Gl X x) (h : GlT X.K X.mg x ds) (hdb : (x == ("__debug__" : Str)) = false := by decide) : DE X E (.Name x pos) (dC (.tup ds)) := by
  obtain ⟨a, vs, h1, h2, h3⟩ := h.ex
  exact de_glob (v := .ref a) hg h1 rfl (fun _ _ => .tup (.inr h2) h3.reps) hdb
theorem strs_vals : ∀ l : List (Str × Tok), Vals (l.map fun p => V.str p.1) (l.map fun p => Value.str p.1 p.2)
  | [] => .nil
  | (_, t) :: l => .cons ⟨t, rfl⟩ (strs_vals l)
theorem strs_flat : ∀ l : List (Str × Tok), FlatVs (l.map fun p => V.str p.1) (l.map fun p => D.str p.1)
  | [] => .nil
  | (_, _) :: l => .cons (.str _) (strs_flat l)
theorem GlT.strs {K : W.Frag} {mg : Str -> Option Value} {x : Str} {a : Addr} {dd : Option Addr} {l : List (Str × Tok)} {n : Nat} {sl : Array (Option Value)} (hm : mg x = some (.ref a)) (hl : K.lookup a = some ⟨.type "tuple", dd, .seq (l.map fun p => Value.str p.1 p.2).toArray n, sl⟩) (hz : l.length <= sizeLine) :
    GlT K mg x (l.map fun p => .str p.1) := by
  refine ⟨a, l.map fun p => .str p.1, hm, ⟨_, _, n, hl, rfl, rfl, by simpa using hz, ?_⟩, ?_⟩
  · rw [List.toList_toArray]
    exact strs_vals l
  · exact strs_flat l
end P2
namespace P2
open PySem L2 PySem.Spec
open PyProof.Rows hiding St
section
variable {X : Cx} {E : XK} {e : Expr} {fn : Ev -> R (List D)} {pos : Pos}
theorem ds_setU (i : Nat) {x : Str} {pos' : Pos} (hN : X.N.Nodup) (hi : X.N[i]? = some x) (hx : Loc X.env.scope x) (he : DNU X E e fn) (hs : swapsWith e (some (.Name x pos')) pos.line X.env = pure true := by rfl) (hf : X.fn x = true \/ X.env.scope.names.lookup x = some .local := by first | exact .inl rfl | exact .inr rfl | assumption) :
    DS X E (.Assign [.Name x pos'] e pos) (sSet i (asN fn)) := by
  obtain ⟨t, _, p, r⟩ := he
  refine ⟨_, ps_use hN hi hx p hs hf, fun P H0 al H σ ρ D s h => ?_⟩
  have h' : okS X.K P H0 E D al H (toS (fn ρ) fun ds => if i < ρ.length then .nx (ρ.set i (.sh (.lst ds))) else .bad) := by
    unfold sSet asN at h
    cases q : fn ρ with
    | ok ds => rw [q] at h; exact h
    | ex c ns es => rw [q] at h; exact h
    | bad => rw [q] at h; exact h.elim
  refine r _ _ _ _ _ _ _ s (Aft.mono (okS.ofR h' s) fun ds H1 s1 h1 q vs hq rv => ?_)
  by_cases z : i < ρ.length
  · simp only [z, if_true] at h1
    have sm := same_upd (K := X.K) (o := HO.lst vs) hq
    exact h1 al _ _ (.of sm) (((s.grow s1).grow sm).set z (rv.lstNew hq ((s.grow s1).fresh q hq)))
  · simp only [z, if_false] at h1
    exact h1.elim
end
end P2
namespace P2
open PySem L2 PySem.Spec
open PyProof.Rows hiding St
section
variable {X : Cx} {E : XK} {tg iter elt : Expr} {ifs : List Expr} {scope : Scope} {pos : Pos} {fi : Ev -> R (List D)} {l : List Nat} {a : D -> Ev -> Option Ev} {fc : Ev -> R Bool} {fe : Ev -> R D} {tn : Nat} {Nt : List Str}
theorem dnu_comp2 {x y : Str} (i j : Nat) {c d : Addr} (nm : List (Str × NameKind)) (hxy : x ≠ y) (hc : X.calm = true) (hi : DI X E tg iter fi) (hg : ∀ fp s3 H3 C, DG (X.comp scope (Nt ++ [x, y]) [(y, d), (x, c)] fp s3 H3 C) tg l a) (hl : ∀ j ∈ l, j < tn) (hf : ∀ fp s3 H3 C, DFt (X.comp scope (Nt ++ [x, y]) [(y, d), (x, c)] fp s3 H3 C) ifs fc)
    (he : ∀ fp s3 H3 C, DE (X.comp scope (Nt ++ [x, y]) [(y, d), (x, c)] fp s3 H3 C) (fun _ _ _ => False) elt fe)
    (hkind : scope.kind = .function) (hcell : ∀ y ∈ scope.names, y.2 ≠ .cell) (hnames : ∀ x ∈ scope.names, x.2 = .local -> scope.names.lookup x.1 = some .local) (hNt : Nt.length = tn)
    (hN : X.N[i]? = some x) (hk : X.env.kindOf x = some .cell) (hcl : X.env.cells.lookup x = some c) (hN2 : X.N[j]? = some y) (hk2 : X.env.kindOf y = some .cell) (hcl2 : X.env.cells.lookup y = some d) (hclos : closureFor scope X.env = pure [(y, d), (x, c)]) (hrl : (relabel scope X.env).names = nm)
    (hnm : ∀ p ∈ nm, (p.2 = .cell \/ p.2 = .free) -> p.1 = x \/ p.1 = y) (hvis : ∀ z ∈ [x, y], nm.lookup z = some .cell \/ nm.lookup z = some .free)
    (hs : ∀ x, foldedSetIterable iter X.env x = pure x := by intro _; rfl) : DNU X E (.ListComp elt [⟨tg, iter, ifs, 0⟩] scope pos) (dComp fi tn [i, j] a fc fe) := by
  have b1 : (x == y) = false := by simpa using hxy
  have l1 : ([(y, d), (x, c)] : List (Str × Addr)).lookup x = some c := by simp [List.lookup, b1]
  have l2 : ([(y, d), (x, c)] : List (Str × Addr)).lookup y = some d := by simp [List.lookup]
  refine dnu_comp (cl := [(y, d), (x, c)]) (Nc := [x, y]) (ci := [i, j]) hc hi hg hl hf he hclos hkind hcell hnames (.cons hN (.inl hk) (by rw [hcl, l1]) (.cons hN2 (.inl hk2) (by rw [hcl2, l2]) .nil)) hNt (fun z e q => ?_) (fun z q => ?_) (fun z hz => ?_) hs
  · by_cases w : z = y
    · subst w; rw [l2] at q; cases q; exact hcl2
    · by_cases w2 : z = x
      · subst w2; rw [l1] at q; cases q; exact hcl
      · have e1 : (z == y) = false := by simpa using w
        have e2 : (z == x) = false := by simpa using w2
        simp [List.lookup, e1, e2] at q
  · rw [hrl] at q
    have : z = x \/ z = y := q.elim (fun q => hnm _ (PySem.mem_of_lookup q) (.inl rfl)) fun q => hnm _ (PySem.mem_of_lookup q) (.inr rfl)
    rcases this with rfl | rfl
    · exact ⟨c, l1⟩
    · exact ⟨d, l2⟩
  · rw [hrl]; exact hvis z hz
end
section
variable {X : Cx} {E : XK}
noncomputable def strsD : List D -> Option (List PySem.Str)
  | [] => some []
  | .str x :: r => (strsD r).map (x :: ·)
  | _ => none
noncomputable def joinD : D -> List D -> R D
  | .str sep, [.lst ds] => (match strsD ds with
    | some xs => if JoinOk sep xs = true then .ok (.str (Txt.join sep xs)) else .bad
    | none => .bad)
  | _, _ => .bad
theorem strsD_reps {K : W.Frag} {al : Addr -> Prop} {H : Hp} : ∀ {vs : List V} {ds : List D} {xs : List PySem.Str}, Reps K al H vs ds -> strsD ds = some xs -> vs = xs.map V.str
  | _, _, _, .nil, e => by cases e; rfl
  | _, _, _, .cons r q, e => by
    cases r with
    | str x =>
      obtain ⟨ys, e1, rfl⟩ := Option.map_eq_some_iff.mp (show (strsD _).map (x :: ·) = some _ from e)
      rw [strsD_reps q e1]; rfl
    | _ => cases e
theorem vals_strs_of : ∀ {xs : List PySem.Str} {us : List Value}, Vals (xs.map V.str) us -> ∃ l : List (PySem.Str × Tok), us = strValues l /\ l.map (·.1) = xs
  | [], _, .nil => ⟨[], rfl, rfl⟩
  | x :: xs, _, .cons r q => by
    obtain ⟨t, rfl⟩ := r
    obtain ⟨l, rfl, e⟩ := vals_strs_of q
    exact ⟨(x, t) :: l, rfl, by simp [e]⟩
theorem mt_join : MtR X "str.join" (fun x xs H Q => ∃ sep ys p, x = .str sep /\ xs = [.ref p] /\ SqL X.K H p (ys.map V.str) /\ JoinOk sep ys = true /\ Q (.str (Txt.join sep ys)) H) := by
  intro pins s σ H x xs v us Q I rx rs h
  obtain ⟨sep, ys, p, rfl, rfl, hq, ok, q⟩ := h
  obtain ⟨t, rfl⟩ := rx
  obtain ⟨u, rfl, ru⟩ := vals1 rs
  cases ru
  obtain ⟨its, rv, pl, _⟩ := I.list hq
  obtain ⟨l, rfl, e⟩ := vals_strs_of rv
  exact SC.join pl.isList e ok fun t' k => ⟨.str _, H, I.tok _, ⟨_, rfl⟩, q⟩
theorem mt_joinD : MtD X E "str" "str.join" joinD := by
  refine ⟨_, mt_join, fun al H x xs d ds Q fr rx rs h => ?_⟩
  unfold joinD at h
  split at h
  · cases rx
    obtain ⟨v, rfl, q⟩ := Reps.one rs
    split at h
    · rename_i ys e
      split at h
      · rename_i ok
        obtain ⟨a, vs, rfl, h1, h2⟩ := q.lstIn
        have ev := strsD_reps h2 e
        subst ev
        exact ⟨_, ys, a, rfl, rfl, h1, ok, h H (.refl H) _ (.str _)⟩
      · exact h.elim
    · exact h.elim
  · exact h.elim
end
end P2
namespace P2
open PySem L2 PySem.Spec
open PyProof.Rows hiding St
section
variable {X : Cx} {E : XK} {a b : Expr} {fa fb : Ev -> R D} {pos : Pos}
end
end P2
namespace P2
open PySem L2 PySem.Spec
open PyProof.Rows hiding St
section
variable {X : Cx} {E : XK}
end
end P2
namespace TM
open PySem PySem.NumText PySem.StrLaws Builtin Builtin.Str
noncomputable def cds (x : Str) : List Nat := x.cps.toList
theorem ext {x y : Str} (h : cds x = cds y) : x = y := by
  obtain ⟨x⟩ := x; obtain ⟨y⟩ := y
  have : x = y := Array.toList_inj.mp h
  rw [this]
theorem cds_app (x y : Str) : cds (x ++ y) = cds x ++ cds y := by
  show (x.cps ++ y.cps).toList = x.cps.toList ++ y.cps.toList
  simp
theorem len_cds (x : Str) : x.length = (cds x).length := by simp [Str.length, cds]
noncomputable def num (m : Nat) : List Nat := (Nat.toDigits 10 m).map Char.toNat
theorem cds_num (m : Nat) : cds (Str.ofString (toString ((m : Nat) : Int))) = num m := PySem.W.KIN.signs_num m
theorem num_small {m : Nat} (h : m < 10) : num m = [48 + m] := by
  have : ∀ m : Nat, m < 10 -> num m = [48 + m] := by decide
  exact this m h
theorem num_snoc {m : Nat} (h : 10 <= m) : num m = num (m / 10) ++ [48 + m % 10] := by
  have hm : m % 10 < 10 := Nat.mod_lt m (by decide)
  have t : Nat.toDigits 10 (m / 10) ++ Nat.toDigits 10 (m % 10) = Nat.toDigits 10 (10 * (m / 10) + m % 10) := Nat.toDigits_append_toDigits (by decide) (by omega) hm
  rw [Nat.div_add_mod] at t
  rw [← num_small hm]
  unfold num
  rw [← t, List.map_append]
theorem num_len {k : Nat} : ∀ {m : Nat}, m < 10 ^ (k + 1) -> (num m).length <= k + 1 := by
  induction k with
  | zero => intro m h; rw [num_small (by omega)]; simp
  | succ k ih =>
    intro m h
    by_cases hm : m < 10
    · rw [num_small hm]; simp
    · rw [num_snoc (by omega), List.length_append]
      have : m / 10 < 10 ^ (k + 1) := by rw [Nat.pow_succ] at h; omega
      have := ih this
      simp only [List.length_singleton]; omega
theorem val_lt : ∀ (cs : List Nat), AllDigits cs -> digitsVal cs < 10 ^ cs.length := by
  intro cs
  induction h : cs.length generalizing cs with
  | zero => intro _; rw [List.length_eq_zero_iff.mp h]; decide
  | succ n ih =>
    intro hd
    have hne : cs ≠ [] := by intro e; rw [e] at h; simp at h
    have e := List.dropLast_concat_getLast hne
    generalize cs.dropLast = ini at e
    generalize cs.getLast hne = c at e
    subst e
    rw [digitsVal_snoc]
    have h1 := ih ini (by rw [List.length_append] at h; simpa using h) (fun d hd' => hd d (List.mem_append_left _ hd'))
    have h2 := hd c (List.mem_append_right _ (by simp))
    rw [Nat.pow_succ]; omega
noncomputable def two (n : Nat) : List Nat := [48 + n / 10, 48 + n % 10]
theorem intText_of {x : Str} (h : AllDigits (cds x)) (h1 : cds x ≠ []) (h2 : x.length <= 640) : intText? x = some ((digitsVal (cds x) : Nat) : Int) := intText_digits h h1 (by omega)
noncomputable def sx (n d : Nat) : Option Int -> Nat
  | none => d
  | some v => if v < 0 then (v + (n : Int)).toNat else min v.toNat n
theorem idx_sx (l u : Option Int) (n : Nat) : strSliceIndices l u 1 n = strSliceIndices (some ((sx n 0 l : Nat) : Int)) (some ((sx n n u : Nat) : Int)) 1 n := by
  have cl : ∀ (o : Option Int) (d : Nat), d <= n -> (match o with | none => (d : Int) | some i => max 0 (min (if i < 0 then i + (n : Int) else i) n)) = ((sx n d o : Nat) : Int) := by
    intro o d hd
    cases o with
    | none => rfl
    | some i =>
      show max 0 (min (if i < 0 then i + (n : Int) else i) n) = (((if i < 0 then (i + (n : Int)).toNat else min i.toNat n) : Nat) : Int)
      by_cases h : i < 0
      · simp only [h, if_true]; omega
      · simp only [h, if_false]; omega
  have h1 := cl l 0 (Nat.zero_le _)
  have h2 := cl u n (Nat.le_refl _)
  have s1 : ((sx n 0 l : Nat) : Int) <= n := by rw [← h1]; cases l <;> simp <;> omega
  have s2 : ((sx n n u : Nat) : Int) <= n := by rw [← h2]; cases u <;> simp <;> omega
  unfold strSliceIndices
  simp only [show (1 : Int) > 0 by decide, if_true]
  have a1 : ¬ ((sx n 0 l : Nat) : Int) < 0 := by omega
  have a2 : ¬ ((sx n n u : Nat) : Int) < 0 := by omega
  simp only [a1, a2, if_false]
  have e1 : max 0 (min ((sx n 0 l : Nat) : Int) n) = ((sx n 0 l : Nat) : Int) := by omega
  have e2 : max 0 (min ((sx n n u : Nat) : Int) n) = ((sx n n u : Nat) : Int) := by omega
  rw [e1, e2]
  have b1 : (match l with | none => (0 : Int) | some i => max 0 (min (if i < 0 then i + (n : Int) else i) n)) = ((sx n 0 l : Nat) : Int) := by
    have := h1; cases l <;> simpa using this
  have b2 : (match u with | none => (n : Int) | some i => max 0 (min (if i < 0 then i + (n : Int) else i) n)) = ((sx n n u : Nat) : Int) := by
    have := h2; cases u <;> simpa using this
  rw [← b1, ← b2]
  cases l <;> cases u <;> rfl
theorem sx_le (n d : Nat) (h : d <= n) (o : Option Int) : sx n d o <= n := by
  cases o with
  | none => exact h
  | some i => show (if i < 0 then (i + (n : Int)).toNat else min i.toNat n) <= n; split <;> omega
theorem cds_slice (x : Str) (l u : Option Int) : cds (Txt.slice x l u) = ((cds x).drop (sx (cds x).length 0 l)).take (sx (cds x).length (cds x).length u - sx (cds x).length 0 l) := by
  have hn : x.length = (cds x).length := len_cds x
  have e : Txt.slice x l u = sliceText x (some ((sx x.length 0 l : Nat) : Int)) (some ((sx x.length x.length u : Nat) : Int)) := by
    unfold Txt.slice sliceText
    rw [← idx_sx]
  rw [← hn]
  by_cases h : sx x.length 0 l <= sx x.length x.length u
  · rw [e, sliceText_nat x h (sx_le _ _ (Nat.le_refl _) _)]; rfl
  · have h0 : sx x.length x.length u - sx x.length 0 l = 0 := by omega
    rw [h0, List.take_zero]
    unfold Txt.slice
    have z : strSliceIndices l u 1 x.length = [] := by
      rw [idx_sx]
      have s1 := sx_le x.length 0 (Nat.zero_le _) l
      have s2 := sx_le x.length x.length (Nat.le_refl _) u
      unfold strSliceIndices
      simp only [show (1 : Int) > 0 by decide, if_true]
      have a1 : ¬ ((sx x.length 0 l : Nat) : Int) < 0 := by omega
      have a2 : ¬ ((sx x.length x.length u : Nat) : Int) < 0 := by omega
      simp only [a1, a2, if_false]
      have e1 : max 0 (min ((sx x.length 0 l : Nat) : Int) x.length) = ((sx x.length 0 l : Nat) : Int) := by omega
      have e2 : max 0 (min ((sx x.length x.length u : Nat) : Int) x.length) = ((sx x.length x.length u : Nat) : Int) := by omega
      rw [e1, e2]
      unfold sliceRange
      simp only [show (1 : Int) > 0 by decide, if_true]
      split
      · omega
      · simp
    rw [z]
    by_cases hx : x.length = 0
    · simp only [List.length_nil, hx]
      have hc : cds x = [] := List.length_eq_zero_iff.mp (by rw [← len_cds]; exact hx)
      simpa [cds] using hc
    · have : ¬ ((1 : Int) == 1 && ([] : List Nat).length == x.length) = true := by simp; omega
      rw [if_neg this]; rfl
theorem has_sign (x : Str) (c : Nat) : Txt.contains x ⟨#[c]⟩ = decide (c ∈ cds x) := found_one x c
theorem starts_0 (x : Str) : Txt.startswith x (Str.ofString "0") = decide ((cds x).head? = some 48) := by
  obtain ⟨⟨l⟩⟩ := x
  unfold Txt.startswith subAt
  cases l with
  | nil => rfl
  | cons c r =>
    have h1 : (Str.ofString "0").length = 1 := by decide
    have h2 : (Str.ofString "0").cps = #[48] := by decide
    rw [h1, h2]
    show (decide (0 + 1 <= (c :: r).length) && ((c :: r).toArray.extract 0 (0 + 1) == #[48])) = _
    have : ((c :: r).toArray.extract 0 (0 + 1)) = #[c] := by simp
    rw [this, Bool.eq_iff_iff]
    simp [cds]
end TM
namespace P2
open PySem L2
theorem compO_map {a : D -> Ev -> Option Ev} {c : Ev -> R Bool} {e : Ev -> R D} {ρ0 : Ev} (ρ1 : D -> Ev) (h : D -> D) : ∀ (ds : List D), (∀ d ∈ ds, a d ρ0 = some (ρ1 d) /\ c (ρ1 d) = .ok true /\ e (ρ1 d) = .ok (h d)) -> compO a c e ρ0 ds = some (ds.map h)
  | [], _ => rfl
  | d :: r, H => by
    obtain ⟨h1, h2, h3⟩ := H d (List.mem_cons_self ..)
    unfold compO
    rw [h1]
    simp only [Option.bind_some, h2, h3, okO, if_true]
    rw [compO_map ρ1 h r fun x hx => H x (List.mem_cons_of_mem _ hx)]
    rfl
theorem boolsD_map {α : Type} (f : α -> Bool) : ∀ l : List α, boolsD (l.map fun x => .bl (f x)) = some (l.map f)
  | [] => rfl
  | x :: l => by
    show (boolsD (l.map fun x => .bl (f x))).map (f x :: ·) = _
    rw [boolsD_map f l]; rfl
theorem size_of {n : Nat} (h : n <= 1000000) : n <= sizeLine := Nat.le_trans h (by decide)
theorem bits_le {i : Int} {k : Nat} (h : i.natAbs < 2 ^ k) : bits i <= k := intBits_le_iff.mpr h
theorem log2_lt {i : Int} {k : Nat} (hk : 0 < k) (h : i.natAbs < 2 ^ k) : i.natAbs.log2 < k := by
  by_cases z : i.natAbs = 0
  · rw [z]; exact hk
  · exact (Nat.log2_lt z).mpr h
section
variable {α β : Type} {a : α} {c : Addr} {ns : List Str} {es : List D} {k : α -> RT} {h : α -> R β} {ρ : Ev} {g u : Ev -> RT} {f fa fb : Ev -> R D} {fc fd : Ev -> R Bool} {fs : Ev -> R (List D)} {i j : Int} {x y : Str} {b b2 : Bool} {ds ds2 : List D} {d : D} {n m : Nat} {gd gd2 : D -> D -> R D} {g1 : D -> R D} {gl : List D -> R D} {gt : D -> List D -> R D}
variable {t : String} {g3 : D -> Option Int -> Option Int -> R D} {fl fu : Ev -> R (Option Int)} {cs : List Nat} {ga : D -> Ev -> Option Ev} {lo hi : Option Int} {fj : Str -> Ev -> R D}
theorem q_bind_k : (R.ok a).bind h = h a := rfl
theorem q_bind_x : (R.ex c ns es : R α).bind h = .ex c ns es := rfl
theorem q_bind_b : (R.bad : R α).bind h = .bad := rfl
theorem q_toS_k : toS (R.ok a) k = k a := rfl
theorem q_toS_x : toS (R.ex c ns es : R α) k = .ex c ns es := rfl
theorem q_toS_b : toS (R.bad : R α) k = .bad := rfl
theorem q_seq_n : seqT (.nx ρ) g = g ρ := rfl
theorem q_seq_r : seqT (.rt d) g = .rt d := rfl
theorem q_seq_x : seqT (.ex c ns es) g = .ex c ns es := rfl
theorem q_seq_b : seqT .bad g = .bad := rfl
theorem q_turn_n : turnT (.nx ρ) g = g ρ := rfl
theorem q_turn_c : turnT (.ct ρ) g = g ρ := rfl
theorem q_turn_k : turnT (.bk ρ) g = .nx ρ := rfl
theorem q_turn_r : turnT (.rt d) g = .rt d := rfl
theorem q_turn_b : turnT .bad g = .bad := rfl
theorem q_turn_x : turnT (.ex c ns es) g = .ex c ns es := rfl
theorem q_fin_r : finT (.rt d) = .ok d := rfl
theorem q_fin_n : finT (.nx ρ) = .ok .non := rfl
theorem q_fin_x : finT (.ex c ns es) = .ex c ns es := rfl
theorem q_noEx_k : noEx (R.ok a) = .ok a := rfl
theorem q_okO_k : okO (R.ok a) = some a := rfl
theorem q_ofO_s : ofO (some a) = .ok a := rfl
theorem q_sSeq_a : sSeq g u ρ = seqT (g ρ) u := rfl
theorem q_sNil_a : sNil ρ = .nx ρ := rfl
theorem q_sRet_a : sRet f ρ = toS (f ρ) .rt := rfl
theorem q_sExpr_a : sExpr f ρ = toS (f ρ) fun _ => .nx ρ := rfl
theorem q_sSet_a : sSet n f ρ = toS (f ρ) fun d => if n < ρ.length then .nx (ρ.set n (.sh d)) else .bad := rfl
theorem q_sIf_a : sIf fc g u ρ = toS (fc ρ) fun k => if k = true then g ρ else u ρ := rfl
theorem q_dC_a : dC d ρ = .ok d := rfl
theorem q_d1_a : d1 g1 f ρ = (f ρ).bind g1 := rfl
theorem q_d2_a : d2 gd fa fb ρ = (fa ρ).bind fun x => (fb ρ).bind fun y => gd x y := rfl
theorem q_b1B_a : b1 P2.tB f ρ = (f ρ).bind P2.tB := rfl
theorem q_b1T_a : b1 tT f ρ = (f ρ).bind tT := rfl
theorem q_bAnd_a : bAnd fc fd ρ = (fc ρ).bind fun c => if c = true then fd ρ else .ok false := rfl
theorem q_bOr_a : bOr fc fd ρ = (fc ρ).bind fun c => if c = true then .ok true else fd ρ := rfl
theorem q_bNot_a : bNot fc ρ = (fc ρ).bind fun c => .ok (!c) := rfl
theorem q_dAnd_a : dAnd fa fb ρ = ((fa ρ).bind P2.tB).bind fun c => if c = true then fb ρ else .ok (.bl false) := rfl
theorem q_dOr_a : dOr fa fb ρ = ((fa ρ).bind P2.tB).bind fun c => if c = true then .ok (.bl true) else fb ρ := rfl
theorem q_dNot_a : dNot fa ρ = ((fa ρ).bind P2.tB).bind fun c => .ok (.bl (!c)) := rfl
theorem q_dIf_a : dIf fc fa fb ρ = (fc ρ).bind fun k => if k = true then fa ρ else fb ρ := rfl
theorem q_dA_a : dA gl fs ρ = (fs ρ).bind gl := rfl
theorem q_aNil_a : aNil ρ = .ok [] := rfl
theorem q_aCons_a : aCons f fs ρ = (f ρ).bind fun x => (fs ρ).bind fun xs => .ok (x :: xs) := rfl
theorem q_asN_a : asN fs ρ = (fs ρ).bind fun ds => .ok (.lst ds) := rfl
theorem q_dMt_a : dMt t gt f fs ρ = (f ρ).bind fun x => if hasT t x = true then (fs ρ).bind fun xs => gt x xs else .bad := rfl
theorem q_dSl_a : dSl g3 f fl fu ρ = (f ρ).bind fun x => (fl ρ).bind fun i => (fu ρ).bind fun j => g3 x i j := rfl
theorem q_dComp_a : dComp fs n cs ga fc f ρ = (fs ρ).bind fun ds => if ds.length <= sizeLine then ofO (compO ga fc f (capD n cs ρ) ds) else .bad := rfl
theorem q_sFor_a : sFor fs ga g ρ = toS (fs ρ) fun ds => forD ga g ds ρ := rfl
theorem q_forD_c : forD ga g (d :: ds) ρ = toO (ga d ρ) fun ρ1 => turnT (g ρ1) (forD ga g ds) := rfl
theorem q_toO_s : toO (some a) k = k a := rfl
theorem q_gV_a : gV n d ρ = if n < ρ.length then some (ρ.set n (.sh d)) else none := rfl
theorem q_tB_b : P2.tB (.bl b) = .ok b := rfl
theorem q_tT_b : tT (.bl b) = .ok b := rfl
theorem q_tT_i : tT (.int i) = .ok (i != 0) := rfl
theorem q_tT_n : tT .non = .ok false := rfl
theorem q_tT_l : tT (.lst ds) = .ok (!ds.isEmpty) := rfl
theorem q_tT_t : tT (.tup ds) = .ok (!ds.isEmpty) := rfl
theorem q_add_i : addD (.int i) (.int j) = .ok (.int (i + j)) := rfl
theorem q_add_s : addD (.str x) (.str y) = if x.length + y.length <= sizeLine then .ok (.str (x ++ y)) else .bad := rfl
theorem q_add_l : addD (.lst ds) (.lst ds2) = if ds.length + ds2.length <= sizeLine then .ok (.lst (ds ++ ds2)) else .bad := rfl
theorem q_sub_i : subD (.int i) (.int j) = .ok (.int (i - j)) := rfl
theorem q_fdiv_i : fdivD (.int i) (.int j) = if okDiv i j = true then .ok (.int (i.fdiv j)) else .bad := rfl
theorem q_mod_i : modD (.int i) (.int j) = if decide (j ≠ 0) = true then .ok (.int (i.fmod j)) else .bad := rfl
theorem q_lt_i : P2.ltD (.int i) (.int j) = .ok (.bl (decide (i < j))) := rfl
theorem q_le_i : leD (.int i) (.int j) = .ok (.bl (decide (i <= j))) := rfl
theorem q_gt_i : gtD (.int i) (.int j) = .ok (.bl (decide (j < i))) := rfl
theorem q_ge_i : geD (.int i) (.int j) = .ok (.bl (decide (j <= i))) := rfl
theorem q_neg_i : negD (.int i) = .ok (.int (-i)) := rfl
theorem q_eq_i : eqSD (.int i) (.int j) = .ok (.bl (decide (i = j))) := rfl
theorem q_eq_s : eqSD (.str x) (.str y) = .ok (.bl (decide (x = y))) := rfl
theorem q_eq_b : eqSD (.bl b) (.bl b2) = .ok (.bl (decide (b = b2))) := rfl
theorem q_ne_i : neSD (.int i) (.int j) = .ok (.bl (!decide (i = j))) := rfl
theorem q_ne_s : neSD (.str x) (.str y) = .ok (.bl (!decide (x = y))) := rfl
theorem q_in_s : inSD (.str x) (.str y) = .ok (.bl (Txt.contains y x)) := rfl
theorem q_ix_l : ixD (.lst ds) (.int i) = match L2.atI ds i with | some d => .ok d | none => .bad := rfl
theorem q_ix_t : ixD (.tup ds) (.int i) = match L2.atI ds i with | some d => .ok d | none => .bad := rfl
theorem q_ix_s : ixD (.str x) (.int i) = if x.length <= sizeLine then (match L2.atI x.cps.toList i with | some c => .ok (.str ⟨#[c]⟩) | none => .bad) else .bad := rfl
theorem q_sl_l : slD (.lst ds) lo hi = .ok (.lst (cutD ds lo hi)) := rfl
theorem q_sl_s : slD (.str x) lo hi = if x.length <= sizeLine then .ok (.str (Txt.slice x lo hi)) else .bad := rfl
theorem q_pI_i : pI (.int i) = .ok (some i) := rfl
theorem q_len_s : lenD [.str x] = if x.length <= sizeLine then .ok (.int x.length) else .bad := rfl
theorem q_len_l : lenD [.lst ds] = .ok (.int ds.length) := rfl
theorem q_len_t : lenD [.tup ds] = .ok (.int ds.length) := rfl
theorem q_abs_i : absD [.int i] = .ok (.int (if i < 0 then -i else i)) := rfl
theorem q_max_i : max2D [.int i, .int j] = .ok (.int (if j > i then j else i)) := rfl
theorem q_str_i : strD [.int i] = if i.natAbs.log2 < 1920 then .ok (.str (toString i)) else .bad := rfl
theorem q_int_s : intD [.str x] = match PySem.intText? x with | some n => if x.length <= 640 then .ok (.int n) else .bad | none => .bad := rfl
theorem q_all_l : allD [.lst ds] = match boolsD ds with | some bs => .ok (.bl (bs.all id)) | none => .bad := rfl
theorem q_any_l : anyD [.lst ds] = match boolsD ds with | some bs => .ok (.bl (bs.any id)) | none => .bad := rfl
theorem q_st_s : startsD (.str x) [.str y] = .ok (.bl (Txt.startswith x y)) := rfl
theorem q_zf_s : zfillD (.str x) [.int i] = if PadOk i = true then .ok (.str (Txt.zfill x i)) else .bad := rfl
theorem q_hs_s : hasT "str" (.str x) = true := by rfl
theorem q_mkT_a : mkT ds = if ds.length <= sizeLine then .ok (.tup ds) else .bad := rfl
theorem q_fitL_a : fitL ds = if ds.length <= sizeLine then .ok ds else .bad := rfl
theorem q_asI_l : asI (.lst ds) = .ok ds := rfl
theorem q_asI_t : asI (.tup ds) = .ok ds := rfl
theorem q_asI_s : asI (.str x) = .ok (signs x) := rfl
theorem q_fmt_s : fmtD (.str x) = if x.length <= sizeLine then .ok (.str x) else .bad := rfl
theorem q_fmt_i : fmtD (.int i) = if i.natAbs.log2 < 1920 then .ok (.str (toString i)) else .bad := rfl
theorem q_jNil_a : jNil x ρ = if x.length <= sizeLine then .ok (.str x) else .bad := rfl
theorem q_jCons_k : jCons f fj x ρ = (f ρ).bind fun z => match z with | .str y => if (x ++ y).length <= sizeLine then fj (x ++ y) ρ else .bad | _ => .bad := rfl
theorem q_v0 {r : Ev} : dV 0 (.sh d :: r) = .ok d := rfl
theorem q_v1 {s0 : Sl} {r : Ev} : dV 1 (s0 :: .sh d :: r) = .ok d := rfl
theorem q_v2 {s0 s1 : Sl} {r : Ev} : dV 2 (s0 :: s1 :: .sh d :: r) = .ok d := rfl
theorem q_v3 {s0 s1 s2 : Sl} {r : Ev} : dV 3 (s0 :: s1 :: s2 :: .sh d :: r) = .ok d := rfl
theorem q_v4 {s0 s1 s2 s3 : Sl} {r : Ev} : dV 4 (s0 :: s1 :: s2 :: s3 :: .sh d :: r) = .ok d := rfl
theorem q_v5 {s0 s1 s2 s3 s4 : Sl} {r : Ev} : dV 5 (s0 :: s1 :: s2 :: s3 :: s4 :: .sh d :: r) = .ok d := rfl
theorem q_v6 {s0 s1 s2 s3 s4 s5 : Sl} {r : Ev} : dV 6 (s0 :: s1 :: s2 :: s3 :: s4 :: s5 :: .sh d :: r) = .ok d := rfl
theorem q_v7 {s0 s1 s2 s3 s4 s5 s6 : Sl} {r : Ev} : dV 7 (s0 :: s1 :: s2 :: s3 :: s4 :: s5 :: s6 :: .sh d :: r) = .ok d := rfl
theorem q_v8 {s0 s1 s2 s3 s4 s5 s6 s7 : Sl} {r : Ev} : dV 8 (s0 :: s1 :: s2 :: s3 :: s4 :: s5 :: s6 :: s7 :: .sh d :: r) = .ok d := rfl
theorem q_v9 {s0 s1 s2 s3 s4 s5 s6 s7 s8 : Sl} {r : Ev} : dV 9 (s0 :: s1 :: s2 :: s3 :: s4 :: s5 :: s6 :: s7 :: s8 :: .sh d :: r) = .ok d := rfl
theorem q_v10 {s0 s1 s2 s3 s4 s5 s6 s7 s8 s9 : Sl} {r : Ev} : dV 10 (s0 :: s1 :: s2 :: s3 :: s4 :: s5 :: s6 :: s7 :: s8 :: s9 :: .sh d :: r) = .ok d := rfl
theorem q_v11 {s0 s1 s2 s3 s4 s5 s6 s7 s8 s9 s10 : Sl} {r : Ev} : dV 11 (s0 :: s1 :: s2 :: s3 :: s4 :: s5 :: s6 :: s7 :: s8 :: s9 :: s10 :: .sh d :: r) = .ok d := rfl
theorem q_v12 {s0 s1 s2 s3 s4 s5 s6 s7 s8 s9 s10 s11 : Sl} {r : Ev} : dV 12 (s0 :: s1 :: s2 :: s3 :: s4 :: s5 :: s6 :: s7 :: s8 :: s9 :: s10 :: s11 :: .sh d :: r) = .ok d := rfl
theorem q_v13 {s0 s1 s2 s3 s4 s5 s6 s7 s8 s9 s10 s11 s12 : Sl} {r : Ev} : dV 13 (s0 :: s1 :: s2 :: s3 :: s4 :: s5 :: s6 :: s7 :: s8 :: s9 :: s10 :: s11 :: s12 :: .sh d :: r) = .ok d := rfl
theorem q_mod_p (hj : 0 < j) : modD (.int i) (.int j) = .ok (.int (i % j)) := by
  rw [q_mod_i, if_pos (by simp; omega), Int.fmod_eq_emod_of_nonneg _ (by omega)]
theorem q_fdiv_p (hj : 0 < j) (h2 : j < 18446744073709551616) : fdivD (.int i) (.int j) = .ok (.int (i / j)) := by
  have hb : bits j <= 64 := bits_le (by omega)
  rw [q_fdiv_i, if_pos (by unfold okDiv; simp only [Bool.and_eq_true, decide_eq_true_eq]; omega), Int.fdiv_eq_ediv_of_nonneg _ (by omega)]
theorem q_add_sp {x y : Str} (h1 : x.length <= 1000) (h2 : y.length <= 1000) : addD (.str x) (.str y) = .ok (.str (x ++ y)) := by
  rw [q_add_s, if_pos (Nat.le_trans (Nat.add_le_add h1 h2) (by decide))]
theorem q_add_lp {x y : List D} (h1 : x.length <= 1000) (h2 : y.length <= 1000) : addD (.lst x) (.lst y) = .ok (.lst (x ++ y)) := by
  rw [q_add_l, if_pos (Nat.le_trans (Nat.add_le_add h1 h2) (by decide))]
theorem q_fit_p {x : List D} (h1 : x.length <= 1000) : fitL x = .ok x := by
  rw [q_fitL_a, if_pos (Nat.le_trans h1 (by decide))]
theorem q_mkT_p {x : List D} (h1 : x.length <= 1000) : mkT x = .ok (.tup x) := by
  rw [q_mkT_a, if_pos (Nat.le_trans h1 (by decide))]
end
end P2
namespace P2
open PySem L2 PySem.Spec
open PyProof.Rows hiding St
section
variable {X : Cx} {E : XK}
noncomputable def okMulU (i j : Int) : Bool := okMul i j || okMul64 i j
noncomputable def mulUD : D -> D -> R D
  | .int i, .int j => if okMulU i j = true then .ok (.int (i * j)) else .bad
  | .str x, .int n => if okMulS x n = true then .ok (.str (Txt.mul x n)) else .bad
  | _, _ => .bad
theorem op_mulUD : OpD X E (binaryOp .Mult) mulUD := by
  refine ⟨_, opr_or (opr_or op_mul op_mulB) op_mul_str, fun al H x y dx dy Q fr rx ry h => ?_⟩
  unfold mulUD at h
  split at h
  · cases rx; cases ry
    split at h
    · rename_i z
      unfold okMulU at z
      rw [Bool.or_eq_true] at z
      rcases z with z | z
      · unfold okMul at z
        simp only [Bool.and_eq_true, decide_eq_true_eq] at z
        exact .inl (.inr ⟨_, _, rfl, rfl, z, h H (.refl H) _ (.int _)⟩)
      · refine .inl (.inl ⟨_, _, rfl, rfl, ?_, h H (.refl H) _ (.int _)⟩)
        unfold okMul64 at z
        simp only [Bool.or_eq_true, Bool.and_eq_true, decide_eq_true_eq] at z
        exact z
    · exact h.elim
  · cases rx; cases ry
    split at h
    · rename_i z; exact .inr ⟨_, _, rfl, rfl, mulOk_of z, h H (.refl H) _ (.str _)⟩
    · exact h.elim
  · exact h.elim
end
theorem p400 : (10 : Nat) ^ 400 < 2 ^ 1500 := by decide +kernel
theorem bits400 {i : Int} (h : i.natAbs < 10 ^ 400) : bits i <= 1500 := bits_le (Nat.lt_trans h p400)
theorem q_fdivU {i j : Int} (hj : j ≠ 0) (h2 : j.natAbs < 10 ^ 400) : fdivD (.int i) (.int j) = .ok (.int (i.fdiv j)) := by
  have hb := bits400 h2
  rw [q_fdiv_i, if_pos (by unfold okDiv; simp only [Bool.and_eq_true, decide_eq_true_eq]; omega)]
theorem q_strU {i : Int} (h : i.natAbs < 10 ^ 400) : strD [.int i] = .ok (.str (toString i)) := by
  have p : (2 : Nat) ^ 1500 <= 2 ^ 1920 := Nat.pow_le_pow_right (by decide) (by decide)
  rw [q_str_i, if_pos (log2_lt (by decide) (Nat.lt_of_lt_of_le (Nat.lt_trans h p400) p))]
theorem q_fmtU {i : Int} (h : i.natAbs < 10 ^ 400) : fmtD (.int i) = .ok (.str (toString i)) := by
  have p : (2 : Nat) ^ 1500 <= 2 ^ 1920 := Nat.pow_le_pow_right (by decide) (by decide)
  rw [q_fmt_i, if_pos (log2_lt (by decide) (Nat.lt_of_lt_of_le (Nat.lt_trans h p400) p))]
theorem q_isX_i {q : Addr -> Value -> Option Bool} {i : Int} : isXD q [.int i, .ty "int"] = .ok (.bl true) := rfl
theorem q_isX_b {q : Addr -> Value -> Option Bool} {i : Int} : isXD q [.int i, .ty "bool"] = .ok (.bl false) := rfl
theorem q_isX_s {q : Addr -> Value -> Option Bool} {x : Str} : isXD q [.str x, .ty "str"] = .ok (.bl true) := rfl
theorem q_isX_t {q : Addr -> Value -> Option Bool} {ds : List D} : isXD q [.tup ds, .ty "tuple"] = .ok (.bl true) := rfl
theorem q_isX_l {q : Addr -> Value -> Option Bool} {ds : List D} : isXD q [.lst ds, .ty "list"] = .ok (.bl true) := rfl
theorem q_slW_l {ds : List D} {lo hi : Option Int} : slWD (.lst ds) lo hi = .ok (.lst (cutD ds lo hi)) := rfl
theorem q_slW_s {x : Str} {lo hi : Option Int} : slWD (.str x) lo hi = if x.length <= sizeLine then .ok (.str (Txt.slice x lo hi)) else .bad := rfl
theorem q_is_bb {a b : Bool} : isD2 (.bl a) (.bl b) = .ok (.bl (a == b)) := rfl
theorem q_isn_bb {a b : Bool} : isnD2 (.bl a) (.bl b) = .ok (.bl (!(a == b))) := rfl
theorem q_is_nn : isD2 .non .non = .ok (.bl true) := rfl
theorem q_isn_nn : isnD2 .non .non = .ok (.bl false) := rfl
theorem q_is_tn {ds : List D} : isD2 (.tup ds) .non = .ok (.bl false) := rfl
theorem q_isn_tn {ds : List D} : isnD2 (.tup ds) .non = .ok (.bl true) := rfl
theorem q_isXr {q : Addr -> Value -> Option Bool} {c C : Addr} {ns : List Str} {ds : List D} {b : Bool} (h : q c (.ref C) = some b) : isXD q [.exc c ns ds, .ref C] = .ok (.bl b) := by
  show (match (some (Value.ref C)).bind (q c) with | some b => R.ok (D.bl b) | none => .bad) = _
  rw [Option.bind_some, h]
theorem q_isXt {q : Addr -> Value -> Option Bool} {c : Addr} {T : String} {ns : List Str} {ds : List D} {b : Bool} (h : q c (.type T) = some b) : isXD q [.exc c ns ds, .ty T] = .ok (.bl b) := by
  show (match (some (Value.type T)).bind (q c) with | some b => R.ok (D.bl b) | none => .bad) = _
  rw [Option.bind_some, h]
theorem q_whileD {c : Ev -> R Bool} {b : Ev -> RT} {n : Nat} {ρ : Ev} : whileD c b (n + 1) ρ = toS (c ρ) fun k => if k = true then turnT (b ρ) (whileD c b n) else .nx ρ := rfl
end P2
namespace P2
open PySem L2 PySem.Spec
open PyProof.Rows hiding St
section
variable {X : Cx} {σ : L2.St} {pins : List (Addr × Obj)} {f l it S : Addr} {dv : Value} {vs : List V} {H0 : Hp} {R : Result -> Shared -> Prop}
end
section
variable {X : Cx} {σ : L2.St} {pins : List (Addr × Obj)} {f l it S : Addr} {dv : Value} {vs : List V} {H0 : Hp} {R : Result -> Shared -> Prop}
end
section
variable {X : Cx} {E : XK} {k : Nat} {x fn p : Str} {F : List D -> R D} {fa fb : Ev -> R D} {e de : Expr} {pos p0 p1 p2 p3 : Pos}
end
end P2
namespace PySem.F
end PySem.F
namespace P2
open PySem
section
variable {prog : Program} {w : World} {A : Around} {E : Value -> Shared -> Prop} {s : Shared} {R : Result -> Shared -> Prop}
variable {I : Addr} {fp wr : List Addr} {G : Array GenState -> Array GenState -> Prop} {n : Nat} {P : Nat -> Value -> Prop} {St : Nat -> Shared -> Prop}
end
end P2
namespace P2
open PySem L2 PySem.Spec
open PyProof.Rows hiding St
section
variable {X : Cx} {E : XK} {e : Expr} {ta : TE} {f : Ev -> R D} {p1 p2 pos pos2 : Pos}
end
end P2
namespace P2
open PySem L2 PySem.Spec
open PyProof.Rows hiding St
section
variable {X : Cx} {E : XK} {a b : Expr} {rest : List Expr} {pos : Pos} {ta tb : TE} {fa fb : Ev -> R D}
end
end P2
namespace P2
open PySem L2 PySem.Spec PySem.Calls
open PyProof.Rows hiding St
noncomputable def BM (mg : Str -> Option Value) (h : Heap) : Prop := ∃ bm ob, mg "__builtins__" = some (.ref bm) /\ bm ≠ builtinsNs /\ h.get? bm = some ob /\ ob.cls = .type "module" /\ ob.dict = some builtinsNs /\ ob.data = .plain
section
variable {X : Cx} {pins : List (Addr × Obj)} {σ : List (Option V)} {H : Hp} {s : Shared}
end
section
variable {X : Cx} {E : XK} {k : Nat} {p : Str} {fa fb g : Ev -> R D} {e de body : Expr} {pos p0 p2 p3 p4 : Pos} {x qual : Str} {c P : Addr} {params : Arguments} {scope : Scope} {N : List Str}
end
section
variable {P : Program} {w : World} {K : W.Frag} {mg : Str -> Option Value} {base : Heap}
end
end P2
namespace WP
open PySem L2 P2
structure Ad where
  WeatherError : Addr := 0
  NoFraction : Addr := 0
  NoText : Addr := 0
  Twice : Addr := 0
  TooMany : Addr := 0
  NoRow : Addr := 0
  Tokens : Addr := 0
  Book : Addr := 0
  Sight : Addr := 0
  Desk : Addr := 0
  fI_row : Addr := 0
  fI_mast : Addr := 0
  fI_most : Addr := 0
  isx : Addr -> Value -> Option Bool := fun _ _ => none
noncomputable def g_only_figures (a : Ad) : Ev -> RT := (sRet (dAnd (d2 neSD (dV 0) (dC (.str ""))) (dA allD (aCons (asN (dComp (fun ρ => ((dV 0) ρ).bind asI) 1 [] (gV 0) (fun _ => .ok true) (d2 inSD (dV 0) (dC (.str "0123456789"))))) aNil))))
noncomputable def g_is_number (a : Ad) (F_only_figures : List D -> R D) : Ev -> RT := (sSeq (sIf (bOr (b1 tB (d2 gtD (dA lenD (aCons (dV 0) aNil)) (dV 1))) (bNot (b1 tT (dA F_only_figures (aCons (dV 0) aNil))))) (sRet (dC (.bl false))) sNil)
    (sRet (dOr (d2 eqSD (dV 0) (dC (.str "0"))) (dNot (dMt "str" startsD (dV 0) (aCons (dC (.str "0")) aNil))))))
noncomputable def gr_whole (a : Ad) (F_is_number : List D -> R D) : Ev -> RT := (sSeq (sIf (bNot (b1 tT (dA F_is_number (aCons (dV 0) (aCons (dA lenD (aCons (dA strD (aCons (dV 2) aNil)) aNil)) aNil))))) (fun ρ => toS ((aCons (dC (.int 1)) aNil) ρ) fun ds => .ex a.NoText ["row"] ds) sNil)
    (sSeq (sSet 3 (dA intD (aCons (dV 0) aNil)))
    (sSeq (sIf (bOr (b1 tB (d2 ltD (dV 3) (dV 1))) (b1 tB (d2 gtD (dV 3) (dV 2)))) (fun ρ => toS ((aCons (dC (.int 1)) aNil) ρ) fun ds => .ex a.NoText ["row"] ds) sNil)
    (sRet (dV 3)))))
noncomputable def b1_common_divisor (a : Ad) : Ev -> RT := (sSeq (sSet 2 (d2 modD (dV 0) (dV 1)))
    (sSeq (sSet 0 (dV 1))
    (sSet 1 (dV 2))))
noncomputable def g_common_divisor (a : Ad) : Ev -> RT := (sSeq (whileD (b1 tB (d2 neSD (dV 1) (dC (.int 0)))) (b1_common_divisor a) 10000000000000000000000000000000000000000000000000000000000000000000000000000000000000000000000000000000000000000000000000000000000000000000000000000000000000000000000000000000000000000000000000000000000000000000000000000000000000000000000000000000000000000000000000000000000000000000000000000000000000000000000000000000000000000000000000000000000000000000000000000000000000000000000000000000000000000)
    (sRet (dV 0)))
noncomputable def g_is_whole (a : Ad) : Ev -> RT := (sRet (dAnd (dA (isXD a.isx) (aCons (dV 0) (aCons (dC (.ty "int")) aNil))) (dNot (dA (isXD a.isx) (aCons (dV 0) (aCons (dC (.ty "bool")) aNil))))))
noncomputable def g_fraction (a : Ad) (F_is_whole : List D -> R D) (F_common_divisor : List D -> R D) : Ev -> RT := (sSeq (sIf (bOr (bNot (b1 tT (dA F_is_whole (aCons (dV 0) aNil)))) (bOr (bNot (b1 tT (dA F_is_whole (aCons (dV 1) aNil)))) (b1 tB (d2 eqSD (dV 1) (dC (.int 0)))))) (fun _ => .ex a.NoFraction [] []) sNil)
    (sSeq (sSet 2 (dA F_common_divisor (aCons (dA absD (aCons (dV 0) aNil)) (aCons (dA absD (aCons (dV 1) aNil)) aNil))))
    (sSeq (sIf (b1 tB (d2 ltD (dV 1) (dC (.int 0)))) (sSet 2 (d1 negD (dV 2))) sNil)
    (sRet (dA mkT (aCons (d2 fdivD (dV 0) (dV 2)) (aCons (d2 fdivD (dV 1) (dV 2)) aNil)))))))
noncomputable def g_show_fraction (a : Ad) : Ev -> RT := (sSeq (sSet 1 (d2 ixD (dV 0) (dC (.int 0))))
    (sSeq (sSet 2 (d2 ixD (dV 0) (dC (.int 1))))
    (sSeq (sIf (b1 tB (d2 eqSD (dV 2) (dC (.int 1)))) (sRet (dA strD (aCons (dV 1) aNil))) sNil)
    (sRet ((jCons (d1 fmtD (dV 1)) (jCons (dC (.str "/")) (jCons (d1 fmtD (dV 2)) jNil))) Str.empty)))))
noncomputable def gr_fraction (a : Ad) (F_is_number : List D -> R D) (F_fraction : List D -> R D) (F_show_fraction : List D -> R D) : Ev -> RT := (sSeq (sSet 1 (dMt "str" startsD (dV 0) (aCons (dC (.str "-")) aNil)))
    (sSeq (sSet 2 (dIf (b1 tT (dV 1)) (dMt "str" splitD (dSl slWD (dV 0) (fun ρ => ((dC (.int 1)) ρ).bind pI) (fun _ => .ok none)) (aCons (dC (.str "/")) aNil)) (dMt "str" splitD (dV 0) (aCons (dC (.str "/")) aNil))))
    (sSeq (sIf (bOr (b1 tB (d2 gtD (dA lenD (aCons (dV 2) aNil)) (dC (.int 2)))) (bNot (b1 tT (dA allD (aCons (asN (dComp (fun ρ => ((dV 2) ρ).bind asI) 1 [] (gV 0) (fun _ => .ok true) (dA F_is_number (aCons (dV 0) (aCons (dC (.int 60)) aNil))))) aNil))))) (fun ρ => toS ((aCons (dC (.int 1)) aNil) ρ) fun ds => .ex a.NoText ["row"] ds) sNil)
    (sSeq (sSet 3 (dIf (b1 tT (dV 1)) (d1 negD (dA intD (aCons (d2 ixD (dV 2) (dC (.int 0))) aNil))) (dA intD (aCons (d2 ixD (dV 2) (dC (.int 0))) aNil))))
    (sSeq (sSet 4 (dIf (b1 tB (d2 eqSD (dA lenD (aCons (dV 2) aNil)) (dC (.int 2)))) (dA intD (aCons (d2 ixD (dV 2) (dC (.int 1))) aNil)) (dC (.int 1))))
    (sSeq (sIf (b1 tB (d2 eqSD (dV 4) (dC (.int 0)))) (fun ρ => toS ((aCons (dC (.int 1)) aNil) ρ) fun ds => .ex a.NoText ["row"] ds) sNil)
    (sSeq (sSet 5 (dA F_fraction (aCons (dV 3) (aCons (dV 4) aNil))))
    (sSeq (sIf (b1 tB (d2 neSD (dA F_show_fraction (aCons (dV 5) aNil)) (dV 0))) (fun ρ => toS ((aCons (dC (.int 1)) aNil) ρ) fun ds => .ex a.NoText ["row"] ds) sNil)
    (sRet (dV 5))))))))))
noncomputable def gr_small_fraction (a : Ad) (Fr_fraction : List D -> R D) : Ev -> RT := (sSeq (sSet 1 (dA Fr_fraction (aCons (dV 0) aNil)))
    (sSeq (sIf (bOr (b1 tB (d2 geD (dA absD (aCons (d2 ixD (dV 1) (dC (.int 0))) aNil)) (dC (.int 1000000000)))) (b1 tB (d2 geD (d2 ixD (dV 1) (dC (.int 1))) (dC (.int 1000000))))) (fun ρ => toS ((aCons (dC (.int 1)) aNil) ρ) fun ds => .ex a.NoText ["row"] ds) sNil)
    (sRet (dV 1))))
noncomputable def g_is_word (a : Ad) : Ev -> RT := (sSeq (sIf (bOr (bNot (b1 tT (dA (isXD a.isx) (aCons (dV 0) (aCons (dC (.ty "str")) aNil))))) (bOr (b1 tB (d2 eqSD (dV 0) (dC (.str "")))) (b1 tB (d2 gtD (dA lenD (aCons (dV 0) aNil)) (dC (.int 8)))))) (sRet (dC (.bl false))) sNil)
    (sRet (dAnd (dA allD (aCons (asN (dComp (fun ρ => ((dV 0) ρ).bind asI) 1 [] (gV 0) (fun _ => .ok true) (d2 inSD (dV 0) (dC (.str "abcdefghijklmnopqrstuvwxyz"))))) aNil)) (d2 ninLD (dV 0) (dC (.tup [(.str "mark"), (.str "fill"), (.str "here"), (.str "back"), (.str "on"), (.str "at"), (.str "ago"), (.str "until"), (.str "abs"), (.str "and"), (.str "or"), (.str "not")]))))))
noncomputable def gr_word (a : Ad) (F_is_word : List D -> R D) : Ev -> RT := (sSeq (sIf (bNot (b1 tT (dA F_is_word (aCons (dV 0) aNil)))) (fun ρ => toS ((aCons (dC (.int 1)) aNil) ρ) fun ds => .ex a.NoText ["row"] ds) sNil)
    (sRet (dV 0)))
end WP
namespace P2
open PySem PySem.W PyProof.Rows
section
variable {n : Nat} {c : Nat -> Nat -> Bool} {rk : Nat -> Int}
variable (hc : ∀ i j, i < n -> j < n -> c i j = decide (rk i < rk j))
include hc
omit hc in
omit hc in
omit hc in
end
end P2
namespace P2
open PySem L2 PySem.Spec PySem.Calls
open PyProof.Rows hiding St
section
variable {X : Cx} {E : XK} {e : Expr} {ta : TE} {f : Ev -> R D} {p1 pos : Pos}
end
end P2
namespace P2
open PySem L2 PySem.Spec PySem.Calls PySem.W
open PyProof.Rows hiding St K
section
variable {prog : Program} {w : World} {A : Around} {E : Value -> Shared -> Prop} {s : Shared}
end
end P2
namespace P2
open PySem L2 PySem.Spec PySem.Calls PySem.W
open PyProof.Rows hiding St K
inductive Two : List D -> List D -> Prop
  | nil : Two [] []
  | int (i j : Int) {xs ys : List D} : Two xs ys -> Two (.int i :: xs) (.int j :: ys)
  | str (i j : Str) {xs ys : List D} : Two xs ys -> Two (.str i :: xs) (.str j :: ys)
inductive TwoQ : D -> D -> Prop
  | int (i j : Int) : TwoQ (.int i) (.int j)
  | str (i j : Str) : TwoQ (.str i) (.str j)
  | tup {a b : List D} {d e : D} : Two (d :: a) (e :: b) -> TwoQ (.tup (d :: a)) (.tup (e :: b))
end P2
namespace P2
open PySem L2 PySem.Spec PySem.Calls PySem.W
open PyProof.Rows hiding St K
noncomputable def FlV : D -> Value -> Prop
  | .int i, .int j _ => i = j
  | .str x, .str y _ => x = y
  | _, _ => False
inductive Fl2 : List D -> List Value -> Prop
  | nil : Fl2 [] []
  | cons {d : D} {v : Value} {ds : List D} {vs : List Value} : FlV d v -> Fl2 ds vs -> Fl2 (d :: ds) (v :: vs)
noncomputable def TupAt (h : Heap) (u : Value) (ds : List D) : Prop := ∃ a o xs n, u = .ref a /\ h.get? a = some o /\ o.cls = .type "tuple" /\ o.data = .seq xs n /\ Fl2 ds xs.toList
noncomputable def ItemAt (h : Heap) (u : Value) : D -> Prop
  | .int i => FlV (.int i) u
  | .str x => FlV (.str x) u
  | .tup ds => TupAt h u ds
  | _ => False
section
variable {prog : Program} {w : World} {A : Around} {E : Value -> Shared -> Prop} {s : Shared}
end
section
variable {prog : Program} {w : World} {A : Around} {E : Value -> Shared -> Prop} {s : Shared}
inductive Items (h : Heap) : List Value -> List D -> Prop
  | nil : Items h [] []
  | cons {u : Value} {d : D} {us : List Value} {ds : List D} : ItemAt h u d -> Items h us ds -> Items h (u :: us) (d :: ds)
end
end P2
namespace P2
open PySem L2 PySem.Spec PySem.Calls PySem.W
open PyProof.Rows hiding St K
section
variable {X : Cx} {E : XK} {e : Expr} {ta : TE} {f : Ev -> R D} {p1 pos : Pos}
end
end P2
namespace P2
open PySem L2
inductive Z where
  | d (x : D) | loc (n : Nat)
inductive Cell where
  | li (zs : List Z) | ob (C : Addr) (fs : List (Str × Z)) | dk (kvs : List (Key × Z)) | dt (kvs : List (List Key × Z)) | no
noncomputable abbrev Sto := List Cell
noncomputable abbrev Lo := Nat -> Option Addr
noncomputable abbrev ZEv := List (Option Z)
noncomputable def RepZ (K : W.Frag) (al : Addr -> Prop) (lo : Lo) (H : Hp) (v : V) : Z -> Prop
  | .d x => Rep K al H v x
  | .loc n => ∃ a, lo n = some a /\ v = .ref a
inductive RepZs (K : W.Frag) (al : Addr -> Prop) (lo : Lo) (H : Hp) : List V -> List Z -> Prop
  | nil : RepZs K al lo H [] []
  | cons {v : V} {z : Z} {vs : List V} {zs : List Z} : RepZ K al lo H v z -> RepZs K al lo H vs zs -> RepZs K al lo H (v :: vs) (z :: zs)
inductive RepK {κ : Type} (K : W.Frag) (al : Addr -> Prop) (lo : Lo) (H : Hp) : List (κ × V) -> List (κ × Z) -> Prop
  | nil : RepK K al lo H [] []
  | cons {k : κ} {v : V} {z : Z} {vs : List (κ × V)} {zs : List (κ × Z)} : RepZ K al lo H v z -> RepK K al lo H vs zs -> RepK K al lo H ((k, v) :: vs) ((k, z) :: zs)
noncomputable def CellAt (K : W.Frag) (al : Addr -> Prop) (lo : Lo) (H : Hp) (a : Addr) : Cell -> Prop
  | .li zs => ∃ vs, H a = some (.lst vs) /\ RepZs K al lo H vs zs
  | .ob C fs => ∃ dx us, H a = some (.ins C dx us) /\ RepK K al lo H us fs
  | .dk kvs => ∃ us, H a = some (.dK us) /\ RepK K al lo H us kvs
  | .dt kvs => ∃ us, H a = some (.dT us) /\ RepK K al lo H us kvs
  | .no => False
structure StOk (K : W.Frag) (al : Addr -> Prop) (lo : Lo) (H : Hp) (S : Sto) : Prop where
  at' : ∀ n a, lo n = some a -> ∃ c, S[n]? = some c /\ CellAt K al lo H a c
  has : ∀ n c, S[n]? = some c -> c ≠ .no -> ∃ a, lo n = some a
  na : ∀ n a, lo n = some a -> ¬ al a
  inj : ∀ m n a, lo m = some a -> lo n = some a -> m = n
structure Z0 where
  H : Hp
  al : Addr -> Prop
  lo : Lo
  n : Nat
structure EZ (K : W.Frag) (B : Z0) (al : Addr -> Prop) (lo : Lo) (H : Hp) (S : Sto) : Prop where
  fr : ∀ b o, NT o -> B.H b = some o -> (∀ n, B.lo n ≠ some b) -> H b = some o
  hf : ∀ b, H b = none -> B.H b = none
  tt : TbOk K H
  fresh : ∀ a, H a = none -> al a
  st : StOk K al lo H S
  lx : ∀ n a, B.lo n = some a -> lo n = some a
  nw : ∀ n a, lo n = some a -> B.lo n = some a \/ (B.H a = none /\ B.n <= n)
  bd : ∀ n a, B.lo n = some a -> n < B.n
  sz : B.n <= S.length
  xt : Xt B.al B.H al H
  sb : ∀ a, al a -> B.al a \/ B.H a = none
structure RZ (K : W.Frag) (B : Z0) (al : Addr -> Prop) (lo : Lo) (H : Hp) (σ : St) (ρ : ZEv) (S : Sto) : Prop extends EZ K B al lo H S where
  len : ρ.length = σ.length
  vr : ∀ (i : Nat) (z : Z), ρ[i]? = some (some z) -> ∃ v, σ[i]? = some (some v) /\ RepZ K al lo H v z
noncomputable def Lx (lo lo' : Lo) : Prop := ∀ n a, lo n = some a -> lo' n = some a
theorem Lx.refl {lo : Lo} : Lx lo lo := fun _ _ h => h
theorem Lx.trans {lo lo1 lo2 : Lo} (x : Lx lo lo1) (y : Lx lo1 lo2) : Lx lo lo2 := fun n a h => y n a (x n a h)
section
variable {K : W.Frag} {al al' : Addr -> Prop} {lo lo' : Lo} {H H' : Hp}
theorem RepZ.mv (x : Xt al H al' H') (y : Lx lo lo') {v : V} {z : Z} (r : RepZ K al lo H v z) : RepZ K al' lo' H' v z := by
  cases z with
  | d d => exact Rep.mv x r
  | loc n => obtain ⟨a, h1, h2⟩ := r; exact ⟨a, y n a h1, h2⟩
theorem RepZs.mv (x : Xt al H al' H') (y : Lx lo lo') {vs : List V} {zs : List Z} (r : RepZs K al lo H vs zs) : RepZs K al' lo' H' vs zs := by
  induction r with
  | nil => exact .nil
  | cons a _ ih => exact .cons (a.mv x y) ih
theorem RepK.mv {κ : Type} (x : Xt al H al' H') (y : Lx lo lo') {vs : List (κ × V)} {zs : List (κ × Z)} (r : RepK K al lo H vs zs) : RepK K al' lo' H' vs zs := by
  induction r with
  | nil => exact .nil
  | cons a _ ih => exact .cons (a.mv x y) ih
theorem RepZs.length {vs : List V} {zs : List Z} (r : RepZs K al lo H vs zs) : vs.length = zs.length := by
  induction r with
  | nil => rfl
  | cons _ _ ih => rw [List.length_cons, List.length_cons, ih]
theorem RepZs.append {vs ws : List V} {zs ys : List Z} (r : RepZs K al lo H vs zs) (q : RepZs K al lo H ws ys) : RepZs K al lo H (vs ++ ws) (zs ++ ys) := by
  induction r with
  | nil => exact q
  | cons a _ ih => exact .cons a ih
theorem RepZs.get {vs : List V} {zs : List Z} (r : RepZs K al lo H vs zs) {i : Nat} {z : Z} (e : zs[i]? = some z) : ∃ v, vs[i]? = some v /\ RepZ K al lo H v z := by
  induction r generalizing i with
  | nil => simp at e
  | cons a _ ih =>
    cases i with
    | zero => simp at e; subst e; exact ⟨_, rfl, a⟩
    | succ i => simpa using ih (by simpa using e)
theorem RepZs.ofD {vs : List V} {ds : List D} (r : Reps K al H vs ds) : RepZs K al lo H vs (ds.map .d) := by
  induction ds generalizing vs with
  | nil => cases r; exact .nil
  | cons d ds ih => cases r with | cons a b => exact .cons a (ih b)
theorem RepZs.toD {vs : List V} {ds : List D} (r : RepZs K al lo H vs (ds.map .d)) : Reps K al H vs ds := by
  induction ds generalizing vs with
  | nil => cases r; exact .nil
  | cons d ds ih => cases r with | cons a b => exact .cons a (ih b)
theorem CellAt.mv (x : Xt al H al' H') (y : Lx lo lo') {a : Addr} {c : Cell} (e : ∀ o, NT o -> H a = some o -> H' a = some o) (r : CellAt K al lo H a c) : CellAt K al' lo' H' a c := by
  cases c with
  | li zs => obtain ⟨vs, h1, h2⟩ := r; exact ⟨vs, e _ nt_lst h1, h2.mv x y⟩
  | ob C fs => obtain ⟨dx, us, h1, h2⟩ := r; exact ⟨dx, us, e _ (fun _ h => nomatch h) h1, h2.mv x y⟩
  | dk kvs => obtain ⟨us, h1, h2⟩ := r; exact ⟨us, e _ (fun _ h => nomatch h) h1, h2.mv x y⟩
  | dt kvs => obtain ⟨us, h1, h2⟩ := r; exact ⟨us, e _ (fun _ h => nomatch h) h1, h2.mv x y⟩
  | no => exact r
theorem CellAt.isO {a : Addr} {c : Cell} (r : CellAt K al lo H a c) : H a ≠ none /\ (∀ ps, H a ≠ some (.tbl ps)) /\ (∀ q, H a ≠ some (CodeO a q)) := by
  cases c with
  | li zs => obtain ⟨vs, h1, h2⟩ := r; rw [h1]; exact ⟨nofun, fun _ => nofun, fun _ w => by unfold CodeO at w; exact nomatch w⟩
  | ob C fs => obtain ⟨dx, us, h1, h2⟩ := r; rw [h1]; exact ⟨nofun, fun _ => nofun, fun _ w => by unfold CodeO at w; exact nomatch w⟩
  | dk kvs => obtain ⟨us, h1, h2⟩ := r; rw [h1]; exact ⟨nofun, fun _ => nofun, fun _ w => by unfold CodeO at w; exact nomatch w⟩
  | dt kvs => obtain ⟨us, h1, h2⟩ := r; rw [h1]; exact ⟨nofun, fun _ => nofun, fun _ w => by unfold CodeO at w; exact nomatch w⟩
  | no => exact r.elim
end
section
variable {K : W.Frag} {B : Z0} {al : Addr -> Prop} {lo : Lo} {H H' : Hp} {σ : St} {ρ : ZEv} {S : Sto}
theorem EZ.start {zs : List Z} (tt : TbOk K H) (fr : ∀ a, H a = none -> al a) (st : StOk K al lo H S) : EZ K ⟨H, al, lo, S.length⟩ al lo H S where
  fr := fun _ _ _ h _ => h
  hf := fun _ h => h
  tt := tt
  fresh := fr
  st := st
  lx := fun _ _ h => h
  nw := fun _ _ h => .inl h
  bd := fun n a h => by obtain ⟨c, e, _⟩ := st.at' n a h; exact (List.getElem?_eq_some_iff.mp e).1
  sz := Nat.le_refl _
  xt := .refl
  sb := fun _ h => .inl h
theorem EZ.grow (r : EZ K B al lo H S) (s : Same K H H') : EZ K B al lo H' S where
  fr := fun b o n h w => s.at' b o n (r.fr b o n h w)
  hf := fun b h => r.hf b (s.fr b h)
  tt := s.tt r.tt
  fresh := fun a h => r.fresh a (s.fr a h)
  st := {
    at' := fun n a h => by obtain ⟨c, e, q⟩ := r.st.at' n a h; exact ⟨c, e, q.mv (.of s) .refl fun o no h => s.at' _ o no h⟩
    has := r.st.has
    na := r.st.na
    inj := r.st.inj }
  lx := r.lx
  nw := r.nw
  bd := r.bd
  sz := r.sz
  xt := r.xt.trans (.of s)
  sb := r.sb
theorem RZ.grow (r : RZ K B al lo H σ ρ S) (s : Same K H H') : RZ K B al lo H' σ ρ S :=
  ⟨r.toEZ.grow s, r.len, fun i z e => let ⟨v, h1, h2⟩ := r.vr i z e; ⟨v, h1, h2.mv (.of s) .refl⟩⟩
noncomputable def purS : Option Z -> Sl
  | some (.d x) => .sh x
  | _ => .no
noncomputable def pur (ρ : ZEv) : Ev := ρ.map purS
theorem RZ.rs (r : RZ K B al lo H σ ρ S) : RS K al H al H σ (pur ρ) where
  same := .refl H
  tt := r.tt
  fresh := r.fresh
  sub := fun _ h => h
  pf := r.fresh
  len := by unfold pur; rw [List.length_map]; exact r.len
  sh := fun i d h => by
    unfold pur at h
    rw [List.getElem?_map] at h
    obtain ⟨z, h1, h2⟩ := Option.map_eq_some_iff.mp h
    cases z with
    | none => cases h2
    | some z =>
      cases z with
      | d x => cases h2; exact r.vr i _ h1
      | loc n => cases h2
  ow := fun i ds h => by
    unfold pur at h
    rw [List.getElem?_map] at h
    obtain ⟨z, h1, h2⟩ := Option.map_eq_some_iff.mp h
    cases z with
    | none => cases h2
    | some z => cases z <;> cases h2
  apart := fun i j ds ds' a h _ _ _ => by
    unfold pur at h
    rw [List.getElem?_map] at h
    obtain ⟨z, h1, h2⟩ := Option.map_eq_some_iff.mp h
    cases z with
    | none => cases h2
    | some z => cases z <;> cases h2
theorem RZ.set (r : RZ K B al lo H σ ρ S) {i : Nat} {v : V} {z : Z} (hi : i < ρ.length) (q : RepZ K al lo H v z) : RZ K B al lo H (σ.set i (some v)) (ρ.set i (some z)) S where
  toEZ := r.toEZ
  len := by rw [List.length_set, List.length_set]; exact r.len
  vr := fun j e h => by
    by_cases w : i = j
    · subst w
      rw [List.getElem?_set_self hi] at h; cases h
      exact ⟨v, List.getElem?_set_self (by rw [← r.len]; exact hi), q⟩
    · rw [List.getElem?_set_ne w] at h
      obtain ⟨u, a, b⟩ := r.vr j e h
      exact ⟨u, by rw [List.getElem?_set_ne w]; exact a, b⟩
noncomputable def loNew (lo : Lo) (n : Nat) (p : Addr) : Lo := fun m => if m = n then some p else lo m
theorem StOk.none (st : StOk K al lo H S) : lo S.length = Option.none := by
  cases h : lo S.length with
  | none => rfl
  | some a =>
    obtain ⟨c, e, _⟩ := st.at' _ a h
    have := (List.getElem?_eq_some_iff.mp e).1
    omega
theorem loNew_x (st : StOk K al lo H S) (p : Addr) : Lx lo (loNew lo S.length p) := fun n a h => by
  unfold loNew
  rw [if_neg]
  · exact h
  · intro w; rw [w, st.none] at h; cases h
theorem xt_new {p : Addr} {o : HO} (hp : H p = none) : Xt al H (fun b => al b /\ b ≠ p) (upd H p o) := fun b u _ hb e => ⟨⟨hb, ne_of_none e hp⟩, by rw [upd_ne (ne_of_none e hp)]; exact e⟩
theorem EZ.new (r : EZ K B al lo H S) {p : Addr} {o : HO} {c : Cell} (hp : H p = none) (no : NT o) (hc : CellAt K (fun b => al b /\ b ≠ p) (loNew lo S.length p) (upd H p o) p c) (cn : c ≠ .no) :
    EZ K B (fun b => al b /\ b ≠ p) (loNew lo S.length p) (upd H p o) (S ++ [c]) := by
  have s : Same K H (upd H p o) := same_upd hp
  have x : Xt al H (fun b => al b /\ b ≠ p) (upd H p o) := xt_new hp
  have g := r.grow s
  refine ⟨g.fr, g.hf, g.tt, fun a h => ⟨g.fresh a h, fun w => by rw [w, upd_same] at h; cases h⟩, ⟨fun n a h => ?_, fun n c' h w => ?_, fun n a h w => ?_, fun m n a h1 h2 => ?_⟩, fun n a h => loNew_x r.st p n a (r.lx n a h), fun n a h => ?_, r.bd, by rw [List.length_append]; have := r.sz; omega, r.xt.trans x, fun b hb => r.sb b hb.1⟩
  · unfold loNew at h
    by_cases w : n = S.length
    · rw [if_pos w] at h; cases h
      exact ⟨c, by rw [w]; simp, hc⟩
    · rw [if_neg w] at h
      obtain ⟨c', e, q⟩ := r.st.at' n a h
      have ne : a ≠ p := fun z => q.isO.1 (by rw [z]; exact hp)
      exact ⟨c', by rw [List.getElem?_append_left (List.getElem?_eq_some_iff.mp e).1]; exact e, q.mv x (loNew_x r.st p) fun u _ h => by rw [upd_ne ne]; exact h⟩
  · by_cases z : n < S.length
    · rw [List.getElem?_append_left z] at h
      obtain ⟨a, h1⟩ := r.st.has n c' h w
      exact ⟨a, loNew_x r.st p n a h1⟩
    · have : n = S.length := by
        have := (List.getElem?_eq_some_iff.mp h).1
        rw [List.length_append, List.length_singleton] at this
        omega
      exact ⟨p, by unfold loNew; rw [if_pos this]⟩
  · unfold loNew at h
    by_cases z : n = S.length
    · rw [if_pos z] at h; cases h; exact w.2 rfl
    · rw [if_neg z] at h; exact r.st.na n a h w.1
  · have old : ∀ k b, lo k = some b -> b ≠ p := fun k b hk z => by
      obtain ⟨c', _, q⟩ := r.st.at' k b hk
      exact q.isO.1 (by rw [z]; exact hp)
    unfold loNew at h1 h2
    by_cases z : m = S.length
    · rw [if_pos z] at h1; cases h1
      by_cases y : n = S.length
      · omega
      · rw [if_neg y] at h2; exact absurd rfl (old n _ h2)
    · rw [if_neg z] at h1
      by_cases y : n = S.length
      · rw [if_pos y] at h2; cases h2; exact absurd rfl (old m _ h1)
      · rw [if_neg y] at h2; exact r.st.inj m n a h1 h2
  · unfold loNew at h
    by_cases z : n = S.length
    · rw [if_pos z] at h; cases h; exact .inr ⟨r.hf _ hp, by rw [z]; exact r.sz⟩
    · rw [if_neg z] at h; exact r.nw n a h
theorem RZ.new (r : RZ K B al lo H σ ρ S) {p : Addr} {o : HO} {c : Cell} (hp : H p = none) (no : NT o) (hc : CellAt K (fun b => al b /\ b ≠ p) (loNew lo S.length p) (upd H p o) p c) (cn : c ≠ .no) :
    RZ K B (fun b => al b /\ b ≠ p) (loNew lo S.length p) (upd H p o) σ ρ (S ++ [c]) :=
  ⟨r.toEZ.new hp no hc cn, r.len, fun i z e => let ⟨v, h1, h2⟩ := r.vr i z e; ⟨v, h1, h2.mv (xt_new hp) (loNew_x r.st p)⟩⟩
theorem EZ.write (r : EZ K B al lo H S) {n : Nat} {a : Addr} {o : HO} {c : Cell} (hn : lo n = some a) (no : NT o) (nc : ∀ q, o ≠ CodeO a q) (hc : CellAt K al lo (upd H a o) a c) (cn : c ≠ .no) : EZ K B al lo (upd H a o) (S.set n c) /\ Xt al H al (upd H a o) := by
  obtain ⟨c0, e0, q0⟩ := r.st.at' n a hn
  have hl : n < S.length := (List.getElem?_eq_some_iff.mp e0).1
  have na := r.st.na n a hn
  have x : Xt al H al (upd H a o) := fun b u _ hb e => ⟨hb, by rw [upd_ne fun w => na (by rw [← w]; exact hb)]; exact e⟩
  refine ⟨⟨fun b u nu h w => ?_, fun b h => ?_, r.tt.upd q0.isO.2.1 q0.isO.2.2, fun b h => ?_, ⟨fun m b h => ?_, fun m c' h w => ?_, r.st.na, r.st.inj⟩, r.lx, r.nw, r.bd, by rw [List.length_set]; exact r.sz, r.xt.trans x, r.sb⟩, x⟩
  · have := r.fr b u nu h w
    by_cases z : b = a
    · subst z
      rcases r.nw n b hn with q | q
      · exact absurd q (w n)
      · rw [q.1] at h; cases h
    · rw [upd_ne z]; exact this
  · by_cases z : b = a
    · rw [z, upd_same] at h; cases h
    · rw [upd_ne z] at h; exact r.hf b h
  · by_cases z : b = a
    · rw [z, upd_same] at h; cases h
    · rw [upd_ne z] at h; exact r.fresh b h
  · by_cases z : n = m
    · subst z
      rw [hn] at h; cases h
      exact ⟨c, List.getElem?_set_self hl, hc⟩
    · obtain ⟨c', e, q⟩ := r.st.at' m b h
      refine ⟨c', by rw [List.getElem?_set_ne z]; exact e, q.mv x .refl fun u _ h' => ?_⟩
      rw [upd_ne fun w => z (r.st.inj n m a hn (by rw [← w]; exact h))]; exact h'
  · by_cases z : n = m
    · subst z; exact ⟨a, hn⟩
    · rw [List.getElem?_set_ne z] at h; exact r.st.has m c' h w
theorem RZ.write (r : RZ K B al lo H σ ρ S) {n : Nat} {a : Addr} {o : HO} {c : Cell} (hn : lo n = some a) (no : NT o) (nc : ∀ q, o ≠ CodeO a q) (hc : CellAt K al lo (upd H a o) a c) (cn : c ≠ .no) : RZ K B al lo (upd H a o) σ ρ (S.set n c) /\ Xt al H al (upd H a o) :=
  let ⟨e, x⟩ := r.toEZ.write hn no nc hc cn
  ⟨⟨e, r.len, fun i z e => let ⟨v, h1, h2⟩ := r.vr i z e; ⟨v, h1, h2.mv x .refl⟩⟩, x⟩
end
end P2
namespace P2
open PySem L2
inductive RX (α : Type) where
  | ok (a : α) (S : Sto) | ex (c : Addr) (ns : List Str) (ds : List D) (S : Sto) | bad
noncomputable def RX.bind {α β : Type} : RX α -> (α -> Sto -> RX β) -> RX β
  | .ok a S, f => f a S
  | .ex c ns ds S, _ => .ex c ns ds S
  | .bad, _ => .bad
noncomputable def upR {α : Type} (r : R α) (S : Sto) : RX α := match r with
  | .ok a => .ok a S
  | .ex c ns ds => .ex c ns ds S
  | .bad => .bad
noncomputable def AftZ {α : Type} (K : W.Frag) (B : Z0) (E : XK) (al : Addr -> Prop) (lo : Lo) (H : Hp) (σ : St) (ρ : ZEv) (r : RX α) (k : α -> (Addr -> Prop) -> Lo -> Hp -> Sto -> Prop) : Prop := match r with
  | .ok x S' => ∀ al' lo' H', RZ K B al' lo' H' σ ρ S' -> Xt al H al' H' -> Lx lo lo' -> k x al' lo' H' S'
  | .ex c ns ds S' => ∀ al' lo' H' dx, EZ K B al' lo' H' S' -> XR K al' H' dx ns ds -> E (.ref c) dx H'
  | .bad => False
section
variable {α β : Type} {K : W.Frag} {B : Z0} {E : XK} {al al' : Addr -> Prop} {lo lo' : Lo} {H H' : Hp} {σ : St} {ρ : ZEv} {S S' : Sto} {k k' : α -> (Addr -> Prop) -> Lo -> Hp -> Sto -> Prop}
theorem AftZ.up {r : RX α} (h : AftZ K B E al lo H σ ρ r k) (x : Xt al H al' H') (y : Lx lo lo') : AftZ K B E al' lo' H' σ ρ r k := by
  cases r with
  | ok a S => exact fun al2 lo2 H2 z x2 y2 => h al2 lo2 H2 z (x.trans x2) (y.trans y2)
  | ex c ns ds S => exact h
  | bad => exact h
theorem AftZ.mono {r : RX α} (h : AftZ K B E al lo H σ ρ r k) (m : ∀ x al' lo' H' S', RZ K B al' lo' H' σ ρ S' -> Xt al H al' H' -> Lx lo lo' -> k x al' lo' H' S' -> k' x al' lo' H' S') : AftZ K B E al lo H σ ρ r k' := by
  cases r with
  | ok a S => exact fun al2 lo2 H2 z x2 y2 => m _ _ _ _ _ z x2 y2 (h al2 lo2 H2 z x2 y2)
  | ex c ns ds S => exact h
  | bad => exact h
theorem AftZ.split {r : RX α} {g : α -> Sto -> RX β} {k : β -> (Addr -> Prop) -> Lo -> Hp -> Sto -> Prop} (h : AftZ K B E al lo H σ ρ (r.bind g) k) : AftZ K B E al lo H σ ρ r (fun x al' lo' H' S' => AftZ K B E al' lo' H' σ ρ (g x S') k) := by
  cases r with
  | ok a S => exact fun al2 lo2 H2 z x2 y2 => AftZ.up h x2 y2
  | ex c ns ds S => exact h
  | bad => exact h
theorem AftZ.toAft {r : R α} (z : RZ K B al lo H σ ρ S) (h : AftZ K B E al lo H σ ρ (upR r S) k) : Aft K al E H r (fun x H' => k x al lo H' S) := by
  cases r with
  | ok a => exact fun H1 s1 => h al lo H1 (z.grow s1) (.of s1) .refl
  | ex c ns ds => exact fun dx H1 s1 q => h al lo H1 dx (z.toEZ.grow s1) q
  | bad => exact h
end
noncomputable def ZE (X : Cx) (E : XK) (e : Expr) (f : ZEv -> Sto -> RX Z) : Prop := ∃ t : TE, PE X e t /\
  ∀ B al lo H σ ρ S (Q : VK), RZ X.K B al lo H σ ρ S -> AftZ X.K B E al lo H σ ρ (f ρ S) (fun z al' lo' H' _ => ∀ v, RepZ X.K al' lo' H' v z -> Q v H') -> t σ H Q
noncomputable def ZT (X : Cx) (E : XK) (e : Expr) (f : ZEv -> Sto -> RX Bool) : Prop := ∃ t : TT, PT X e t /\
  ∀ B al lo H σ ρ S (Q : Bool -> Hp -> Prop), RZ X.K B al lo H σ ρ S -> AftZ X.K B E al lo H σ ρ (f ρ S) (fun b _ _ H' _ => Q b H') -> t σ H Q
noncomputable def ZA (X : Cx) (E : XK) (es : List Expr) (f : ZEv -> Sto -> RX (List Z)) : Prop := ∃ t : TA, PA X es t /\
  (∀ B al lo H σ ρ S (Q : List V -> Hp -> Prop), RZ X.K B al lo H σ ρ S -> AftZ X.K B E al lo H σ ρ (f ρ S) (fun zs al' lo' H' _ => ∀ vs, RepZs X.K al' lo' H' vs zs -> Q vs H') -> t σ H Q) /\ ∀ ρ S zs S', f ρ S = .ok zs S' -> zs.length = es.length
noncomputable def zD (f : Ev -> R D) : ZEv -> Sto -> RX Z := fun ρ S => (upR (f (pur ρ)) S).bind fun d S => .ok (.d d) S
noncomputable def zB (f : Ev -> R Bool) : ZEv -> Sto -> RX Bool := fun ρ S => upR (f (pur ρ)) S
noncomputable def zV (i : Nat) : ZEv -> Sto -> RX Z := fun ρ S => match ρ[i]? with
  | some (some z) => .ok z S
  | _ => .bad
noncomputable def asDs : List Z -> Option (List D)
  | [] => some []
  | .d x :: r => (asDs r).map (x :: ·)
  | _ :: _ => none
theorem asDs_map : ∀ {zs : List Z} {ds : List D}, asDs zs = some ds -> zs = ds.map .d
  | [], _, h => by cases h; rfl
  | .d x :: r, ds, h => by
    obtain ⟨t, h1, h2⟩ := Option.map_eq_some_iff.mp (show (asDs r).map (x :: ·) = some ds from h)
    subst h2
    rw [List.map_cons, ← asDs_map h1]
  | .loc _ :: _, _, h => by cases h
noncomputable def z1 (g : D -> R D) (a : ZEv -> Sto -> RX Z) : ZEv -> Sto -> RX Z := fun ρ S => (a ρ S).bind fun x S1 => match x with
  | .d x => (upR (g x) S1).bind fun d S => .ok (.d d) S
  | _ => .bad
noncomputable def z2 (g : D -> D -> R D) (a b : ZEv -> Sto -> RX Z) : ZEv -> Sto -> RX Z := fun ρ S => (a ρ S).bind fun x S1 => (b ρ S1).bind fun y S2 => match x, y with
  | .d x, .d y => (upR (g x y) S2).bind fun d S => .ok (.d d) S
  | _, _ => .bad
noncomputable def zTst (t : D -> R Bool) (a : ZEv -> Sto -> RX Z) : ZEv -> Sto -> RX Bool := fun ρ S => (a ρ S).bind fun x S1 => match x with
  | .d x => upR (t x) S1
  | _ => .bad
noncomputable def zIf (c : ZEv -> Sto -> RX Bool) (a b : ZEv -> Sto -> RX Z) : ZEv -> Sto -> RX Z := fun ρ S => (c ρ S).bind fun k S1 => if k = true then a ρ S1 else b ρ S1
noncomputable def zNil : ZEv -> Sto -> RX (List Z) := fun _ S => .ok [] S
noncomputable def zCons (a : ZEv -> Sto -> RX Z) (r : ZEv -> Sto -> RX (List Z)) : ZEv -> Sto -> RX (List Z) := fun ρ S => (a ρ S).bind fun x S1 => (r ρ S1).bind fun xs S2 => .ok (x :: xs) S2
noncomputable def zF (g : List D -> R D) (a : ZEv -> Sto -> RX (List Z)) : ZEv -> Sto -> RX Z := fun ρ S => (a ρ S).bind fun zs S1 => match asDs zs with
  | some ds => (upR (g ds) S1).bind fun d S => .ok (.d d) S
  | none => .bad
noncomputable def zZ (F : List Z -> Sto -> RX Z) (a : ZEv -> Sto -> RX (List Z)) : ZEv -> Sto -> RX Z := fun ρ S => (a ρ S).bind F
section
variable {X : Cx} {E : XK} {e a b c : Expr} {es rest : List Expr} {pos : Pos} {f fa fb : ZEv -> Sto -> RX Z} {ga gb : ZEv -> Sto -> RX Bool} {fs : ZEv -> Sto -> RX (List Z)}
theorem ze_lift {f : Ev -> R D} (h : DE X E e f) : ZE X E e (zD f) := by
  obtain ⟨t, p, r⟩ := h
  refine ⟨t, p, fun B al lo H σ ρ S Q z h => r _ _ _ _ _ _ _ z.rs ?_⟩
  have := AftZ.toAft z (AftZ.split h)
  exact Aft.mono this fun d H1 s1 h1 v rv => h1 al lo H1 (z.grow s1) .refl .refl v rv
theorem zt_lift {f : Ev -> R Bool} (h : DT X E e f) : ZT X E e (zB f) := by
  obtain ⟨t, p, r⟩ := h
  exact ⟨t, p, fun B al lo H σ ρ S Q z h => r _ _ _ _ _ _ _ z.rs (AftZ.toAft z h)⟩
theorem ze_var (i : Nat) {x : Str} (hN : X.N[i]? = some x := by rfl) (hv : Vis X.env.scope x := by first | exact Or.inl rfl | exact Or.inr (Or.inl rfl) | exact Or.inr (Or.inr rfl)) (hd : (x == ("__debug__" : Str)) = false := by decide)
    (hcd : (x == ("__classdict__" : Str)) = false := by decide) : ZE X E (.Name x pos) (zV i) := by
  refine ⟨_, pe_var hN hv hd hcd, fun B al lo H σ ρ S Q z h => ?_⟩
  unfold zV at h
  split at h
  · rename_i z0 q
    obtain ⟨v, e1, e2⟩ := z.vr i z0 q
    exact ⟨v, e1, h al lo H z .refl .refl v e2⟩
  · exact h.elim
theorem ze_op {op : Operator} {g : D -> D -> R D} (ho : OpD X E (binaryOp op) g) (ha : ZE X E a fa) (hb : ZE X E b fb) : ZE X E (.BinOp a op b pos) (z2 g fa fb) := by
  obtain ⟨r, ro, rr⟩ := ho
  obtain ⟨ta, pa, ra⟩ := ha
  obtain ⟨tb, pb, rb⟩ := hb
  refine ⟨_, pe_op ro pa pb, fun B al lo H σ ρ S Q s h => ra _ _ _ _ _ _ _ _ s (AftZ.mono (AftZ.split h) fun x al1 lo1 H1 S1 s1 x1 y1 h1 v rv => rb _ _ _ _ _ _ _ _ s1 (AftZ.mono (AftZ.split h1) fun y al2 lo2 H2 S2 s2 x2 y2 h2 u ru => ?_))⟩
  split at h2
  · exact rr _ _ _ _ _ _ _ s2.fresh (RepZ.mv x2 y2 rv) ru (Aft.mono (AftZ.toAft s2 (AftZ.split h2)) fun d H3 s3 h3 w rw' => h3 al2 lo2 H3 (s2.grow s3) .refl .refl w rw')
  · exact h2.elim
theorem zt_cmp {op : CmpOp} {g : D -> D -> R D} (ho : OpD X E (compareOp op) g) (ha : ZE X E a fa) (hb : ZE X E b fb) (hm : behindInMarks op b = false := by first | exact nomark _ | with_unfolding_all rfl) : ZT X E (.Compare a [op] [b] pos) (zTst tB (z2 g fa fb)) := by
  obtain ⟨r, ro, rr⟩ := ho
  obtain ⟨ta, pa, ra⟩ := ha
  obtain ⟨tb, pb, rb⟩ := hb
  refine ⟨_, pt_cmpR ro pa pb hm, fun B al lo H σ ρ S Q s h => ra _ _ _ _ _ _ _ _ s (AftZ.mono (AftZ.split (AftZ.split h)) fun x al1 lo1 H1 S1 s1 x1 y1 h1 v rv => rb _ _ _ _ _ _ _ _ s1 (AftZ.mono (AftZ.split h1) fun y al2 lo2 H2 S2 s2 x2 y2 h2 u ru => ?_))⟩
  split at h2
  · refine rr _ _ _ _ _ _ _ s2.fresh (RepZ.mv x2 y2 rv) ru (Aft.mono (AftZ.toAft s2 (AftZ.split h2)) fun d H3 s3 h3 w rw' => ?_)
    have h4 := h3 al2 lo2 H3 (s2.grow s3) .refl .refl
    exact rep_tB rw' (Aft.mono (AftZ.toAft (s2.grow s3) h4) fun _ _ _ q => q)
  · exact h2.elim
theorem ze_if (hc : ZT X E c ga) (ha : ZE X E a fa) (hb : ZE X E b fb) : ZE X E (.IfExp c a b pos) (zIf ga fa fb) := by
  obtain ⟨tc, pc, rc⟩ := hc
  obtain ⟨ta, pa, ra⟩ := ha
  obtain ⟨tb, pb, rb⟩ := hb
  refine ⟨_, pe_ifExp pc pa pb, fun B al lo H σ ρ S Q s h => rc _ _ _ _ _ _ _ _ s (AftZ.mono (AftZ.split h) fun c al1 lo1 H1 S1 s1 _ _ h1 => ?_)⟩
  cases c with
  | true => exact iteT (ra _ _ _ _ _ _ _ _ s1 h1)
  | false => exact iteF (rb _ _ _ _ _ _ _ _ s1 h1)
theorem ze_ix {g : D -> D -> R D} (ho : IxD X E g) (ha : ZE X E a fa) (hb : ZE X E b fb) (hs : PlainIx b := by exact fun _ _ => rfl) : ZE X E (.Subscript a b pos) (z2 g fa fb) := by
  obtain ⟨r, ro, rr⟩ := ho
  obtain ⟨ta, pa, ra⟩ := ha
  obtain ⟨tb, pb, rb⟩ := hb
  refine ⟨_, pe_ix ro pa pb hs, fun B al lo H σ ρ S Q s h => ra _ _ _ _ _ _ _ _ s (AftZ.mono (AftZ.split h) fun x al1 lo1 H1 S1 s1 x1 y1 h1 v rv => rb _ _ _ _ _ _ _ _ s1 (AftZ.mono (AftZ.split h1) fun y al2 lo2 H2 S2 s2 x2 y2 h2 u ru => ?_))⟩
  split at h2
  · exact rr _ _ _ _ _ _ _ s2.fresh (RepZ.mv x2 y2 rv) ru (Aft.mono (AftZ.toAft s2 (AftZ.split h2)) fun d H3 s3 h3 w rw' => h3 al2 lo2 H3 (s2.grow s3) .refl .refl w rw')
  · exact h2.elim
theorem za_nil : ZA X E [] zNil := ⟨_, pa_nil, fun B al lo H σ ρ S Q s h => h al lo H s .refl .refl _ .nil, fun _ _ _ _ h => by cases h; rfl⟩
theorem za_cons (ha : ZE X E e fa) (hr : ZA X E es fs) (hs : starEach (e :: es) X.env = (false, eval e X.env) :: starEach es X.env := by rfl) : ZA X E (e :: es) (zCons fa fs) := by
  obtain ⟨ta, pa, ra⟩ := ha
  obtain ⟨tb, pb, rb, lb⟩ := hr
  refine ⟨_, pa_cons pa pb hs, fun B al lo H σ ρ S Q s h => ra _ _ _ _ _ _ _ _ s (AftZ.mono (AftZ.split h) fun x al1 lo1 H1 S1 s1 x1 y1 h1 v rv => rb _ _ _ _ _ _ _ _ s1 (AftZ.mono (AftZ.split h1) fun y al2 lo2 H2 S2 s2 x2 y2 h2 u ru => ?_)), fun ρ S zs S' h => ?_⟩
  · exact h2 al2 lo2 H2 s2 .refl .refl _ (.cons (rv.mv x2 y2) ru)
  · unfold zCons at h
    cases q : fa ρ S with
    | bad => rw [q] at h; cases h
    | ex c ns ds S1 => rw [q] at h; cases h
    | ok x S1 =>
      rw [q] at h
      have h' : (fs ρ S1).bind (fun xs S2 => .ok (x :: xs) S2) = RX.ok zs S' := h
      cases q2 : fs ρ S1 with
      | bad => rw [q2] at h'; cases h'
      | ex c ns ds S1 => rw [q2] at h'; cases h'
      | ok xs S2 =>
        rw [q2] at h'
        cases h'
        rw [List.length_cons, List.length_cons, lb _ _ _ _ q2]
theorem ze_tup {x1} (ha : ZA X E es fs) : ZE X E (.Tuple es x1 pos) (zF mkT fs) := by
  obtain ⟨ta, pa, ra, _⟩ := ha
  refine ⟨_, pe_tup pa, fun B al lo H σ ρ S Q s h => ra _ _ _ _ _ _ _ _ s (AftZ.mono (AftZ.split h) fun x al1 lo1 H1 S1 s1 x1 y1 h1 v rv => ?_)⟩
  split at h1
  · rename_i ds e
    have := asDs_map e
    subst this
    have rv' := rv.toD
    have h2 := Aft.mono (AftZ.toAft s1 (AftZ.split h1)) fun d H3 s3 h3 => h3 al1 lo1 H3 (s1.grow s3) .refl .refl
    unfold mkT at h2
    by_cases z : ds.length <= sizeLine
    · rw [if_pos z] at h2
      exact ⟨by rw [rv'.length]; exact z, fun p hp => h2 _ (same_upd hp) _ (rv'.tupNew hp (s1.fresh p hp))⟩
    · rw [if_neg z] at h2
      exact h2.elim
  · exact h1.elim
variable {x : Str} {p : Pos}
theorem ze_callB {id : String} {g : List D -> R D} (hc : CallD X E (.builtin id) g) (hg : Gl X x) (hm : X.mg x = none) (hv : bootBuiltins x = some (.builtin id)) (ha : ZA X E (e :: es) fs) (hn : x ≠ "__name__" := by decide) (hdb : (x == ("__debug__" : Str)) = false := by decide)
    (he : starEach (e :: es) X.env = (false, eval e X.env) :: starEach es X.env := by rfl) (hpl : (backTo pos (starEach es X.env)).any (·.1) = false := by rfl) : ZE X E (.Call (.Name x p) (e :: es) [] pos) (zF g fs) := by
  obtain ⟨r, rc, rr⟩ := hc
  obtain ⟨ta, pa, ra, _⟩ := ha
  refine ⟨_, pe_callB rc hg hm hv pa hn hdb he hpl, fun B al lo H σ ρ S Q s h => ra _ _ _ _ _ _ _ _ s (AftZ.mono (AftZ.split h) fun x al1 lo1 H1 S1 s1 x1 y1 h1 v rv => ?_)⟩
  split at h1
  · rename_i ds e
    have := asDs_map e
    subst this
    exact rr _ _ _ _ _ s1.fresh rv.toD (Aft.mono (AftZ.toAft s1 (AftZ.split h1)) fun d H3 s3 h3 => h3 al1 lo1 H3 (s1.grow s3) .refl .refl)
  · exact h1.elim
variable {k n : Nat} {ps : List Str} {F : List D -> R D}
theorem ze_callD (G : Has X.prog X.w X.K X.mg X.base (CXx X.prog X.w) k x ps (spD n X.K F)) (hr : Room k X.A) (hg : Gl X x) (hx : Passes (CXx X.prog X.w) X E) (hn : (e :: es).length = n) (ha : ZA X E (e :: es) fs) (hdb : (x == ("__debug__" : Str)) = false := by decide)
    (he : starEach (e :: es) X.env = (false, eval e X.env) :: starEach es X.env := by rfl) (hpl : (backTo pos (starEach es X.env)).any (·.1) = false := by rfl) : ZE X E (.Call (.Name x p) (e :: es) [] pos) (zF F fs) := by
  obtain ⟨ta, pa, ra, lb⟩ := ha
  refine ⟨_, pe_has G hr hg hx pa hdb he hpl, fun B al lo H σ ρ S Q s h => ra _ _ _ _ _ _ _ _ s ?_⟩
  unfold zF at h
  cases q : fs ρ S with
  | bad => rw [q] at h; exact h.elim
  | ex c ns ds S1 => rw [q] at h; exact h
  | ok zs S1 =>
    rw [q] at h
    intro al1 lo1 H1 s1 x1 y1 vs rv
    have ll := lb _ _ _ _ q
    have h1 : AftZ X.K B E al lo H σ ρ (match asDs zs with | some ds => (upR (F ds) S1).bind fun d S => .ok (.d d) S | none => .bad) (fun z al' lo' H' _ => ∀ v, RepZ X.K al' lo' H' v z -> Q v H') := h
    split at h1
    · rename_i ds e
      have := asDs_map e
      subst this
      have rv' := rv.toD
      rw [List.append_nil]
      exact ⟨by rw [rv'.length]; rw [List.length_map] at ll; rw [ll]; exact hn, s1.tt, al1, ds, s1.fresh, rv', Aft.mono (AftZ.toAft s1 (AftZ.split (AftZ.up h1 x1 y1))) fun d H3 s3 h3 => h3 al1 lo1 H3 (s1.grow s3) .refl .refl⟩
    · exact h1.elim
end
noncomputable def AftF (K : W.Frag) (B : Z0) (E : XK) (r : RX Z) (Q : VK) : Prop := match r with
  | .ok z S' => ∀ al' lo' H' v, EZ K B al' lo' H' S' -> RepZ K al' lo' H' v z -> Q v H'
  | .ex c ns ds S' => ∀ al' lo' H' dx, EZ K B al' lo' H' S' -> XR K al' H' dx ns ds -> E (.ref c) dx H'
  | .bad => False
noncomputable def spZ (n : Nat) (K : W.Frag) (F : List Z -> Sto -> RX Z) : Sp := fun vs H Q E => vs.length = n /\ TbOk K H /\ ∃ al lo zs S, (∀ a, H a = none -> al a) /\ StOk K al lo H S /\ RepZs K al lo H vs zs /\ AftF K ⟨H, al, lo, S.length⟩ E (F zs S) Q
theorem EZ.trans {K : W.Frag} {B : Z0} {al al' : Addr -> Prop} {lo lo' : Lo} {H H' : Hp} {S S' : Sto} (r : EZ K B al lo H S) (q : EZ K ⟨H, al, lo, S.length⟩ al' lo' H' S') : EZ K B al' lo' H' S' where
  fr := fun b o n h w => q.fr b o n (r.fr b o n h w) fun m hm => by
    rcases r.nw m b hm with z | z
    · exact w m z
    · rw [z.1] at h; cases h
  hf := fun b h => r.hf b (q.hf b h)
  tt := q.tt
  fresh := q.fresh
  st := q.st
  lx := fun n a h => q.lx n a (r.lx n a h)
  nw := fun n a h => by
    rcases q.nw n a h with z | z
    · exact r.nw n a z
    · exact .inr ⟨r.hf a z.1, Nat.le_trans r.sz z.2⟩
  bd := r.bd
  sz := Nat.le_trans r.sz q.sz
  xt := r.xt.trans q.xt
  sb := fun a h => by
    rcases q.sb a h with z | z
    · exact r.sb a z
    · exact .inr (r.hf a z)
theorem RZ.after {K : W.Frag} {B : Z0} {al al' : Addr -> Prop} {lo lo' : Lo} {H H' : Hp} {S S' : Sto} {σ : St} {ρ : ZEv} (r : RZ K B al lo H σ ρ S) (q : EZ K ⟨H, al, lo, S.length⟩ al' lo' H' S') : RZ K B al' lo' H' σ ρ S' :=
  ⟨r.toEZ.trans q, r.len, fun i z e => let ⟨v, h1, h2⟩ := r.vr i z e; ⟨v, h1, h2.mv q.xt q.lx⟩⟩
section
variable {X : Cx} {E : XK} {e : Expr} {es : List Expr} {pos p : Pos} {fs : ZEv -> Sto -> RX (List Z)} {x : Str} {k n : Nat} {ps : List Str} {F : List Z -> Sto -> RX Z}
theorem ze_callZ (G : Has X.prog X.w X.K X.mg X.base (CXx X.prog X.w) k x ps (spZ n X.K F)) (hr : Room k X.A) (hg : Gl X x) (hx : Passes (CXx X.prog X.w) X E) (hn : (e :: es).length = n) (ha : ZA X E (e :: es) fs) (hdb : (x == ("__debug__" : Str)) = false := by decide)
    (he : starEach (e :: es) X.env = (false, eval e X.env) :: starEach es X.env := by rfl) (hpl : (backTo pos (starEach es X.env)).any (·.1) = false := by rfl) : ZE X E (.Call (.Name x p) (e :: es) [] pos) (zZ F fs) := by
  obtain ⟨ta, pa, ra, lb⟩ := ha
  refine ⟨_, pe_has G hr hg hx pa hdb he hpl, fun B al lo H σ ρ S Q s h => ra _ _ _ _ _ _ _ _ s ?_⟩
  unfold zZ at h
  cases q : fs ρ S with
  | bad => rw [q] at h; exact h.elim
  | ex c ns ds S1 => rw [q] at h; exact h
  | ok zs S1 =>
    rw [q] at h
    intro al1 lo1 H1 s1 x1 y1 vs rv
    have ll := lb _ _ _ _ q
    have h1 : AftZ X.K B E al lo H σ ρ (F zs S1) (fun z al' lo' H' _ => ∀ v, RepZ X.K al' lo' H' v z -> Q v H') := h
    rw [List.append_nil]
    refine ⟨by rw [rv.length, ll]; exact hn, s1.tt, al1, lo1, zs, S1, s1.fresh, s1.st, rv, ?_⟩
    cases q2 : F zs S1 with
    | bad => rw [q2] at h1; exact h1.elim
    | ex c ns ds S2 => rw [q2] at h1; exact fun al2 lo2 H2 dx e2 xr => h1 al2 lo2 H2 dx (s1.toEZ.trans e2) xr
    | ok z S2 => rw [q2] at h1; exact fun al2 lo2 H2 v e2 rv2 => h1 al2 lo2 H2 (s1.after e2) (x1.trans e2.xt) (y1.trans e2.lx) v rv2
end
end P2
namespace P2
open PySem L2
inductive RTZ where
  | nx (ρ : ZEv) (S : Sto) | rt (z : Z) (S : Sto) | bk (ρ : ZEv) (S : Sto) | ct (ρ : ZEv) (S : Sto) | ex (c : Addr) (ns : List Str) (ds : List D) (S : Sto) | bad
noncomputable def toZ {α : Type} (r : RX α) (k : α -> Sto -> RTZ) : RTZ := match r with
  | .ok a S => k a S
  | .ex c ns ds S => .ex c ns ds S
  | .bad => .bad
noncomputable def seqZ (r : RTZ) (k : ZEv -> Sto -> RTZ) : RTZ := match r with
  | .nx ρ S => k ρ S
  | r => r
noncomputable def okZ (K : W.Frag) (B : Z0) (E : XK) (D : Ends) (al : Addr -> Prop) (H : Hp) : RTZ -> Prop
  | .nx ρ S => ∀ al' lo' H' σ', Xt al H al' H' -> RZ K B al' lo' H' σ' ρ S -> D.nx σ' H'
  | .bk ρ S => ∀ al' lo' H' σ', Xt al H al' H' -> RZ K B al' lo' H' σ' ρ S -> D.bk σ' H'
  | .ct ρ S => ∀ al' lo' H' σ', Xt al H al' H' -> RZ K B al' lo' H' σ' ρ S -> D.ct σ' H'
  | .rt z S => ∀ al' lo' H' v, EZ K B al' lo' H' S -> RepZ K al' lo' H' v z -> D.rt v H'
  | .ex c ns ds S => ∀ al' lo' H' dx, EZ K B al' lo' H' S -> XR K al' H' dx ns ds -> E (.ref c) dx H'
  | .bad => False
section
variable {K : W.Frag} {B : Z0} {E : XK} {D : Ends} {al al' : Addr -> Prop} {lo : Lo} {H H' : Hp} {s : RTZ} {σ : St} {ρ : ZEv}
theorem okZ.ext (h : okZ K B E D al H s) (x : Xt al H al' H') : okZ K B E D al' H' s := by
  cases s with
  | nx ρ S => exact fun a l h1 σ1 y r => h a l h1 σ1 (x.trans y) r
  | bk ρ S => exact fun a l h1 σ1 y r => h a l h1 σ1 (x.trans y) r
  | ct ρ S => exact fun a l h1 σ1 y r => h a l h1 σ1 (x.trans y) r
  | rt d S => exact h
  | ex c ns ds S => exact h
  | bad => exact h
theorem okZ.ofX {α : Type} {r : RX α} {k : α -> Sto -> RTZ} (h : okZ K B E D al H (toZ r k)) : AftZ K B E al lo H σ ρ r (fun x al' lo' H' S' => okZ K B E D al' H' (k x S')) := by
  cases r with
  | ok x S => exact fun al1 lo1 H1 s1 x1 y1 => okZ.ext h x1
  | ex c ns ds S => exact h
  | bad => exact h
end
noncomputable def ZS (X : Cx) (E : XK) (b : Nat) (st : Stmt) (g : ZEv -> Sto -> RTZ) : Prop := ∃ t : TS, PS X st t /\
  ∀ B : Z0, B.n = b -> ∀ al lo H σ ρ S (D : Ends), RZ X.K B al lo H σ ρ S -> okZ X.K B E D al H (g ρ S) -> t D σ H
noncomputable def ZSs (X : Cx) (E : XK) (b : Nat) (st : List Stmt) (g : ZEv -> Sto -> RTZ) : Prop := ∃ t : TS, PSs X st t /\
  ∀ B : Z0, B.n = b -> ∀ al lo H σ ρ S (D : Ends), RZ X.K B al lo H σ ρ S -> okZ X.K B E D al H (g ρ S) -> t D σ H
noncomputable def yNil : ZEv -> Sto -> RTZ := .nx
noncomputable def ySeq (a b : ZEv -> Sto -> RTZ) : ZEv -> Sto -> RTZ := fun ρ S => seqZ (a ρ S) b
noncomputable def yExpr (f : ZEv -> Sto -> RX Z) : ZEv -> Sto -> RTZ := fun ρ S => toZ (f ρ S) fun _ S1 => .nx ρ S1
noncomputable def yRet (f : ZEv -> Sto -> RX Z) : ZEv -> Sto -> RTZ := fun ρ S => toZ (f ρ S) .rt
noncomputable def ySet (i : Nat) (f : ZEv -> Sto -> RX Z) : ZEv -> Sto -> RTZ := fun ρ S => toZ (f ρ S) fun z S1 => if i < ρ.length then .nx (ρ.set i (some z)) S1 else .bad
noncomputable def yIf (c : ZEv -> Sto -> RX Bool) (a b : ZEv -> Sto -> RTZ) : ZEv -> Sto -> RTZ := fun ρ S => toZ (c ρ S) fun k S1 => if k = true then a ρ S1 else b ρ S1
section
variable {X : Cx} {E : XK} {b : Nat} {st : Stmt} {rest sa sb : List Stmt} {g u ga gb : ZEv -> Sto -> RTZ} {e c : Expr} {f : ZEv -> Sto -> RX Z} {fc : ZEv -> Sto -> RX Bool} {pos : Pos}
theorem zss_nil : ZSs X E b [] yNil := ⟨_, pss_nil, fun B hb al lo H σ ρ S _ s h => h al lo H σ .refl s⟩
theorem zss_one (h : ZS X E b st g) : ZSs X E b [st] g := let ⟨t, p, r⟩ := h; ⟨t, pss_one p, r⟩
theorem zss_cons (h1 : ZS X E b st g) (h2 : ZSs X E b rest u) : ZSs X E b (st :: rest) (ySeq g u) := by
  obtain ⟨t1, p1, r1⟩ := h1
  obtain ⟨t2, p2, r2⟩ := h2
  refine ⟨_, pss_cons p1 p2, fun B hb al lo H σ ρ S D s h => r1 B hb al lo H σ ρ S _ s ?_⟩
  unfold ySeq at h
  cases q : g ρ S with
  | nx ρ1 S1 =>
    rw [q] at h
    exact fun al' lo' H' σ' x s' => r2 B hb al' lo' H' σ' ρ1 S1 D s' (okZ.ext h x)
  | bk ρ1 S1 => rw [q] at h; exact h
  | ct ρ1 S1 => rw [q] at h; exact h
  | rt d S1 => rw [q] at h; exact h
  | ex c ns ds S1 => rw [q] at h; exact h
  | bad => rw [q] at h; exact h
theorem zs_expr (he : ZE X E e f) (hs : swapsWith e none pos.line X.env = pure false := by rfl) : ZS X E b (.Expr e pos) (yExpr f) := by
  obtain ⟨t, p, r⟩ := he
  exact ⟨_, ps_expr p hs, fun B hb al lo H σ ρ S D s h => r _ _ _ _ _ _ _ _ s (AftZ.mono (okZ.ofX h) fun z al1 lo1 H1 S1 s1 x1 y1 h1 v rv => h1 al1 lo1 H1 σ .refl s1)⟩
theorem zs_ret (he : ZE X E e f) : ZS X E b (.Return (some e) pos) (yRet f) := by
  obtain ⟨t, p, r⟩ := he
  exact ⟨_, ps_ret p, fun B hb al lo H σ ρ S D s h => r _ _ _ _ _ _ _ _ s (AftZ.mono (okZ.ofX h) fun z al1 lo1 H1 S1 s1 x1 y1 h1 v rv => h1 al1 lo1 H1 v s1.toEZ rv)⟩
theorem zs_set (i : Nat) {x : Str} {pos' : Pos} (hN : X.N.Nodup) (hi : X.N[i]? = some x) (hx : Loc X.env.scope x) (he : ZE X E e f) (hs : swapsWith e (some (.Name x pos')) pos.line X.env = pure false := by rfl) (hf : X.fn x = true \/ X.env.scope.names.lookup x = some .local := by first | exact .inl rfl | exact .inr rfl | assumption) :
    ZS X E b (.Assign [.Name x pos'] e pos) (ySet i f) := by
  obtain ⟨t, p, r⟩ := he
  refine ⟨_, ps_set hN hi hx p hs hf, fun B hb al lo H σ ρ S D s h => r _ _ _ _ _ _ _ _ s (AftZ.mono (okZ.ofX h) fun z al1 lo1 H1 S1 s1 x1 y1 h1 v rv => ?_)⟩
  by_cases w : i < ρ.length
  · simp only [w, if_true] at h1
    exact h1 al1 lo1 H1 _ .refl (s1.set w rv)
  · simp only [w, if_false] at h1
    exact h1.elim
theorem zs_if (hc : ZT X E c fc) (ha : ZSs X E b sa ga) (hb : ZSs X E b sb gb) : ZS X E b (.If c sa sb pos) (yIf fc ga gb) := by
  obtain ⟨tc, pc, rc⟩ := hc
  obtain ⟨ta, pa, ra⟩ := ha
  obtain ⟨tb, pb, rb⟩ := hb
  refine ⟨_, ps_if pc pa pb, fun B hb al lo H σ ρ S D s h => rc _ _ _ _ _ _ _ _ s (AftZ.mono (okZ.ofX h) fun k al1 lo1 H1 S1 s1 x1 y1 h1 => ?_)⟩
  cases k with
  | true => exact iteT (ra _ hb _ _ _ _ _ _ _ s1 h1)
  | false => exact iteF (rb _ hb _ _ _ _ _ _ _ s1 h1)
noncomputable def turnZ (r : RTZ) (k : ZEv -> Sto -> RTZ) : RTZ := match r with
  | .nx ρ S => k ρ S
  | .ct ρ S => k ρ S
  | .bk ρ S => .nx ρ S
  | r => r
noncomputable def whileZ (c : ZEv -> Sto -> RX Bool) (b : ZEv -> Sto -> RTZ) : Nat -> ZEv -> Sto -> RTZ
  | 0, _, _ => .bad
  | n + 1, ρ, S => toZ (c ρ S) fun k S1 => if k = true then turnZ (b ρ S1) (whileZ c b n) else .nx ρ S1
theorem turnZ_ok {K : W.Frag} {B : Z0} {E : XK} {al : Addr -> Prop} {H : Hp} {D : Ends} {r : RTZ} {k : ZEv -> Sto -> RTZ} {N : St -> Hp -> Prop} (h : okZ K B E D al H (turnZ r k))
    (hN : ∀ al' lo' H' σ' ρ' S', Xt al H al' H' -> RZ K B al' lo' H' σ' ρ' S' -> okZ K B E D al' H' (k ρ' S') -> N σ' H') : okZ K B E { D with nx := N, ct := N, bk := D.nx } al H r := by
  cases r with
  | nx ρ S => exact fun al' lo' H' σ' x s => hN al' lo' H' σ' ρ S x s (okZ.ext h x)
  | ct ρ S => exact fun al' lo' H' σ' x s => hN al' lo' H' σ' ρ S x s (okZ.ext h x)
  | bk ρ S => exact h
  | rt d S => exact h
  | ex c ns ds S => exact h
  | bad => exact h
theorem zs_while (n : Nat) (hp : PassesOwn (model X.prog X.w) X.A X.env X.xe) (hc : ZT X E c fc) (hb : ZSs X E b sb gb) : ZS X E b (.While c sb [] pos) (whileZ fc gb n) := by
  obtain ⟨tc, pc, rc⟩ := hc
  obtain ⟨tb, pb, rb⟩ := hb
  refine ⟨_, ps_while hp pc pb, fun B hb al lo H σ ρ S D s h => ⟨fun m σ1 H1 => ∃ al1 lo1 ρ1 S1, RZ X.K B al1 lo1 H1 σ1 ρ1 S1 /\ okZ X.K B E D al1 H1 (whileZ fc gb m ρ1 S1), ⟨n, al, lo, ρ, S, s, h⟩, ?_⟩⟩
  rintro m σ1 H1 ⟨al1, lo1, ρ1, S1, s1, h1⟩
  cases m with
  | zero => exact h1.elim
  | succ m =>
    refine rc _ _ _ _ _ _ _ _ s1 (AftZ.mono (okZ.ofX h1) fun k al2 lo2 H2 S2 s2 x2 y2 h2 => ?_)
    cases k with
    | true =>
      refine iteT ⟨fun σ' H' => ∃ al1 lo1 ρ1 S1, RZ X.K B al1 lo1 H' σ' ρ1 S1 /\ okZ X.K B E D al1 H' (whileZ fc gb m ρ1 S1), fun σ' H' z => ⟨m, Nat.lt_succ_self m, z⟩, rb _ hb _ _ _ _ _ _ _ s2 (turnZ_ok (k := whileZ fc gb m) h2 fun al' lo' H' σ' ρ' S' _ s' h' => ⟨al', lo', ρ', S', s', h'⟩)⟩
    | false => exact iteF (h2 al2 lo2 H2 σ1 .refl s2)
end
noncomputable def hN : List D -> ZEv -> Option ZEv := fun ds ρ => match ds with
  | [] => some ρ
  | _ => none
noncomputable def hT (n : Nat) (a : List D -> ZEv -> Option ZEv) : D -> ZEv -> Option ZEv := fun d ρ => match d with
  | .tup ds => if ds.length = n then a ds ρ else none
  | _ => none
section
variable {X : Cx} {E : XK} {b : Nat} {tg iter : Expr} {body : List Stmt} {fi : Ev -> R (List D)} {a : D -> ZEv -> Option ZEv} {gb : ZEv -> Sto -> RTZ} {pos : Pos} {e : Expr} {f : ZEv -> Sto -> RX Z}
end
end P2
namespace P2
open PySem L2
noncomputable def startZ (n : Nat) (zs : List Z) : ZEv := zs.map some ++ List.replicate (n - zs.length) none
noncomputable def finZ : RTZ -> RX Z
  | .rt z S => .ok z S
  | .nx _ S => .ok (.d .non) S
  | .ex c ns ds S => .ex c ns ds S
  | _ => .bad
theorem rz_start {K : W.Frag} {al : Addr -> Prop} {lo : Lo} {H : Hp} {S : Sto} {vs : List V} {zs : List Z} {N : List Str} (tt : TbOk K H) (fr : ∀ a, H a = none -> al a) (st : StOk K al lo H S) (r : RepZs K al lo H vs zs) : RZ K ⟨H, al, lo, S.length⟩ al lo H (L2.start N vs) (startZ N.length zs) S where
  toEZ := EZ.start (zs := zs) tt fr st
  len := by unfold L2.start startZ; simp [r.length]
  vr := fun i z h => by
    unfold startZ at h
    by_cases hi : i < zs.length
    · rw [List.getElem?_append_left (by simpa using hi), List.getElem?_map] at h
      cases q : zs[i]? with
      | none => rw [q] at h; cases h
      | some y =>
        rw [q] at h; cases h
        obtain ⟨v, e1, e2⟩ := r.get q
        refine ⟨v, ?_, e2⟩
        unfold L2.start
        rw [List.getElem?_append_left (by simpa [r.length] using hi), List.getElem?_map, e1]; rfl
    · rw [List.getElem?_append_right (by simpa using hi), List.getElem?_replicate] at h
      split at h <;> cases h
section
variable {P : Program} {w : World} {K : W.Frag} {mg : Str -> Option Value} {base : Heap}
theorem fn_denZ {x : Str} {st : Stmt} {f : Addr} {fd : FuncData} {N ps : List Str} {k : Nat} {g : Nat -> ZEv -> Sto -> RTZ} (F : Fun K x x st f fd) (S : FnScope N ps (defScope st))
    (body : ∀ (b : Nat) (cdv : Value) (A : Around) (outer : List Env) (s : Shared) (H : Hp) (E : XK), Room k (cxOf (CXx P w) P w K mg base N x (defScope st) f cdv A outer s H E).A -> ZSs (cxOf (CXx P w) P w K mg base N x (defScope st) f cdv A outer s H E) E b (defBody st) (g b)) :
    FnOk P w K mg base (CXx P w) (k + 1) f fd ps (spZ ps.length K fun zs S => finZ (g S.length (startZ N.length zs) S)) := by
  refine F.okX S (fun vs H Q E h => h.1) (fun cdv A outer s H vs Q E hr h => ?_)
  obtain ⟨hl, tt, al, lo, zs, S0, fr, st, rv, h⟩ := h
  obtain ⟨t, p, r⟩ := body S0.length cdv A outer s H E hr
  dsimp only at h
  refine ⟨t, p, r ⟨H, al, lo, S0.length⟩ rfl al lo H (L2.start N vs) (startZ N.length zs) S0 _ (rz_start tt fr st rv) ?_⟩
  cases q : g S0.length (startZ N.length zs) S0 with
  | nx ρ S1 => rw [q] at h; exact fun al' lo' H' σ' _ s' => h al' lo' H' .non s'.toEZ .non
  | rt z S1 => rw [q] at h; exact h
  | ex c ns es S1 => rw [q] at h; exact h
  | bk ρ S1 => rw [q] at h; exact h.elim
  | ct ρ S1 => rw [q] at h; exact h.elim
  | bad => rw [q] at h; exact h.elim
noncomputable def clo : RX Z -> R D
  | .ok (.d x) _ => .ok x
  | .ex c ns ds _ => .ex c ns ds
  | _ => .bad
theorem stok_nil {al : Addr -> Prop} {H : Hp} : StOk K al (fun _ => none) H [] :=
  { at' := fun _ _ h => (by cases h), has := fun n c h _ => (by simp at h), na := fun _ _ h => (by cases h), inj := fun _ _ _ h => (by cases h) }
theorem sp_close {n : Nat} {F : List Z -> Sto -> RX Z} {vs : List V} {H : Hp} {Q : VK} {E : XK} (h : spD n K (fun ds => clo (F (ds.map .d) [])) vs H Q E) : spZ n K F vs H Q E := by
  obtain ⟨hl, tt, al, ds, fr, rv, h⟩ := h
  refine ⟨hl, tt, al, fun _ => none, ds.map .d, [], fr, stok_nil, .ofD rv, ?_⟩
  have same : ∀ {al' lo' H' S'}, EZ K ⟨H, al, fun _ => none, ([] : Sto).length⟩ al' lo' H' S' -> Same K H H' := fun e => ⟨fun b o no hb => e.fr b o no hb fun _ => nofun, e.hf, fun _ => e.tt⟩
  have sub : ∀ {al' lo' H' S'}, EZ K ⟨H, al, fun _ => none, ([] : Sto).length⟩ al' lo' H' S' -> ∀ a, al' a -> al a := fun e a ha => (e.sb a ha).elim id (fr a)
  dsimp only at h
  cases q : F (ds.map .d) [] with
  | bad => rw [q] at h; exact h.elim
  | ex c ns es S1 => rw [q] at h; exact fun al' lo' H' dx e xr => h dx H' (same e) (xr.mv (.sub (sub e)))
  | ok z S1 =>
    rw [q] at h
    cases z with
    | loc m => exact h.elim
    | d x => exact fun al' lo' H' v e rv => h H' (same e) v (Rep.mv (.sub (sub e)) rv)
theorem FnOk.close {k : Nat} {f : Addr} {fd : FuncData} {ps : List Str} {n : Nat} {F : List Z -> Sto -> RX Z} (h : FnOk P w K mg base (CXx P w) k f fd ps (spZ n K F)) : FnOk P w K mg base (CXx P w) k f fd ps (spD n K (fun ds => clo (F (ds.map .d) []))) :=
  h.imp fun vs H Q E q => sp_close q
end
noncomputable def leave (r : RT) (S : Sto) : RTZ := match r with
  | .rt d => .rt (.d d) S
  | .ex c ns ds => .ex c ns ds S
  | _ => .bad
section
variable {X : Cx} {E : XK} {b : Nat} {st : Stmt} {e : Expr} {pos : Pos}
theorem zs_lift {g : Ev -> RT} (h : DS X E st g) : ZS X E b st (fun ρ S => leave (g (pur ρ)) S) := by
  obtain ⟨t, p, r⟩ := h
  refine ⟨t, p, fun B hb al lo H σ ρ S D s h => r _ _ _ _ _ _ _ s.rs ?_⟩
  dsimp only at h
  cases q : g (pur ρ) with
  | rt d => rw [q] at h; exact fun v H' sm rv => h al lo H' v (s.toEZ.grow sm) rv
  | ex c ns ds => rw [q] at h; exact fun dx H' sm xr => h al lo H' dx (s.toEZ.grow sm) xr
  | nx _ => rw [q] at h; exact h.elim
  | bk _ => rw [q] at h; exact h.elim
  | ct _ => rw [q] at h; exact h.elim
  | bad => rw [q] at h; exact h.elim
end
section
variable {X : Cx} {E : XK} {b : Nat} {e : Expr} {pos : Pos} {f : ZEv -> Sto -> RX Z}
theorem RZ.cell {K : W.Frag} {B : Z0} {al : Addr -> Prop} {lo : Lo} {H : Hp} {σ : St} {ρ : ZEv} {S : Sto} (s : RZ K B al lo H σ ρ S) {n : Nat} {a : Addr} (hn : lo n = some a) {c : Cell} (h : S[n]? = some c) : CellAt K al lo H a c := by
  obtain ⟨c', h1, h2⟩ := s.st.at' n a hn
  rw [h] at h1; cases h1; exact h2
end
end P2
namespace P2
open PySem L2
section
variable {X : Cx} {E : XK} {b : Nat} {e k : Expr} {pos : Pos} {f : ZEv -> Sto -> RX Z} {fk : Ev -> R D}
end
mutual
noncomputable def noL : D -> Bool
  | .lst _ => false
  | .tup ds => noLs ds
  | .exc _ _ _ => false
  | _ => true
noncomputable def noLs : List D -> Bool
  | [] => true
  | d :: r => noL d && noLs r
end
section
variable {K : W.Frag} {B : Z0} {al : Addr -> Prop} {lo : Lo} {H H' : Hp} {σ : St} {ρ : ZEv} {S : Sto}
noncomputable def alV (al : Addr -> Prop) (lo : Lo) : Addr -> Prop := fun a => al a \/ ∃ n, lo n = some a
mutual
theorem Rep.noL (na : ∀ n a, lo n = some a -> ¬ ∃ vs, Rd H a (.tup vs)) : ∀ {v : V} {d : D}, Rep K (alV al lo) H v d -> P2.noL d = true -> Rep K al H v d
  | _, _, .non, _ => .non
  | _, _, .bl b, _ => .bl b
  | _, _, .int b, _ => .int b
  | _, _, .str b, _ => .str b
  | _, _, .ty b, _ => .ty b
  | _, _, .ref b, _ => .ref b
  | _, _, .tup p q, h => .tup (p.elim (fun z => .inl ⟨z.1.elim id fun ⟨n, hn⟩ => absurd ⟨_, z.2⟩ (na n _ hn), z.2⟩) .inr) (Reps.noL na q h)
  | _, _, .lst p q, h => by cases h
  | _, _, .exc p1 p2 p3 p4 q, h => by cases h
  | _, _, .exc0 p1 p2, h => by cases h
theorem Reps.noL (na : ∀ n a, lo n = some a -> ¬ ∃ vs, Rd H a (.tup vs)) : ∀ {v : List V} {d : List D}, Reps K (alV al lo) H v d -> noLs d = true -> Reps K al H v d
  | _, _, .nil, _ => .nil
  | _, _, .cons (d := d) (ds := ds) p q, h => by
    have h' : (P2.noL d && noLs ds) = true := h
    rw [Bool.and_eq_true] at h'
    exact .cons (Rep.noL na p h'.1) (Reps.noL na q h'.2)
end
end
section
variable {X : Cx} {E : XK} {b : Nat} {e : Expr} {pos : Pos}
end
section
variable {K : W.Frag} {B : Z0} {al : Addr -> Prop} {lo : Lo} {H : Hp} {σ : St} {ρ ρ' : ZEv} {S S' : Sto}
end
section
variable {X : Cx} {E : XK} {b : Nat} {sts : List Stmt} {st : Stmt} {g : ZEv -> Sto -> RTZ}
end
end P2
namespace L2
open PySem PySem.Spec PyProof.Rows
section
variable {κ : Type} [DecidableEq κ]
end
section
variable {P : Program} {w : World} {H : Hp} {h : Heap} {a : Addr}
end
section
variable {X : Cx} {pins : List (Addr × Obj)} {σ : St} {H : Hp} {s : Shared} {a : Addr} {y v : V} {u r : Value} {o : Option V} {A : Around} {E : Value -> Shared -> Prop}
end
section
variable {X : Cx} {pins : List (Addr × Obj)} {σ : St} {H : Hp} {s : Shared} {a : Addr} {kvs : List (Key × V)} {k : Key} {u : Value} {A : Around} {E : Value -> Shared -> Prop}
end
section
variable {X : Cx} {o i e value : Expr} {pos pos' tpos : Pos} {td ty tv : TE}
end
section
variable {X : Cx} {pos : Pos}
end
structure M1 (X : Cx) (o : Expr) (m : Str) (apos : Pos) (e : Expr) (cpos : Pos) : Prop where
  base : attributeBase o m X.env (eval o X.env) = eval o X.env
  few : ((backTo cpos (starEach [e] X.env)).all (fun x => !x.1) && (backToKw cpos (keywordEach [] X.env)).all (fun x => x.1.isSome)
    && decide (([e] : List Expr).length + ([] : List Keyword).length + (if ([] : List Keyword).isEmpty then 0 else 1) < 30)) = true
  line : (apos.endLine == cpos.line) = true
  trees : backTo cpos (starEach [e] X.env) = [(false, eval e X.env)]
structure M2 (X : Cx) (o : Expr) (m : Str) (apos : Pos) (e f : Expr) (cpos : Pos) : Prop where
  base : attributeBase o m X.env (eval o X.env) = eval o X.env
  few : ((backTo cpos (starEach [e, f] X.env)).all (fun x => !x.1) && (backToKw cpos (keywordEach [] X.env)).all (fun x => x.1.isSome)
    && decide (([e, f] : List Expr).length + ([] : List Keyword).length + (if ([] : List Keyword).isEmpty then 0 else 1) < 30)) = true
  line : (apos.endLine == cpos.line) = true
  trees : backTo cpos (starEach [e, f] X.env) = [(false, eval e X.env), (false, eval f X.env)]
section
variable {X : Cx} {pins : List (Addr × Obj)} {σ : St} {H : Hp} {s : Shared} {a : Addr} {y d : V} {u r : Value} {o : Option V} {A : Around} {E : Value -> Shared -> Prop}
end
section
variable {X : Cx} {o e f : Expr} {apos cpos : Pos} {td ty tx : TE}
end
section
variable {X : Cx} {pins : List (Addr × Obj)} {σ : St} {H : Hp} {s : Shared} {a : Addr} {kvs : List (Key × V)} {A : Around} {E : Value -> Shared -> Prop}
end
section
variable {X : Cx} {pins : List (Addr × Obj)} {σ : St} {H : Hp} {s : Shared} {a : Addr} {y : V} {u : Value} {A : Around} {E : Value -> Shared -> Prop}
end
end L2
namespace P2
open PySem L2
section
variable {κ : Type} [DecidableEq κ] {K : W.Frag} {al : Addr -> Prop} {lo : Lo} {H : Hp}
theorem RepK.length {us : List (κ × V)} {zs : List (κ × Z)} (r : RepK K al lo H us zs) : us.length = zs.length := by
  induction r with
  | nil => rfl
  | cons _ _ ih => rw [List.length_cons, List.length_cons, ih]
end
section
variable {X : Cx} {E : XK} {b : Nat} {o k e : Expr} {fo f : ZEv -> Sto -> RX Z} {fk : Ev -> R D} {pos : Pos}
end
section
variable {X : Cx} {E : XK} {b : Nat} {e : Expr} {f : ZEv -> Sto -> RX Z} {fs : ZEv -> Sto -> RX (List Z)} {pos : Pos} {ks : List Key} {keys : List (Option Expr)} {es : List Expr}
end
end P2
namespace P2
open PySem L2
section
variable {P : Program} {w : World} {K : W.Frag} {mg : Str -> Option Value} {base : Heap} {f : Addr} {fd : FuncData} {x : Str} {ps : List Str}
theorem fn_badD {k : Nat} : FnOk P w K mg base (CXx P w) k f fd ps (spD ps.length K fun _ => .bad) :=
  ⟨fun vs H Q E h => h.1, fun A outer s H args us vs Q E _ _ _ _ h => by obtain ⟨_, _, _, _, _, _, h⟩ := h; exact h.elim⟩
theorem fn_badZ {k : Nat} : FnOk P w K mg base (CXx P w) k f fd ps (spZ ps.length K fun _ _ => .bad) :=
  ⟨fun vs H Q E h => h.1, fun A outer s H args us vs Q E _ _ _ _ h => by obtain ⟨_, _, _, _, _, _, _, _, _, h⟩ := h; exact h.elim⟩
noncomputable def fixD (F0 : (List D -> R D) -> List D -> R D) : Nat -> List D -> R D
  | 0 => fun _ => .bad
  | m + 1 => F0 (fixD F0 m)
theorem rec_D {k0 st n : Nat} {F0 : (List D -> R D) -> List D -> R D} (hn : n = ps.length)
    (hHas : ∀ {k : Nat} {sp : Sp}, FnOk P w K mg base (CXx P w) k f fd ps sp -> Has P w K mg base (CXx P w) k x ps sp)
    (step : ∀ (Fs : List D -> R D) (k : Nat), k0 <= k -> Has P w K mg base (CXx P w) k x ps (spD n K Fs) -> FnOk P w K mg base (CXx P w) (k + st) f fd ps (spD n K (F0 Fs))) : ∀ m : Nat, FnOk P w K mg base (CXx P w) (k0 + m * st) f fd ps (spD n K (fixD F0 m))
  | 0 => by subst hn; exact fn_badD
  | m + 1 => by
    have := step (fixD F0 m) (k0 + m * st) (Nat.le_add_right _ _) (hHas (rec_D hn hHas step m))
    rw [Nat.succ_mul, ← Nat.add_assoc]
    exact this
end
section
variable {X : Cx} {E : XK}
end
end P2
namespace P2
open PySem L2
noncomputable def putFZ (f : Str) (v : Z) : List (Str × Z) -> List (Str × Z)
  | [] => [(f, v)]
  | (g, x) :: r => if g = f then (g, v) :: r else (g, x) :: putFZ f v r
section
variable {K : W.Frag} {al : Addr -> Prop} {lo : Lo} {H : Hp}
theorem RepK.look {us : List (Str × V)} {zs : List (Str × Z)} (r : RepK K al lo H us zs) {f : Str} {z : Z} (h : zs.lookup f = some z) : ∃ v, us.lookup f = some v /\ RepZ K al lo H v z := by
  induction r with
  | nil => cases h
  | @cons k v z' vs zs' q _ ih =>
    rw [List.lookup_cons] at h ⊢
    cases e : f == k with
    | true => rw [e] at h; cases h; exact ⟨v, rfl, q⟩
    | false => rw [e] at h; exact ih h
theorem RepK.nolook {us : List (Str × V)} {zs : List (Str × Z)} (r : RepK K al lo H us zs) {f : Str} (h : zs.lookup f = Option.none) : us.lookup f = Option.none := by
  induction r with
  | nil => rfl
  | @cons k v z' vs zs' q _ ih =>
    rw [List.lookup_cons] at h ⊢
    cases e : f == k with
    | true => rw [e] at h; cases h
    | false => rw [e] at h; exact ih h
theorem RepK.putF {us : List (Str × V)} {zs : List (Str × Z)} (r : RepK K al lo H us zs) (f : Str) {v : V} {z : Z} (q : RepZ K al lo H v z) : RepK K al lo H (L2.putF f v us) (putFZ f z zs) := by
  induction r with
  | nil => exact .cons q .nil
  | @cons k v' z' vs zs' q' r' ih =>
    unfold L2.putF putFZ
    by_cases e : k = f
    · rw [if_pos e, if_pos e]; exact .cons q r'
    · rw [if_neg e, if_neg e]; exact .cons q' ih
theorem nt_ins {C dx : Addr} {us : List (Str × V)} : NT (.ins C dx us) := fun _ h => nomatch h
end
noncomputable def zFld (C : Addr) (fo : ZEv -> Sto -> RX Z) (f : Str) : ZEv -> Sto -> RX Z := fun ρ S => (fo ρ S).bind fun z S1 => match z with
  | .loc n => (match S1[n]? with
    | some (.ob C' fs) => if C' = C then (match fs.lookup f with
      | some z => .ok z S1
      | none => .bad) else .bad
    | _ => .bad)
  | _ => .bad
noncomputable def yFld (C : Addr) (fo : ZEv -> Sto -> RX Z) (f : Str) (fv : ZEv -> Sto -> RX Z) : ZEv -> Sto -> RTZ := fun ρ S => toZ (fv ρ S) fun v S0 => toZ (fo ρ S0) fun z S1 => match z with
  | .loc n => (match S1[n]? with
    | some (.ob C' fs) => if C' = C /\ fs.length < 1000 then .nx ρ (S1.set n (.ob C' (putFZ f v fs))) else .bad
    | _ => .bad)
  | _ => .bad
noncomputable def yFldAug (C : Addr) (fo : ZEv -> Sto -> RX Z) (f : Str) (g : Int -> Int -> Int) (fv : ZEv -> Sto -> RX Z) : ZEv -> Sto -> RTZ := fun ρ S => toZ (fo ρ S) fun z S1 => match z with
  | .loc n => (match S1[n]? with
    | some (.ob C' fs) => if C' = C then (match fs.lookup f with
      | some (.d (.int i)) => toZ (fv ρ S1) fun v S2 => (match v, S2[n]? with
        | .d (.int j), some (.ob C2 fs2) => if C2 = C /\ fs2.length < 1000 then .nx ρ (S2.set n (.ob C2 (putFZ f (.d (.int (g i j))) fs2))) else .bad
        | _, _ => .bad)
      | _ => .bad) else .bad
    | _ => .bad)
  | _ => .bad
noncomputable def rdOf (g : Int -> Int -> Int) : V -> V -> Hp -> VK -> Prop := fun x y H Q => ∃ i j, x = .int i /\ y = .int j /\ Q (.int (g i j)) H
theorem in_addF {X : Cx} : InOp X .Add (rdOf fun i j => i + j) := in_add
theorem in_subF {X : Cx} : InOp X .Sub (rdOf fun i j => i - j) := in_sub
noncomputable def zMeth (C : Addr) (m : Str) (F : List Z -> Sto -> RX Z) (dz : List D) (fo : ZEv -> Sto -> RX Z) (fs : ZEv -> Sto -> RX (List Z)) : ZEv -> Sto -> RX Z := fun ρ S => (fo ρ S).bind fun z S1 => match z with
  | .loc n => (match S1[n]? with
    | some (.ob C' us) => if C' = C /\ us.lookup m = none then (fs ρ S1).bind fun zs S2 => F (.loc n :: (zs ++ dz.map .d)) S2 else .bad
    | _ => .bad)
  | _ => .bad
noncomputable def zMake (C : Addr) (F : List Z -> Sto -> RX Z) (fs : ZEv -> Sto -> RX (List Z)) : ZEv -> Sto -> RX Z := fun ρ S => (fs ρ S).bind fun zs S1 => match F (.loc S1.length :: zs) (S1 ++ [.ob C []]) with
  | .ok (.d .non) S2 => .ok (.loc S1.length) S2
  | .ex c ns ds S2 => .ex c ns ds S2
  | _ => .bad
noncomputable def HasM (P : Program) (w : World) (K : W.Frag) (mg : Str -> Option Value) (base : Heap) (k : Nat) (C : Addr) (m : Str) (ps : List Str) (dz : List D) (sp : Sp) : Prop :=
  ∃ (f : Addr) (fd : FuncData) (ds : List Value) (dvs : List V), FnOk P w K mg base (CXx P w) k f fd ps sp /\ Binds K fd ps ds /\ Vals dvs ds /\ (∀ al H, Reps K al H dvs dz) /\ Meth K C m f
theorem HasM.up {P : Program} {w : World} {K : W.Frag} {mg : Str -> Option Value} {base : Heap} {j k : Nat} {C : Addr} {m : Str} {ps : List Str} {dz : List D} {sp : Sp} (G : HasM P w K mg base j C m ps dz sp) (h : j <= k) : HasM P w K mg base k C m ps dz sp :=
  let ⟨f, fd, ds, dvs, fo, r⟩ := G; ⟨f, fd, ds, dvs, fo.mono h, r⟩
noncomputable def HasI (P : Program) (w : World) (K : W.Frag) (mg : Str -> Option Value) (base : Heap) (k : Nat) (C : Addr) (ps : List Str) (sp : Sp) : Prop :=
  ∃ (f : Addr) (fd : FuncData), FnOk P w K mg base (CXx P w) k f fd ps sp /\ Binds K fd ps [] /\ Mk K C f
theorem HasI.up {P : Program} {w : World} {K : W.Frag} {mg : Str -> Option Value} {base : Heap} {j k : Nat} {C : Addr} {ps : List Str} {sp : Sp} (G : HasI P w K mg base j C ps sp) (h : j <= k) : HasI P w K mg base k C ps sp :=
  let ⟨f, fd, fo, r⟩ := G; ⟨f, fd, fo.mono h, r⟩
section
variable {X : Cx} {E : XK} {b : Nat} {o e value : Expr} {es : List Expr} {pos p apos pos' tpos : Pos} {fo fv : ZEv -> Sto -> RX Z} {fs : ZEv -> Sto -> RX (List Z)} {f m x : Str} {C : Addr} {k n : Nat} {ps : List Str} {dz : List D} {F : List Z -> Sto -> RX Z}
theorem ze_fld (c : Cls X.K C) (na : NoAttr X.K C f) (ho : ZE X E o fo) (hb : attributeBase o f X.env (eval o X.env) = eval o X.env := by rfl) : ZE X E (.Attribute o f pos) (zFld C fo f) := by
  obtain ⟨to, po, ro⟩ := ho
  refine ⟨_, pe_fld po hb, fun B al lo H σ ρ S Q s h => ro _ _ _ _ _ _ _ _ s (AftZ.mono (AftZ.split h) fun z al1 lo1 H1 S1 s1 x1 y1 h1 v rv => ?_)⟩
  split at h1
  · rename_i n
    split at h1
    · rename_i C' us q
      split at h1
      · rename_i hc
        subst hc
        split at h1
        · rename_i z0 q0
          obtain ⟨a, hn, rfl⟩ := rv
          obtain ⟨dx, vs, g1, g2⟩ := s1.cell hn q
          obtain ⟨w, e1, e2⟩ := g2.look q0
          exact ⟨a, _, dx, vs, w, rfl, g1, c, na, e1, h1 al1 lo1 H1 s1 .refl .refl w e2⟩
        · exact h1.elim
      · exact h1.elim
    · exact h1.elim
  · exact h1.elim
theorem zs_fld (c : Cls X.K C) (na : NoAttr X.K C f) (ho : ZE X E o fo) (hv : ZE X E value fv) (hs : swapsWith value (some (.Attribute o f pos')) pos.line X.env = pure false := by rfl) : ZS X E b (.Assign [.Attribute o f pos'] value pos) (yFld C fo f fv) := by
  obtain ⟨to, po, ro⟩ := ho
  obtain ⟨tv, pv, rv⟩ := hv
  refine ⟨_, ps_fld po pv hs, fun B hb al lo H σ ρ S D s h => rv _ _ _ _ _ _ _ _ s (AftZ.mono (okZ.ofX h) fun y al0 lo0 H0 S0 s0 x0 y0 h0 v0 r0 => ro _ _ _ _ _ _ _ _ s0 (AftZ.mono (okZ.ofX h0) fun z al1 lo1 H1 S1 s1 x1 y1 h1 v1 r1 => ?_))⟩
  split at h1
  · rename_i n
    split at h1
    · rename_i C' us q
      split at h1
      · rename_i hc
        obtain ⟨hc, hl⟩ := hc
        subst hc
        obtain ⟨a, hn, rfl⟩ := r1
        obtain ⟨dx, vs, g1, g2⟩ := s1.cell hn q
        have r0' : RepZ X.K al1 lo1 H1 v0 y := r0.mv x1 y1
        have x2 : Xt al1 H1 al1 (upd H1 a (.ins C' dx (L2.putF f v0 vs))) := fun b o _ hb eb => ⟨hb, by rw [upd_ne fun z => s1.st.na n a hn (by rw [← z]; exact hb)]; exact eb⟩
        obtain ⟨s4, x4⟩ := s1.write hn (o := .ins C' dx (L2.putF f v0 vs)) (c := .ob C' (putFZ f y us)) nt_ins (fun q w => by unfold CodeO at w; cases w) ⟨_, _, upd_same, RepK.mv x2 .refl (g2.putF f r0')⟩ nofun
        exact ⟨a, _, dx, vs, rfl, g1, c, na, by rw [g2.length]; exact hl, h1 _ _ _ _ x4 s4⟩
      · exact h1.elim
    · exact h1.elim
  · exact h1.elim
theorem zs_fldaug {op : Operator} {g : Int -> Int -> Int} (hop : InOp X op (rdOf g)) (c : Cls X.K C) (na : NoAttr X.K C f) (ho : ZE X E o fo) (hv : ZE X E value fv) : ZS X E b (.AugAssign (.Attribute o f tpos) op value pos) (yFldAug C fo f g fv) := by
  obtain ⟨to, po, ro⟩ := ho
  obtain ⟨tv, pv, rv⟩ := hv
  refine ⟨_, ps_fldaug po pv hop, fun B hb al lo H σ ρ S D s h => ro _ _ _ _ _ _ _ _ s (AftZ.mono (okZ.ofX h) fun z al1 lo1 H1 S1 s1 x1 y1 h1 v1 r1 => ?_)⟩
  split at h1
  · rename_i n
    split at h1
    · rename_i C' us q
      split at h1
      · rename_i hc
        subst hc
        split at h1
        · rename_i i q0
          obtain ⟨a, hn, rfl⟩ := r1
          obtain ⟨dx, vs, g1, g2⟩ := s1.cell hn q
          obtain ⟨w, e1, e2⟩ := g2.look q0
          have ew : w = .int i := by cases e2; rfl
          subst ew
          refine ⟨a, _, dx, vs, _, rfl, g1, c, na, e1, rv _ _ _ _ _ _ _ _ s1 (AftZ.mono (okZ.ofX h1) fun v al2 lo2 H2 S2 s2 x2 y2 h2 u ru => ?_)⟩
          split at h2
          · rename_i j C2 fs2 q2
            split at h2
            · rename_i hc
              obtain ⟨hc, hl⟩ := hc
              subst hc
              have eu : u = .int j := by cases ru; rfl
              subst eu
              have hn2 := y2 n a hn
              obtain ⟨dx2, vs2, g3, g4⟩ := s2.cell hn2 q2
              have x3 : Xt al2 H2 al2 (upd H2 a (.ins C2 dx2 (L2.putF f (.int (g i j)) vs2))) := fun b o _ hb eb => ⟨hb, by rw [upd_ne fun z => s2.st.na n a hn2 (by rw [← z]; exact hb)]; exact eb⟩
              obtain ⟨s4, x4⟩ := s2.write hn2 (o := .ins C2 dx2 (L2.putF f (.int (g i j)) vs2)) (c := .ob C2 (putFZ f (.d (.int (g i j))) fs2)) nt_ins (fun q w => by unfold CodeO at w; cases w) ⟨_, _, upd_same, RepK.mv x3 .refl (g4.putF f (.int _))⟩ nofun
              exact ⟨i, j, rfl, rfl, dx2, vs2, g3, by rw [g4.length]; exact hl, h2 _ _ _ _ x4 s4⟩
            · exact h2.elim
          · exact h2.elim
        · exact h1.elim
      · exact h1.elim
    · exact h1.elim
  · exact h1.elim
theorem reps_app {K : W.Frag} {al : Addr -> Prop} {lo : Lo} {H : Hp} {vs ws : List V} {zs : List Z} {ds : List D} (r : RepZs K al lo H vs zs) (q : Reps K al H ws ds) : RepZs K al lo H (vs ++ ws) (zs ++ ds.map .d) := r.append (.ofD q)
theorem meth_go {B : Z0} {al : Addr -> Prop} {lo : Lo} {H : Hp} {σ : St} {ρ : ZEv} {S : Sto} {Q : VK} {zs : List Z} {vs : List V} (s : RZ X.K B al lo H σ ρ S) (rv : RepZs X.K al lo H vs zs) (hl : vs.length = n)
    (h : AftZ X.K B E al lo H σ ρ (F zs S) (fun z al' lo' H' _ => ∀ v, RepZ X.K al' lo' H' v z -> Q v H')) : spZ n X.K F vs H Q E := by
  refine ⟨hl, s.tt, al, lo, zs, S, s.fresh, s.st, rv, ?_⟩
  cases q2 : F zs S with
  | bad => rw [q2] at h; exact h.elim
  | ex c ns ds S2 => rw [q2] at h; exact fun al2 lo2 H2 dx e2 xr => h al2 lo2 H2 dx (s.toEZ.trans e2) xr
  | ok z S2 => rw [q2] at h; exact fun al2 lo2 H2 v e2 rv2 => h al2 lo2 H2 (s.after e2) e2.xt e2.lx v rv2
theorem ze_meth {pl : Sem Bool} (G : HasM X.prog X.w X.K X.mg X.base k C m ps dz (spZ n X.K F)) (c : Cls X.K C) (hr : Room k X.A) (hx : Passes (CXx X.prog X.w) X E) (ho : ZE X E o fo) (ha : ZA X E (e :: es) fs) (hn : (e :: es).length + 1 + dz.length = n)
    (hst : starEach (e :: es) X.env = (false, eval e X.env) :: starEach es X.env := by rfl) (hpl : (backTo pos (starEach es X.env)).any (·.1) = false := by rfl)
    (ht : eval (.Call (.Attribute o m apos) (e :: es) [] pos) X.env = (do
      let ov ← eval o X.env
      standAt apos.atName
      let (f, first) ← holding [ov] (getMethod ov m pl)
      callWith pos f first (backTo pos (starEach (e :: es) X.env)) (backToKw pos (keywordEach [] X.env))) := by rfl) :
    ZE X E (.Call (.Attribute o m apos) (e :: es) [] pos) (zMeth C m F dz fo fs) := by
  obtain ⟨to, po, ro⟩ := ho
  obtain ⟨ta, pa, ra, lb⟩ := ha
  obtain ⟨f, fd, ds, dvs, fo', bi, va, rd, me⟩ := G
  refine ⟨_, pe_meth po c me fo' hr bi va hx pa hst hpl ht, fun B al lo H σ ρ S Q s h => ro _ _ _ _ _ _ _ _ s (AftZ.mono (AftZ.split h) fun z al1 lo1 H1 S1 s1 x1 y1 h1 v rv => ?_)⟩
  split at h1
  · rename_i j
    split at h1
    · rename_i C' us q
      split at h1
      · rename_i hc
        obtain ⟨hc, hl⟩ := hc
        subst hc
        obtain ⟨a, hn1, rfl⟩ := rv
        obtain ⟨dx, vs, g1, g2⟩ := s1.cell hn1 q
        refine ⟨a, dx, vs, rfl, g1, g2.nolook hl, ra _ _ _ _ _ _ _ _ s1 ?_⟩
        cases q2 : fs ρ S1 with
        | bad => rw [q2] at h1; exact h1.elim
        | ex c ns ds S2 => rw [q2] at h1; exact h1
        | ok zs S2 =>
          rw [q2] at h1
          have ll := lb _ _ _ _ q2
          intro al2 lo2 H2 s2 x2 y2 ws rw2
          refine meth_go s2 (zs := .loc j :: (zs ++ dz.map .d)) (.cons ⟨a, y2 _ _ hn1, rfl⟩ (reps_app rw2 (rd al2 H2))) ?_ (AftZ.up h1 x2 y2)
          have := (rd al2 H2).length
          rw [List.length_cons, List.length_append, rw2.length, this, ll, ← hn]
          omega
      · exact h1.elim
    · exact h1.elim
  · exact h1.elim
theorem ze_meth0 {pl : Sem Bool} (G : HasM X.prog X.w X.K X.mg X.base k C m ps dz (spZ n X.K F)) (c : Cls X.K C) (hr : Room k X.A) (hx : Passes (CXx X.prog X.w) X E) (ho : ZE X E o fo) (hn : 1 + dz.length = n)
    (ht : eval (.Call (.Attribute o m apos) [] [] pos) X.env = (do
      let ov ← eval o X.env
      standAt apos.atName
      let (f, first) ← holding [ov] (getMethod ov m pl)
      callWith pos f first (backTo pos (starEach [] X.env)) (backToKw pos (keywordEach [] X.env))) := by rfl) :
    ZE X E (.Call (.Attribute o m apos) [] [] pos) (zMeth C m F dz fo zNil) := by
  obtain ⟨to, po, ro⟩ := ho
  obtain ⟨f, fd, ds, dvs, fo', bi, va, rd, me⟩ := G
  refine ⟨_, pe_meth0 po c me fo' hr bi va hx ht, fun B al lo H σ ρ S Q s h => ro _ _ _ _ _ _ _ _ s (AftZ.mono (AftZ.split h) fun z al1 lo1 H1 S1 s1 x1 y1 h1 v rv => ?_)⟩
  split at h1
  · rename_i j
    split at h1
    · rename_i C' us q
      split at h1
      · rename_i hc
        obtain ⟨hc, hl⟩ := hc
        subst hc
        obtain ⟨a, hn1, rfl⟩ := rv
        obtain ⟨dx, vs, g1, g2⟩ := s1.cell hn1 q
        refine ⟨a, dx, vs, rfl, g1, g2.nolook hl, ?_⟩
        have h1 : AftZ X.K B E al1 lo1 H1 σ ρ (F (.loc j :: ([] ++ dz.map .d)) S1) (fun z al' lo' H' _ => ∀ v, RepZ X.K al' lo' H' v z -> Q v H') := h1
        refine meth_go s1 (zs := .loc j :: ([] ++ dz.map .d)) (.cons ⟨a, hn1, rfl⟩ (reps_app .nil (rd al1 H1))) ?_ h1
        have := (rd al1 H1).length
        rw [List.length_cons, List.length_append, this, ← hn]
        simp; omega
      · exact h1.elim
    · exact h1.elim
  · exact h1.elim
theorem make_go {B : Z0} {al : Addr -> Prop} {lo : Lo} {H : Hp} {σ : St} {ρ : ZEv} {S : Sto} {Q : VK} {zs : List Z} {vs : List V} (s : RZ X.K B al lo H σ ρ S) (rv : RepZs X.K al lo H vs zs) (hl : vs.length + 1 = n)
    (h : AftZ X.K B E al lo H σ ρ (match F (.loc S.length :: zs) (S ++ [.ob C []]) with
      | .ok (.d .non) S2 => RX.ok (Z.loc S.length) S2
      | .ex c ns ds S2 => .ex c ns ds S2
      | _ => .bad) (fun z al' lo' H' _ => ∀ v, RepZ X.K al' lo' H' v z -> Q v H')) {y dx : Addr} (hy : H y = none) (hd : H dx = none) (ne : dx ≠ y) : spZ n X.K F (.ref y :: (vs ++ [])) (upd (upd H dx (.own y)) y (.ins C dx [])) (fun v H2 => v = .non /\ Q (.ref y) H2) E := by
  have s1 := s.grow (same_upd (K := X.K) (o := .own y) hd)
  have hy1 : (upd H dx (.own y)) y = none := by rw [upd_ne (Ne.symm ne)]; exact hy
  have hc : CellAt X.K (fun b => al b /\ b ≠ y) (loNew lo S.length y) (upd (upd H dx (.own y)) y (.ins C dx [])) y (.ob C []) := ⟨dx, [], upd_same, .nil⟩
  have s2 := s1.new hy1 nt_ins hc nofun
  have x2 : Xt al H (fun b => al b /\ b ≠ y) (upd (upd H dx (.own y)) y (.ins C dx [])) := (Xt.of (same_upd (K := X.K) (o := .own y) hd)).trans (xt_new hy1)
  have y2 := loNew_x s1.st y
  have hn : loNew lo S.length y S.length = some y := by unfold loNew; rw [if_pos rfl]
  refine ⟨by rw [List.append_nil, List.length_cons]; exact hl, s2.tt, _, _, .loc S.length :: zs, S ++ [.ob C []], s2.fresh, s2.st, .cons ⟨y, hn, rfl⟩ (by rw [List.append_nil]; exact rv.mv x2 y2), ?_⟩
  cases q2 : F (.loc S.length :: zs) (S ++ [.ob C []]) with
  | bad => rw [q2] at h; exact h.elim
  | ex c ns ds S2 => rw [q2] at h; exact fun al3 lo3 H3 dx e3 xr => h al3 lo3 H3 dx (s2.toEZ.trans e3) xr
  | ok z S2 =>
    rw [q2] at h
    cases z with
    | loc j => exact h.elim
    | d d =>
      cases d with
      | non =>
        intro al3 lo3 H3 v e3 rv3
        have ev : v = .non := by cases rv3; rfl
        exact ⟨ev, h al3 lo3 H3 (s2.after e3) (x2.trans e3.xt) (y2.trans e3.lx) _ ⟨y, e3.lx _ _ hn, rfl⟩⟩
      | _ => exact h.elim
theorem ze_make (G : HasI X.prog X.w X.K X.mg X.base k C ps (spZ n X.K F)) (hr : Room (k + 1) X.A) (hg : Gl X x) (hm : X.mg x = some (.ref C)) (hx : Passes (CXx X.prog X.w) X E) (ha : ZA X E (e :: es) fs) (hn : (e :: es).length + 1 = n)
    (hdb : (x == ("__debug__" : Str)) = false := by decide) (he : starEach (e :: es) X.env = (false, eval e X.env) :: starEach es X.env := by rfl) (hpl : (backTo pos (starEach es X.env)).any (·.1) = false := by rfl) :
    ZE X E (.Call (.Name x p) (e :: es) [] pos) (zMake C F fs) := by
  obtain ⟨ta, pa, ra, lb⟩ := ha
  obtain ⟨f, fd, fo', bi, mk⟩ := G
  refine ⟨_, pe_make mk fo' hr hg hm bi .nil hx pa hdb he hpl, fun B al lo H σ ρ S Q s h => ra _ _ _ _ _ _ _ _ s ?_⟩
  unfold zMake at h
  cases q : fs ρ S with
  | bad => rw [q] at h; exact h.elim
  | ex c ns ds S1 => rw [q] at h; exact h
  | ok zs S1 =>
    rw [q] at h
    intro al1 lo1 H1 s1 x1 y1 vs rv y dx hy hd ne
    have ll := lb _ _ _ _ q
    exact make_go s1 rv (by rw [rv.length, ll]; exact hn) (AftZ.up h x1 y1) hy hd ne
end
structure FunD (K : W.Frag) (x qual : Str) (st : Stmt) (dV : Value) (f : Addr) (fd : FuncData) : Prop where
  ex : ∃ (oc : Value) (od : Option Addr) (kV doc pm : Value) (an : Option Addr) (cdv ct : Value) (osl : Array (Option Value)),
    fd = W.fnOf x qual (defArgs st) (defBody st) (defScope st) dV kV doc pm an cdv ct /\ K.lookup f = some ⟨oc, od, .func fd, osl⟩ /\ W.codeIn K cdv qual = true
  kp : W.keepIn K (.ref f) = true
section
variable {P : Program} {w : World} {K : W.Frag} {mg : Str -> Option Value} {base : Heap}
theorem fund_mk {x qual : Str} {st : Stmt} {f : Addr} {oc : Value} {od an : Option Addr} {osl : Array (Option Value)} {dV kV doc pm cdv ct : Value} (l : K.lookup f = some ⟨oc, od, .func (W.fnOf x qual (defArgs st) (defBody st) (defScope st) dV kV doc pm an cdv ct), osl⟩)
    (c : W.codeIn K cdv qual = true) (k : W.keepIn K (.ref f) = true) : FunD K x qual st dV f (W.fnOf x qual (defArgs st) (defBody st) (defScope st) dV kV doc pm an cdv ct) := ⟨⟨oc, od, kV, doc, pm, an, cdv, ct, osl, rfl, l, c⟩, k⟩
theorem fn_denM {x qual : Str} {st : Stmt} {dV : Value} {f : Addr} {fd : FuncData} {N ps : List Str} {k : Nat} {g : Nat -> ZEv -> Sto -> RTZ} (F : FunD K x qual st dV f fd) (S : FnScope N ps (defScope st))
    (body : ∀ (b : Nat) (cdv : Value) (A : Around) (outer : List Env) (s : Shared) (H : Hp) (E : XK), Room k (cxOf (CXx P w) P w K mg base N qual (defScope st) f cdv A outer s H E).A -> ZSs (cxOf (CXx P w) P w K mg base N qual (defScope st) f cdv A outer s H E) E b (defBody st) (g b)) :
    FnOk P w K mg base (CXx P w) (k + 1) f fd ps (spZ ps.length K fun zs S => finZ (g S.length (startZ N.length zs) S)) := by
  obtain ⟨oc, od, kV, doc, pm, an, cdv, ct, osl, rfl, lk, hcd⟩ := F.ex
  refine fn_of lk hcd S (fun vs H Q E h => h.1) fun A outer s H vs Q E hr h => ?_
  obtain ⟨hl, tt, al, lo, zs, S0, fr, st, rv, h⟩ := h
  obtain ⟨t, p, r⟩ := body S0.length cdv A outer s H E hr
  dsimp only at h
  refine ⟨t, p, r ⟨H, al, lo, S0.length⟩ rfl al lo H (L2.start N vs) (startZ N.length zs) S0 _ (rz_start tt fr st rv) ?_⟩
  cases q : g S0.length (startZ N.length zs) S0 with
  | nx ρ S1 => rw [q] at h; exact fun al' lo' H' σ' _ s' => h al' lo' H' .non s'.toEZ .non
  | rt z S1 => rw [q] at h; exact h
  | ex c ns es S1 => rw [q] at h; exact h
  | bk ρ S1 => rw [q] at h; exact h.elim
  | ct ρ S1 => rw [q] at h; exact h.elim
  | bad => rw [q] at h; exact h.elim
theorem FunD.binds {x qual : Str} {st : Stmt} {dV : Value} {f : Addr} {fd : FuncData} {ps : List Str} (F : FunD K x qual st dV f fd)
    (h : ∀ (kV doc pm : Value) (an : Option Addr) (cdv ct : Value) (us : List Value), us.length = ps.length -> bindArgs (W.fnOf x qual (defArgs st) (defBody st) (defScope st) dV kV doc pm an cdv ct) ⟨us, []⟩ = pure (ps.zip us)) : Binds K fd ps [] := by
  obtain ⟨oc, od, kV, doc, pm, an, cdv, ct, osl, rfl, lk, hcd⟩ := F.ex
  exact .all (h kV doc pm an cdv ct)
theorem FunD.bindsD {x qual : Str} {st : Stmt} {tA : Addr} {f : Addr} {fd : FuncData} {ps : List Str} {ds : List Value} {o : Obj} {items : Array Value} {n : Nat} (F : FunD K x qual st (.ref tA) f fd) (ho : K.lookup tA = some o) (hs : o.data = .seq items n)
    (h : ∀ (kV doc pm : Value) (an : Option Addr) (cdv ct : Value) (us : List Value), us.length + ds.length = ps.length -> ∃ k : Option (Array Value) -> Sem (List (Str × Value)), bindArgs (W.fnOf x qual (defArgs st) (defBody st) (defScope st) (.ref tA) kV doc pm an cdv ct) ⟨us, []⟩ = seqItems? (.ref tA) >>= k /\ k (some items) = pure (ps.zip (us ++ ds))) : Binds K fd ps ds := by
  obtain ⟨oc, od, kV, doc, pm, an, cdv, ct, osl, rfl, lk, hcd⟩ := F.ex
  intro s us kin hl
  rw [List.length_append] at hl
  obtain ⟨k, h1, h2⟩ := h kV doc pm an cdv ct us hl
  exact .of_defaults rfl (kin _ _ ho) hs h1 h2
end
end P2
namespace WR
open PySem L2 P2 WP
noncomputable def g_split_row (a : Ad) : Ev -> RT := (sSeq (sSet 1 (asN (dComp (fun ρ => ((dV 0) ρ).bind asI) 1 [] (gV 0) (fun _ => .ok true) (dIf (b1 tB (d2 inSD (dV 0) (dC (.str "abcdefghijklmnopqrstuvwxyz0123456789/")))) (dV 0) ((jCons (dC (.str " ")) (jCons (d1 fmtD (dV 0)) (jCons (dC (.str " ")) jNil))) Str.empty)))))
    (sRet (asN (dComp (fun ρ => ((dMt "str" splitD (dMt "str" joinD (dC (.str "")) (aCons (dV 1) aNil)) (aCons (dC (.str " ")) aNil)) ρ).bind asI) 1 [] (gV 0) (b1 tB (d2 neSD (dV 0) (dC (.str "")))) (dV 0)))))
noncomputable def gt___init (a : Ad) (F_split_row : List D -> R D) (b : Nat) : ZEv -> Sto -> RTZ := (ySeq (yFld a.Tokens (zV 0) "tokens" (zD (dA F_split_row (aCons (dV 1) aNil))))
    (ySeq (yFld a.Tokens (zV 0) "place" (zD (dC (.int 0))))
    (ySeq (yFld a.Tokens (zV 0) "parts" (zD (dC (.int 0))))
    (yFld a.Tokens (zV 0) "brackets" (zD (dC (.int 0)))))))
noncomputable def gt_ahead (a : Ad) (b : Nat) : ZEv -> Sto -> RTZ := (ySeq (ySet 2 (z2 addD (zFld a.Tokens (zV 0) "place") (zD (dV 1))))
    (yRet (zIf (zTst tB (z2 ltD (zD (dV 2)) (zF lenD (zCons (zFld a.Tokens (zV 0) "tokens") zNil)))) (z2 ixD (zFld a.Tokens (zV 0) "tokens") (zD (dV 2))) (zD (dC (.str ""))))))
noncomputable def gt_take (a : Ad) (Zt_ahead : List Z -> Sto -> RX Z) (b : Nat) : ZEv -> Sto -> RTZ := (ySeq (ySet 1 (zMeth a.Tokens "ahead" Zt_ahead [(.int 0)] (zV 0) zNil))
    (ySeq (yIf (zB (b1 tB (d2 eqSD (dV 1) (dC (.str ""))))) (fun ρ S => leave ((fun ρ => toS ((aCons (dC (.int 1)) aNil) ρ) fun ds => .ex a.NoText ["row"] ds) (pur ρ)) S) yNil)
    (ySeq (yFldAug a.Tokens (zV 0) "place" (fun i j => i + j) (zD (dC (.int 1))))
    (yRet (zD (dV 1))))))
noncomputable def gt_expect (a : Ad) (Zt_take : List Z -> Sto -> RX Z) (b : Nat) : ZEv -> Sto -> RTZ := (yIf (zTst tB (z2 neSD (zMeth a.Tokens "take" Zt_take [] (zV 0) zNil) (zD (dV 1)))) (fun ρ S => leave ((fun ρ => toS ((aCons (dC (.int 1)) aNil) ρ) fun ds => .ex a.NoText ["row"] ds) (pur ρ)) S) yNil)
noncomputable def gt_expect_end (a : Ad) (Zt_ahead : List Z -> Sto -> RX Z) (b : Nat) : ZEv -> Sto -> RTZ := (yIf (zTst tB (z2 neSD (zMeth a.Tokens "ahead" Zt_ahead [(.int 0)] (zV 0) zNil) (zD (dC (.str ""))))) (fun ρ S => leave ((fun ρ => toS ((aCons (dC (.int 1)) aNil) ρ) fun ds => .ex a.NoText ["row"] ds) (pur ρ)) S) yNil)
noncomputable def gt_begin_part (a : Ad) (b : Nat) : ZEv -> Sto -> RTZ := (ySeq (yFldAug a.Tokens (zV 0) "parts" (fun i j => i + j) (zD (dC (.int 1))))
    (yIf (zTst tB (z2 gtD (zFld a.Tokens (zV 0) "parts") (zD (dC (.int 30))))) (fun ρ S => leave ((fun ρ => toS ((aCons (dC (.int 1)) aNil) ρ) fun ds => .ex a.NoText ["row"] ds) (pur ρ)) S) yNil))
noncomputable def gt_enter (a : Ad) (Zt_expect : List Z -> Sto -> RX Z) (b : Nat) : ZEv -> Sto -> RTZ := (ySeq (yExpr (zMeth a.Tokens "expect" Zt_expect [] (zV 0) (zCons (zD (dV 1)) zNil)))
    (ySeq (yFldAug a.Tokens (zV 0) "brackets" (fun i j => i + j) (zD (dC (.int 1))))
    (yIf (zTst tB (z2 gtD (zFld a.Tokens (zV 0) "brackets") (zD (dC (.int 16))))) (fun ρ S => leave ((fun ρ => toS ((aCons (dC (.int 1)) aNil) ρ) fun ds => .ex a.NoText ["row"] ds) (pur ρ)) S) yNil)))
noncomputable def gt_leave (a : Ad) (Zt_expect : List Z -> Sto -> RX Z) (b : Nat) : ZEv -> Sto -> RTZ := (ySeq (yExpr (zMeth a.Tokens "expect" Zt_expect [] (zV 0) (zCons (zD (dV 1)) zNil)))
    (yFldAug a.Tokens (zV 0) "brackets" (fun i j => i - j) (zD (dC (.int 1)))))
noncomputable def gr_bracketed (a : Ad) (Zt_enter : List Z -> Sto -> RX Z) (Zr_sum : List Z -> Sto -> RX Z) (Zt_leave : List Z -> Sto -> RX Z) (b : Nat) : ZEv -> Sto -> RTZ := (ySeq (yExpr (zMeth a.Tokens "enter" Zt_enter [] (zV 0) (zCons (zD (dC (.str "("))) zNil)))
    (ySeq (ySet 1 (zZ Zr_sum (zCons (zV 0) zNil)))
    (ySeq (yExpr (zMeth a.Tokens "leave" Zt_leave [] (zV 0) (zCons (zD (dC (.str ")"))) zNil)))
    (yRet (zD (dV 1))))))
noncomputable def gr_single (a : Ad) (Fr_whole : List D -> R D) (Fr_word : List D -> R D) (Fr_small_fraction : List D -> R D) (Zt_ahead : List Z -> Sto -> RX Z) (Zr_bracketed : List Z -> Sto -> RX Z) (Zt_begin_part : List Z -> Sto -> RX Z) (Zt_take : List Z -> Sto -> RX Z) (b : Nat) : ZEv -> Sto -> RTZ := (ySeq (yIf (zTst tB (z2 eqSD (zMeth a.Tokens "ahead" Zt_ahead [(.int 0)] (zV 0) zNil) (zD (dC (.str "("))))) (yRet (zZ Zr_bracketed (zCons (zV 0) zNil))) yNil)
    (ySeq (yExpr (zMeth a.Tokens "begin_part" Zt_begin_part [] (zV 0) zNil))
    (ySeq (ySet 1 (zMeth a.Tokens "take" Zt_take [] (zV 0) zNil))
    (ySeq (yIf (zB (b1 tB (d2 eqSD (dV 1) (dC (.str "here"))))) (yRet (zD (dA mkT (aCons (dC (.str "here")) aNil)))) yNil)
    (ySeq (yIf (zB (b1 tB (d2 inLD (dV 1) (dA mkT (aCons (dC (.str "back")) (aCons (dC (.str "on")) (aCons (dC (.str "ago")) (aCons (dC (.str "until")) aNil)))))))) (yRet (zF mkT (zCons (zD (dV 1)) (zCons (zF Fr_whole (zCons (zMeth a.Tokens "take" Zt_take [] (zV 0) zNil) (zCons (zD (dC (.int 1))) (zCons (zD (dC (.int 9))) zNil)))) zNil)))) yNil)
    (ySeq (yIf (zB (b1 tB (d2 eqSD (dV 1) (dC (.str "at"))))) (yRet (zF mkT (zCons (zD (dC (.str "at"))) (zCons (zF Fr_word (zCons (zMeth a.Tokens "take" Zt_take [] (zV 0) zNil) zNil)) zNil)))) yNil)
    (ySeq (yIf (zB (b1 tB (d2 eqSD (dV 1) (dC (.str "abs"))))) (yRet (zF mkT (zCons (zD (dC (.str "abs"))) (zCons (zZ Zr_bracketed (zCons (zV 0) zNil)) zNil)))) yNil)
    (yRet (zD (dA mkT (aCons (dC (.str "num")) (aCons (dA Fr_small_fraction (aCons (dV 1) aNil)) aNil))))))))))))
noncomputable def gr_product (a : Ad) (Fr_small_fraction : List D -> R D) (Zt_ahead : List Z -> Sto -> RX Z) (Zr_single : List Z -> Sto -> RX Z) (Zt_take : List Z -> Sto -> RX Z) (Zt_expect : List Z -> Sto -> RX Z) (Zt_begin_part : List Z -> Sto -> RX Z) (b : Nat) : ZEv -> Sto -> RTZ := (ySeq (yIf (zTst tB (z2 neSD (zMeth a.Tokens "ahead" Zt_ahead [] (zV 0) (zCons (zD (dC (.int 1))) zNil)) (zD (dC (.str "*"))))) (yRet (zZ Zr_single (zCons (zV 0) zNil))) yNil)
    (ySeq (ySet 1 (zF Fr_small_fraction (zCons (zMeth a.Tokens "take" Zt_take [] (zV 0) zNil) zNil)))
    (ySeq (yExpr (zMeth a.Tokens "expect" Zt_expect [] (zV 0) (zCons (zD (dC (.str "*"))) zNil)))
    (ySeq (yExpr (zMeth a.Tokens "begin_part" Zt_begin_part [] (zV 0) zNil))
    (yRet (zF mkT (zCons (zD (dC (.str "times"))) (zCons (zD (dV 1)) (zCons (zZ Zr_single (zCons (zV 0) zNil)) zNil)))))))))
noncomputable def b1r_sum (a : Ad) (Zr_product : List Z -> Sto -> RX Z) (Zt_ahead : List Z -> Sto -> RX Z) (Zt_take : List Z -> Sto -> RX Z) (Zt_begin_part : List Z -> Sto -> RX Z) : ZEv -> Sto -> RTZ := (ySeq (ySet 2 (zMeth a.Tokens "take" Zt_take [] (zV 0) zNil))
    (ySeq (yExpr (zMeth a.Tokens "begin_part" Zt_begin_part [] (zV 0) zNil))
    (ySet 1 (zF mkT (zCons (zD (dV 2)) (zCons (zD (dV 1)) (zCons (zZ Zr_product (zCons (zV 0) zNil)) zNil)))))))
noncomputable def gr_sum (a : Ad) (Zr_product : List Z -> Sto -> RX Z) (Zt_ahead : List Z -> Sto -> RX Z) (Zt_take : List Z -> Sto -> RX Z) (Zt_begin_part : List Z -> Sto -> RX Z) (b : Nat) : ZEv -> Sto -> RTZ := (ySeq (ySet 1 (zZ Zr_product (zCons (zV 0) zNil)))
    (ySeq (whileZ (zTst tB (z2 inLD (zMeth a.Tokens "ahead" Zt_ahead [(.int 0)] (zV 0) zNil) (zD (dA mkT (aCons (dC (.str "+")) (aCons (dC (.str "-")) aNil)))))) (b1r_sum a Zr_product Zt_ahead Zt_take Zt_begin_part) 100)
    (yRet (zD (dV 1)))))
noncomputable def gr_comparison (a : Ad) (Zt_begin_part : List Z -> Sto -> RX Z) (Zr_sum : List Z -> Sto -> RX Z) (Zt_take : List Z -> Sto -> RX Z) (b : Nat) : ZEv -> Sto -> RTZ := (ySeq (yExpr (zMeth a.Tokens "begin_part" Zt_begin_part [] (zV 0) zNil))
    (ySeq (ySet 1 (zZ Zr_sum (zCons (zV 0) zNil)))
    (ySeq (ySet 2 (zMeth a.Tokens "take" Zt_take [] (zV 0) zNil))
    (ySeq (yIf (zB (b1 tB (d2 ninLD (dV 2) (dA mkT (aCons (dC (.str "<")) (aCons (dC (.str "=")) aNil)))))) (fun ρ S => leave ((fun ρ => toS ((aCons (dC (.int 1)) aNil) ρ) fun ds => .ex a.NoText ["row"] ds) (pur ρ)) S) yNil)
    (yRet (zF mkT (zCons (zD (dV 2)) (zCons (zD (dV 1)) (zCons (zZ Zr_sum (zCons (zV 0) zNil)) zNil)))))))))
noncomputable def gr_not (a : Ad) (Zt_ahead : List Z -> Sto -> RX Z) (Zt_expect : List Z -> Sto -> RX Z) (Zt_begin_part : List Z -> Sto -> RX Z) (Zr_not : List Z -> Sto -> RX Z) (Zt_enter : List Z -> Sto -> RX Z) (Zr_or : List Z -> Sto -> RX Z) (Zt_leave : List Z -> Sto -> RX Z) (Zr_comparison : List Z -> Sto -> RX Z) (b : Nat) : ZEv -> Sto -> RTZ := (ySeq (yIf (zTst tB (z2 eqSD (zMeth a.Tokens "ahead" Zt_ahead [(.int 0)] (zV 0) zNil) (zD (dC (.str "not"))))) (ySeq (yExpr (zMeth a.Tokens "expect" Zt_expect [] (zV 0) (zCons (zD (dC (.str "not"))) zNil)))
    (ySeq (yExpr (zMeth a.Tokens "begin_part" Zt_begin_part [] (zV 0) zNil))
    (yRet (zF mkT (zCons (zD (dC (.str "not"))) (zCons (zZ Zr_not (zCons (zV 0) zNil)) zNil)))))) yNil)
    (ySeq (yIf (zTst tB (z2 eqSD (zMeth a.Tokens "ahead" Zt_ahead [(.int 0)] (zV 0) zNil) (zD (dC (.str "["))))) (ySeq (yExpr (zMeth a.Tokens "enter" Zt_enter [] (zV 0) (zCons (zD (dC (.str "["))) zNil)))
    (ySeq (ySet 1 (zZ Zr_or (zCons (zV 0) zNil)))
    (ySeq (yExpr (zMeth a.Tokens "leave" Zt_leave [] (zV 0) (zCons (zD (dC (.str "]"))) zNil)))
    (yRet (zD (dV 1)))))) yNil)
    (yRet (zZ Zr_comparison (zCons (zV 0) zNil)))))
noncomputable def b1r_and (a : Ad) (Zr_not : List Z -> Sto -> RX Z) (Zt_ahead : List Z -> Sto -> RX Z) (Zt_expect : List Z -> Sto -> RX Z) (Zt_begin_part : List Z -> Sto -> RX Z) : ZEv -> Sto -> RTZ := (ySeq (yExpr (zMeth a.Tokens "expect" Zt_expect [] (zV 0) (zCons (zD (dC (.str "and"))) zNil)))
    (ySeq (yExpr (zMeth a.Tokens "begin_part" Zt_begin_part [] (zV 0) zNil))
    (ySet 1 (zF mkT (zCons (zD (dC (.str "and"))) (zCons (zD (dV 1)) (zCons (zZ Zr_not (zCons (zV 0) zNil)) zNil)))))))
noncomputable def gr_and (a : Ad) (Zr_not : List Z -> Sto -> RX Z) (Zt_ahead : List Z -> Sto -> RX Z) (Zt_expect : List Z -> Sto -> RX Z) (Zt_begin_part : List Z -> Sto -> RX Z) (b : Nat) : ZEv -> Sto -> RTZ := (ySeq (ySet 1 (zZ Zr_not (zCons (zV 0) zNil)))
    (ySeq (whileZ (zTst tB (z2 eqSD (zMeth a.Tokens "ahead" Zt_ahead [(.int 0)] (zV 0) zNil) (zD (dC (.str "and"))))) (b1r_and a Zr_not Zt_ahead Zt_expect Zt_begin_part) 100)
    (yRet (zD (dV 1)))))
noncomputable def b1r_or (a : Ad) (Zr_and : List Z -> Sto -> RX Z) (Zt_ahead : List Z -> Sto -> RX Z) (Zt_expect : List Z -> Sto -> RX Z) (Zt_begin_part : List Z -> Sto -> RX Z) : ZEv -> Sto -> RTZ := (ySeq (yExpr (zMeth a.Tokens "expect" Zt_expect [] (zV 0) (zCons (zD (dC (.str "or"))) zNil)))
    (ySeq (yExpr (zMeth a.Tokens "begin_part" Zt_begin_part [] (zV 0) zNil))
    (ySet 1 (zF mkT (zCons (zD (dC (.str "or"))) (zCons (zD (dV 1)) (zCons (zZ Zr_and (zCons (zV 0) zNil)) zNil)))))))
noncomputable def gr_or (a : Ad) (Zr_and : List Z -> Sto -> RX Z) (Zt_ahead : List Z -> Sto -> RX Z) (Zt_expect : List Z -> Sto -> RX Z) (Zt_begin_part : List Z -> Sto -> RX Z) (b : Nat) : ZEv -> Sto -> RTZ := (ySeq (ySet 1 (zZ Zr_and (zCons (zV 0) zNil)))
    (ySeq (whileZ (zTst tB (z2 eqSD (zMeth a.Tokens "ahead" Zt_ahead [(.int 0)] (zV 0) zNil) (zD (dC (.str "or"))))) (b1r_or a Zr_and Zt_ahead Zt_expect Zt_begin_part) 100)
    (yRet (zD (dV 1)))))
noncomputable def gr_to_end (a : Ad) (Zr_or : List Z -> Sto -> RX Z) (Zt_expect_end : List Z -> Sto -> RX Z) (b : Nat) : ZEv -> Sto -> RTZ := (ySeq (ySet 1 (zZ Zr_or (zCons (zV 0) zNil)))
    (ySeq (yExpr (zMeth a.Tokens "expect_end" Zt_expect_end [] (zV 0) zNil))
    (yRet (zD (dV 1)))))
noncomputable def gr_condition (a : Ad) (Zt___init : List Z -> Sto -> RX Z) (Zr_to_end : List Z -> Sto -> RX Z) (b : Nat) : ZEv -> Sto -> RTZ := (yRet (zZ Zr_to_end (zCons (zMake a.Tokens Zt___init (zCons (zD (dV 0)) zNil)) zNil)))
end WR
namespace P2
open PySem L2 PySem.Spec PySem.Calls
open PyProof.Rows hiding St
theorem law_callT {P : Program} {w : World} {K : W.Frag} {mg mb : Str -> Option Value} {CX : CXT} {k : Nat} {fa a : Addr} {fd : FuncData} {x : Str} {sp : Sp} {s₁ : Shared} {vs : List Value} {ns : List Int}
    (KX : K.In s₁.heap) (hns : s₁.heap.Ns mainGlobals mg) (hb : s₁.heap.Ns builtinsNs mb) (hbb : ∀ x : Str, x ≠ "__name__" -> mb x = bootBuiltins x) (hlim : s₁.heap.NoLimit) (hg : s₁.gens = #[])
    (ha : s₁.heap.get? a = some { cls := .type "list", data := .seq vs.toArray }) (hi : IntsAre vs ns) (hl : ns.length <= sizeLine) (hr : Room k callerA) (hT : ∀ t ∈ tabsOf K, W.CodeHd s₁.heap t.2.1 t.2.2 /\ s₁.heap.get? t.2.2 = some (W.tabObj #[])) (hN : W.noTabs K = true)
    (hB : BM mg s₁.heap)
    (F : ∀ base : Heap, K.In base -> base.Ns mainGlobals mg -> BM mg base -> FnOk P w K mg base CX k fa fd [x] sp) (hbind : ∀ (s : Shared) (u : Value), BindsTo s fd ⟨[u], []⟩ [(x, u)])
    (hsp : ∀ H : Hp, TbOk K H -> SqL K H a (ns.map V.int) -> sp [.ref a] H (fun v _ => v = .bl true) fun _ _ _ => False)
    (hCX : ∀ H e s', CX [] H s₁ (fun _ _ _ => False) e s' -> False) :
    codeAny (model P w) callerA (.call (.ref fa) ⟨[.ref a], []⟩) (fun r s' => r = .ok (.ret (.bool true)) /\ OldK s₁.heap s'.heap /\ s'.os = s₁.os /\ AllBare s'.gens) s₁ := by
  have rv := vals_ints hi
  have lenV := hi.length
  have na : ∀ t ∈ tabsOf K, t.2.2 ≠ a := fun t ht e => by
    have := (hT t ht).2
    rw [e, ha] at this
    cases this
  have nK : ∀ t ∈ tabsOf K, K.lookup t.2.2 = none := fun t ht => by
    cases q : K.lookup t.2.2 with
    | none => rfl
    | some o =>
      have e1 := KX _ _ q
      rw [(hT t ht).2] at e1
      cases e1
      have h2 := List.all_eq_true.mp hN (t.2.2, W.tabObj #[]) (W.mem_of_lookupK q)
      exact absurd (show false = true from h2) Bool.false_ne_true
  -- the heap's own view
  have core : ∀ H : Hp, (∀ b, H b = none \/ (∃ o xs, H b = some (.frz o (.lst xs)) /\ b = a /\ K.lookup a = none) \/ ∃ t ∈ tabsOf K, b = t.2.2 /\ H b = some (.tbl #[])) -> (∀ t ∈ tabsOf K, H t.2.2 = some (.tbl #[])) -> SqL K H a (ns.map V.int) -> HOk P w H s₁.heap ->
      codeAny (model P w) callerA (.call (.ref fa) ⟨[.ref a], []⟩) (fun r s' => r = .ok (.ret (.bool true)) /\ OldK s₁.heap s'.heap /\ s'.os = s₁.os /\ AllBare s'.gens) s₁ := by
    intro H hO hTb hS hok
    have base_of : ∀ {b : Addr} {o : Obj}, s₁.heap.get? b = some o -> H b = none -> (hidT s₁.heap H).get? b = some o := fun e n => hidT_get e n
    have noA : ∀ {b : Addr} {o : Obj} {es : Array DictEntry} {ep : Nat}, s₁.heap.get? b = some o -> o.data = .dict es ep -> H b = none := fun {b o es ep} e d => by
      rcases hO b with z | ⟨ob, xs, z, e', _⟩ | ⟨t, ht, e', z⟩
      · exact z
      · subst e'
        rw [ha] at e; cases e
        have d' : Data.seq vs.toArray _ = Data.dict es ep := d
        cases d'
      · subst e'
        rw [(hT t ht).2] at e; cases e
        have d' : Data.fields #[] = Data.dict es ep := d
        cases d'
    have nsK : ∀ {b : Addr} {m : Str -> Option Value}, s₁.heap.Ns b m -> (hidT s₁.heap H).Ns b m := fun {b m} ⟨o, es, ep, e, d, r⟩ => ⟨o, es, ep, base_of e (noA e d), d, r⟩
    have hKb : K.In (hidT s₁.heap H) := fun b o e => base_of (KX b o e) (by
      rcases hO b with z | ⟨ob, xs, z, e', hk⟩ | ⟨t, ht, e', z⟩
      · exact z
      · subst e'; rw [hk] at e; cases e
      · subst e'; rw [nK t ht] at e; cases e)
    have hBb : BM mg (hidT s₁.heap H) := by
      obtain ⟨bm, ob, b1, b2, b3, b4, b5, b6⟩ := hB
      refine ⟨bm, ob, b1, b2, base_of b3 ?_, b4, b5, b6⟩
      rcases hO bm with z | ⟨o2, xs, z, e', _⟩ | ⟨t, ht, e', z⟩
      · exact z
      · subst e'; rw [ha] at b3; cases b3; cases b6
      · subst e'; rw [(hT t ht).2] at b3; cases b3; cases b6
    have hM : Mod K mg (hidT s₁.heap H) := ⟨hKb, nsK hns, ⟨mb, nsK hb, hbb⟩, let ⟨mc, h1, h2⟩ := hlim; ⟨mc, nsK h1, h2⟩⟩
    have e0 : Env0 P w K mg (hidT s₁.heap H) callerA [] s₁ H := ⟨rfl, hM, fun b o e => of_hidT e, Nat.le_of_eq (hidT_size _ _), trivial, fun b hb => absurd (show b ∈ ([] : List Addr) from hb) (by simp), hok, .of_eq hg⟩
    have tb : TbOk K H := fun t ht => ⟨#[], hTb t ht, trivial, fun pos cv e => by cases e⟩
    refine codeAny_mono ((F _ hKb (nsK hns) hBb).run callerA [] s₁ H ⟨[.ref a], []⟩ [.ref a] [.ref a] _ _ hr e0 (hbind s₁ (.ref a)) (.cons rfl .nil) (hsp H tb hS)) fun r s' h => ?_
    cases r with
    | error e => exact (hCX H e s' h).elim
    | ok fl =>
      cases fl with
      | next => exact False.elim h
      | brk => exact False.elim h
      | cont => exact False.elim h
      | ret u =>
        obtain ⟨v, H', os, bare, un, hok', r', q⟩ := h
        have q' : v = .bl true := q
        subst q'
        obtain rfl : u = Value.bool true := r'
        have kept : ∀ b o, s₁.heap.get? b = some o -> s'.heap.get? b = some o \/ ∃ t ∈ tabsOf K, b = t.2.2 /\ ∃ ps, s'.heap.get? b = some (W.tabObj ps) := fun b o e => by
          rcases hO b with z | ⟨ob, xs, z, _⟩ | ⟨t, ht, e', z⟩
          · exact .inl (un.keep b o e z (by intro y; exact absurd (show b ∈ ([] : List Addr) from y) (by simp)) (by simp))
          · have z2 := un.frzs b ob _ z
            obtain ⟨e1, _⟩ := hok b _ z
            obtain ⟨e2, _⟩ := hok' b _ z2
            rw [e] at e1; cases e1
            exact .inl e2
          · obtain ⟨more, z2⟩ := un.tbls b #[] z
            have e2 : s'.heap.get? b = some { cls := .none, data := .fields (#[] ++ more) } := hok' b _ z2
            exact .inr ⟨t, ht, e', _, e2⟩
        refine ⟨rfl, ⟨fun b o e => ?_, fun b o e => ?_⟩, os, bare⟩
        · rcases kept b o e with z | ⟨t, ht, e', ps, z⟩
          · exact .inl z
          · subst e'
            have e2 := (hT t ht).2
            rw [e] at e2
            cases e2
            exact .inr (.inl ⟨((hT t ht).1.tab (hT t ht).2).isCodeTable, rfl, #[], ps, rfl, by rw [Array.empty_append]; exact z⟩)
        · rcases kept b o e with z | ⟨_, _, _, ps, z⟩
          · exact ⟨o, z⟩
          · exact ⟨_, z⟩
  have nz : ¬ ∃ t ∈ tabsOf K, a = t.2.2 := fun ⟨t, ht, e⟩ => na t ht e.symm
  have tbl : ∀ (H : Hp) (b : Addr), (∃ t ∈ tabsOf K, b = t.2.2) -> ObjOk P w H s₁.heap b (.tbl #[]) := fun H b ⟨t, ht, e⟩ => by subst e; exact (hT t ht).2
  cases hk : K.lookup a with
  | some o =>
    have e := KX a o hk
    rw [ha] at e
    cases e
    refine core (fun b => if (∃ t ∈ tabsOf K, b = t.2.2) then some (.tbl #[]) else none) (fun b => ?_) (fun t ht => if_pos ⟨t, ht, rfl⟩) (.inr ⟨_, vs.toArray, _, hk, rfl, rfl, rfl, by rw [List.size_toArray, lenV]; exact hl, by simpa using rv⟩) (fun b u e => ?_)
    · by_cases z : ∃ t ∈ tabsOf K, b = t.2.2
      · obtain ⟨t, ht, e⟩ := z
        exact .inr (.inr ⟨t, ht, e, if_pos ⟨t, ht, e⟩⟩)
      · exact .inl (if_neg z)
    · by_cases z : ∃ t ∈ tabsOf K, b = t.2.2
      · have e' := (if_pos z).symm.trans e
        cases e'
        exact tbl _ b z
      · have e' := (if_neg z).symm.trans e
        cases e'
  | none =>
    refine core (fun b => if (∃ t ∈ tabsOf K, b = t.2.2) then some (.tbl #[]) else if b = a then some (.frz { cls := .type "list", data := .seq vs.toArray } (.lst (ns.map V.int))) else none) (fun b => ?_) (fun t ht => if_pos ⟨t, ht, rfl⟩) (.inl (.inr ⟨{ cls := .type "list", data := .seq vs.toArray }, (if_neg nz).trans (if_pos rfl)⟩)) (fun b u e => ?_)
    · by_cases z : ∃ t ∈ tabsOf K, b = t.2.2
      · obtain ⟨t, ht, e⟩ := z
        exact .inr (.inr ⟨t, ht, e, if_pos ⟨t, ht, e⟩⟩)
      · by_cases y : b = a
        · exact .inr (.inl ⟨_, _, (if_neg z).trans (if_pos y), y, hk⟩)
        · exact .inl ((if_neg z).trans (if_neg y))
    · by_cases z : ∃ t ∈ tabsOf K, b = t.2.2
      · have e' := (if_pos z).symm.trans e
        cases e'
        exact tbl _ b z
      · by_cases y : b = a
        · have e' := ((if_neg z).trans (if_pos y)).symm.trans e
          cases e'
          subst y
          exact ⟨ha, by rw [List.length_map]; exact hl, vs, _, rv, ha⟩
        · have e' := ((if_neg z).trans (if_neg y)).symm.trans e
          cases e'
theorem tabs_of {p : Program} {loose : List Str} {mean : ExcName -> Option Value} {mg mb : Str -> Option Value} {h : Heap} {K : W.Frag} (T : Top p loose mean mg mb h) (X : K.In h) (hq : (tabsOf K).all (fun t => ((recsOf p).find? fun e => e.name == t.1).isSome) = true) :
    ∀ t ∈ tabsOf K, W.CodeHd h t.2.1 t.2.2 /\ h.get? t.2.2 = some (W.tabObj #[]) := fun t ht => by
  have h1 := List.all_eq_true.mp hq t ht
  obtain ⟨d, hd⟩ := Option.isSome_iff_exists.mp h1
  unfold tabsOf at ht
  obtain ⟨x, _, e⟩ := List.mem_filterMap.mp ht
  split at e
  · obtain ⟨q, e1, e2⟩ := Option.map_eq_some_iff.mp e
    subst e2
    exact W.tab_of T X hd e1
  · cases e
end P2
namespace P2
open PySem L2
section
variable {X : Cx} {E : XK}
theorem vals_rep {xs : List V} {its : List Value} (r : Vals xs its) : ∀ k : Nat, Vals (List.replicate k xs).flatten (List.replicate k its).flatten
  | 0 => .nil
  | k + 1 => by rw [List.replicate_succ, List.replicate_succ, List.flatten_cons, List.flatten_cons]; exact r.append (vals_rep r k)
theorem Reps.rep {K : W.Frag} {al : Addr -> Prop} {H : Hp} {vs : List V} {ds : List D} (r : Reps K al H vs ds) : ∀ k : Nat, Reps K al H (List.replicate k vs).flatten (List.replicate k ds).flatten
  | 0 => .nil
  | k + 1 => by rw [List.replicate_succ, List.replicate_succ, List.flatten_cons, List.flatten_cons]; exact r.append (Reps.rep r k)
theorem op_repR : OpR X (binaryOp .Mult) (fun x y H Q => ∃ l k xs, x = .ref l /\ y = .int k /\ SqF X.K H l xs /\ 0 <= k /\ k <= 1000 /\ xs.length <= 1000 /\ ∀ p, H p = none -> Q (.ref p) (upd H p (.lst (List.replicate k.toNat xs).flatten))) := by
  intro pins s σ H x y v u Q I rx ry h
  obtain ⟨l, k, xs, rfl, rfl, hH, h1, h2, h3, q⟩ := h
  cases rx
  obtain ⟨t, rfl⟩ := ry
  obtain ⟨its, n, r, e⟩ := hH.is I
  have hl := r.length
  have hm : its.length * k.toNat <= 1000 * 1000 := Nat.mul_le_mul (by omega) (by omega)
  refine wpAny_binaryOp_repeat_ref (T := "list") (U := "int") (by decide) ⟨_, e, rfl⟩ (fun s' => typeIs_int s' k t) noFill_list_mul F.fills_int_mul F.slot_int_rmul repeat_list F.slot_int_index.lookup
    (call_meets F.slot_int_rmul (typeIs_int s k t) F.entry_int_rmul (F.args_int_rmul_2 _ _) (int___rmul___int_list k t l its.toArray n)
      ⟨e, rfl, ⟨_, e, rfl⟩, call_meets F.slot_list_mul ⟨_, e, rfl⟩ F.entry_list_mul (F.args_list_mul_2 _ _)
        (AutoListH.list___mul___list_int_3 l its.toArray n k t (by simp [Builtin.List.listFitsIndex]; omega) (by rw [List.size_toArray]; omega) (by rw [List.size_toArray]; simp only [Builtin.List.listTooLong, sizeLine]; simp; omega))
        ⟨e, ?_⟩⟩)
  have ea : List.foldl (fun x1 x2 => x1 ++ x2) #[] (List.replicate (if its.toArray.isEmpty = true then 0 else k.toNat) its.toArray) = (List.replicate k.toNat its).flatten.toArray := by
    have f0 : ∀ m : Nat, List.foldl (fun x1 x2 => x1 ++ x2) #[] (List.replicate m its.toArray) = (List.replicate m its).flatten.toArray := fun m => by
      have := PyProof.Rows.listMul_foldl its.toArray m #[]
      simpa using this
    rw [f0]
    cases its with
    | nil => simp
    | cons i r => simp
  rw [ea]
  have hz : (List.replicate k.toNat xs).flatten.length <= sizeLine := by
    rw [len_rep]
    have : k.toNat * xs.length <= 1000 * 1000 := Nat.mul_le_mul (by omega) (by omega)
    have : (1000000 : Nat) <= sizeLine := by decide
    omega
  exact ⟨.ref _, _, I.lnew (t' := s.toks) (vals_rep r k.toNat) (by have := (vals_rep r k.toNat).length; omega), rfl, q _ I.fresh⟩
noncomputable def mulLD : D -> D -> R D
  | .lst xs, .int k => if 0 <= k /\ k <= 1000 /\ xs.length <= 1000 then .ok (.lst (List.replicate k.toNat xs).flatten) else .bad
  | x, y => mulUD x y
theorem op_mulLD : OpD X E (binaryOp .Mult) mulLD := by
  obtain ⟨r0, o0, d0⟩ := op_mulUD (X := X) (E := E)
  refine ⟨_, opr_or op_repR o0, fun al H x y dx dy Q fr rx ry h => ?_⟩
  unfold mulLD at h
  split at h
  · split at h
    · rename_i z
      obtain ⟨a, vs, rfl, h1, h2⟩ := rx.lstRd
      cases ry
      exact .inl ⟨a, _, vs, rfl, rfl, h1, z.1, z.2.1, by rw [h2.length]; exact z.2.2, fun p hp => h _ (same_upd hp) _ ((h2.rep _).lstNew hp (fr p hp))⟩
    · exact h.elim
  · exact .inr (d0 _ _ _ _ _ _ _ fr rx ry h)
end
end P2
namespace W34
open PySem L2 P2 WP WR
noncomputable def at_ (i : Nat) : Stmt := PySem.Challenge.pw_weather_k34_no_condition.main.body.getD i (.Pass ⟨0, 0, 0, 0⟩)
noncomputable abbrev st___init : Stmt := inClass (at_ 33) 0
noncomputable abbrev st_ahead : Stmt := inClass (at_ 33) 1
noncomputable abbrev st_take : Stmt := inClass (at_ 33) 2
noncomputable abbrev st_expect : Stmt := inClass (at_ 33) 3
noncomputable abbrev st_expect_end : Stmt := inClass (at_ 33) 4
noncomputable abbrev st_begin_part : Stmt := inClass (at_ 33) 5
noncomputable abbrev st_enter : Stmt := inClass (at_ 33) 6
noncomputable abbrev st_leave : Stmt := inClass (at_ 33) 7
noncomputable abbrev s_only_figures : Stmt := at_ 9
noncomputable abbrev s_is_number : Stmt := at_ 10
noncomputable abbrev sr_whole : Stmt := at_ 11
noncomputable abbrev s_fraction : Stmt := at_ 16
noncomputable abbrev s_is_whole : Stmt := at_ 17
noncomputable abbrev s_common_divisor : Stmt := at_ 18
noncomputable abbrev s_show_fraction : Stmt := at_ 19
noncomputable abbrev sr_fraction : Stmt := at_ 20
noncomputable abbrev sr_small_fraction : Stmt := at_ 21
noncomputable abbrev s_is_word : Stmt := at_ 26
noncomputable abbrev sr_word : Stmt := at_ 27
noncomputable abbrev s_split_row : Stmt := at_ 32
noncomputable abbrev sr_condition : Stmt := at_ 36
noncomputable abbrev sr_to_end : Stmt := at_ 37
noncomputable abbrev sr_or : Stmt := at_ 38
noncomputable abbrev sr_and : Stmt := at_ 39
noncomputable abbrev sr_not : Stmt := at_ 40
noncomputable abbrev sr_comparison : Stmt := at_ 41
noncomputable abbrev sr_sum : Stmt := at_ 42
noncomputable abbrev sr_product : Stmt := at_ 43
noncomputable abbrev sr_single : Stmt := at_ 44
noncomputable abbrev sr_bracketed : Stmt := at_ 45
noncomputable abbrev sl_cell_at : Stmt := at_ 47
noncomputable abbrev sl_single : Stmt := at_ 48
noncomputable abbrev sl_compared : Stmt := at_ 49
noncomputable abbrev sl_bad_terms : Stmt := at_ 50
noncomputable abbrev sl_bad_words : Stmt := at_ 51
noncomputable abbrev sl_within : Stmt := at_ 52
noncomputable abbrev sl_sum : Stmt := at_ 53
noncomputable abbrev sl_nots : Stmt := at_ 54
noncomputable abbrev sl_good : Stmt := at_ 55
noncomputable abbrev sl_alike : Stmt := at_ 56
noncomputable abbrev sl_refused : Stmt := at_ 57
noncomputable abbrev s_law : Stmt := at_ 58
structure Tx (K : W.Frag) (mg : Str -> Option Value) (a : Ad) : Prop where
  b_ValueError : mg "ValueError" = none
  b_abs : mg "abs" = none
  b_all : mg "all" = none
  b_any : mg "any" = none
  b_bool : mg "bool" = none
  b_int : mg "int" = none
  b_isinstance : mg "isinstance" = none
  b_len : mg "len" = none
  b_range : mg "range" = none
  b_str : mg "str" = none
  b_tuple : mg "tuple" = none
  g_FIGURES : GlV mg "FIGURES" (.str "0123456789")
  g_MOST_FIGURES : GlV mg "MOST_FIGURES" (.int 60)
  g_TOP_BOUND : GlV mg "TOP_BOUND" (.int 1000000000)
  g_BOTTOM_BOUND : GlV mg "BOTTOM_BOUND" (.int 1000000)
  g_LETTERS : GlV mg "LETTERS" (.str "abcdefghijklmnopqrstuvwxyz")
  g_MOST_LETTERS : GlV mg "MOST_LETTERS" (.int 8)
  g_KEY_WORDS : GlT K mg "KEY_WORDS" [(.str "mark"), (.str "fill"), (.str "here"), (.str "back"), (.str "on"), (.str "at"), (.str "ago"), (.str "until"), (.str "abs"), (.str "and"), (.str "or"), (.str "not")]
  g_RUN_SIGNS : GlV mg "RUN_SIGNS" (.str "abcdefghijklmnopqrstuvwxyz0123456789/")
  g_MOST_PARTS : GlV mg "MOST_PARTS" (.int 30)
  g_MOST_BRACKETS : GlV mg "MOST_BRACKETS" (.int 16)
  g_LAST_PLACE : GlV mg "LAST_PLACE" (.int 9)
  c_WeatherError : mg "WeatherError" = some (.ref a.WeatherError)
  c_NoFraction : mg "NoFraction" = some (.ref a.NoFraction)
  c_NoText : mg "NoText" = some (.ref a.NoText)
  c_Twice : mg "Twice" = some (.ref a.Twice)
  c_TooMany : mg "TooMany" = some (.ref a.TooMany)
  c_NoRow : mg "NoRow" = some (.ref a.NoRow)
  c_Tokens : mg "Tokens" = some (.ref a.Tokens)
  x_row : XCls K a.NoText a.fI_row "row"
  z_WeatherError : ZCls K a.WeatherError
  z_NoFraction : ZCls K a.NoFraction
  y_NoText : YCls K a.NoText
  y_WeatherError : YCls K a.WeatherError
  k_Tokens : Cls K a.Tokens
  n_Tokens_tokens : NoAttr K a.Tokens "tokens"
  n_Tokens_place : NoAttr K a.Tokens "place"
  n_Tokens_parts : NoAttr K a.Tokens "parts"
  n_Tokens_brackets : NoAttr K a.Tokens "brackets"
  isok : IsOk K a.isx
section
variable {P : Program} {w : World} {K : W.Frag} {mg : Str -> Option Value} {base : Heap} {f : Addr} {fd : FuncData} {fdI_row : FuncData}
variable {F_common_divisor F_fraction F_is_number F_is_whole F_is_word Fl_alike Fl_bad_terms Fl_bad_words Fl_cell_at Fl_compared Fl_good Fl_nots Fl_refused Fl_single Fl_sum Fl_within F_only_figures Fr_condition Fr_fraction Fr_small_fraction Fr_whole Fr_word F_show_fraction F_split_row : List D -> R D} {Zt___init Zt_ahead Zt_begin_part Zt_enter Zt_expect Zt_expect_end Zt_leave Zt_take Zr_and Zr_bracketed Zr_comparison Zr_not Zr_or Zr_product Zr_single Zr_sum Zr_to_end : List Z -> Sto -> RX Z}
local macro_rules | `(tactic| walk_at "sc") => `(tactic| exact ⟨rfl, rfl, rfl, by decide +kernel, rfl, by decide +kernel, by decide +kernel⟩)
theorem sc_split_row : FnScope ["text", "parted"] ["text"] (defScope s_split_row) := by walk_at "sc"
theorem ok_split_row {a : Ad} (T : Tx K mg a) (F : Fun K "split_row" "split_row" s_split_row f fd) :
    FnOk P w K mg base (CXx P w) 1 f fd ["text"] (spD 1 K fun ds => finT (g_split_row a (startD 2 ds))) :=
  fn_den F sc_split_row fun cdv A outer s H E hr => (dss_cons (ds_setU 1 sc_split_row.nd rfl (Or.inl rfl) (dnu_comp0 (Nt := ["sign"]) (tn := 1) rfl (di_any (de_var 0)) (fun _ _ _ _ => (dg_name 0 (show List.Nodup (["sign"] : List Str) from by decide +kernel) rfl (Or.inl rfl))) (by simp) (fun _ _ _ _ => df_nil) (fun _ _ _ _ => (de_if (dt_cmp op_inSD (de_var 0) (de_gl rfl T.g_RUN_SIGNS)) (de_var 0) (de_join (dj_cons de_str (dj_cons (de_fmt (de_var 0)) (dj_cons de_str dj_nil)))))) (by decide +kernel) rfl (by decide +kernel) (by decide +kernel) rfl))
    (dss_one (ds_ret (DN.de (dn_comp0 (Nt := ["token"]) (tn := 1) rfl (di_any (de_bm PySem.F.plainAttrs_str PySem.F.slot_str_split PySem.F.type_str_split mt_splitD (de_bm PySem.F.plainAttrs_str PySem.F.slot_str_join PySem.F.type_str_join mt_joinD de_str (da_cons (de_var 1) da_nil)) (da_cons de_str da_nil))) (fun _ _ _ _ => (dg_name 0 (show List.Nodup (["token"] : List Str) from by decide +kernel) rfl (Or.inl rfl))) (by simp) (fun _ _ _ _ => df_one (dt_cmp op_neSD (de_var 0) de_str)) (fun _ _ _ _ => (de_var 0)) (by decide +kernel) rfl (by decide +kernel) (by decide +kernel) rfl)))))
theorem sct___init : FnScope ["self", "text"] ["self", "text"] (defScope st___init) := by walk_at "sc"
theorem okt___init {a : Ad} {dV : Value} (T : Tx K mg a) (F : FunD K "__init__" "Tokens.__init__" st___init dV f fd)
    (h_split_row : Has P w K mg base (CXx P w) 1 "split_row" ["text"] (spD 1 K F_split_row)) :
    FnOk P w K mg base (CXx P w) 2 f fd ["self", "text"] (spZ 2 K fun zs S => finZ (gt___init a F_split_row S.length (startZ 2 zs) S)) :=
  fn_denM F sct___init fun b cdv A outer s H E hr => (zss_cons (zs_fld T.k_Tokens T.n_Tokens_tokens (ze_var 0) (ze_lift (de_call h_split_row hr rfl passX rfl (da_cons (de_var 1) da_nil))))
    (zss_cons (zs_fld T.k_Tokens T.n_Tokens_place (ze_var 0) (ze_lift de_int))
    (zss_cons (zs_fld T.k_Tokens T.n_Tokens_parts (ze_var 0) (ze_lift de_int))
    (zss_one (zs_fld T.k_Tokens T.n_Tokens_brackets (ze_var 0) (ze_lift de_int))))))
theorem sct_ahead : FnScope ["self", "places", "place"] ["self", "places"] (defScope st_ahead) := by walk_at "sc"
theorem okt_ahead {a : Ad} {dV : Value} (T : Tx K mg a) (F : FunD K "ahead" "Tokens.ahead" st_ahead dV f fd) :
    FnOk P w K mg base (CXx P w) 1 f fd ["self", "places"] (spZ 2 K fun zs S => finZ (gt_ahead a S.length (startZ 3 zs) S)) :=
  fn_denM F sct_ahead fun b cdv A outer s H E hr => (zss_cons (zs_set 2 sct_ahead.nd rfl (Or.inl rfl) (ze_op op_addD (ze_fld T.k_Tokens T.n_Tokens_place (ze_var 0)) (ze_lift (de_var 1))))
    (zss_one (zs_ret (ze_if (zt_cmp op_ltD (ze_lift (de_var 2)) (ze_callB call_lenD rfl T.b_len bt_len (za_cons (ze_fld T.k_Tokens T.n_Tokens_tokens (ze_var 0)) za_nil))) (ze_ix ix_D (ze_fld T.k_Tokens T.n_Tokens_tokens (ze_var 0)) (ze_lift (de_var 2))) (ze_lift de_str)))))
theorem sct_take : FnScope ["self", "token"] ["self"] (defScope st_take) := by walk_at "sc"
theorem okt_take {a : Ad} {dV : Value} (T : Tx K mg a) (F : FunD K "take" "Tokens.take" st_take dV f fd)
    (hi_row : FnOk P w K mg base CX0 1 a.fI_row fdI_row ["self", "row"] (spXI a.NoText "row")) (bi_row : Binds K fdI_row ["self", "row"] [])
    (h1t_ahead : HasM P w K mg base 2 a.Tokens "ahead" ["self", "places"] [(.int 0)] (spZ 2 K Zt_ahead)) :
    FnOk P w K mg base (CXx P w) 3 f fd ["self"] (spZ 1 K fun zs S => finZ (gt_take a Zt_ahead S.length (startZ 2 zs) S)) :=
  fn_denM F sct_take fun b cdv A outer s H E hr => (zss_cons (zs_set 1 sct_take.nd rfl (Or.inl rfl) (ze_meth0 h1t_ahead T.k_Tokens hr passX (ze_var 0) rfl))
    (zss_cons (zs_if (zt_lift (dt_cmp op_eqSD (de_var 1) de_str)) (zss_one (zs_lift (ds_raiseI (x := "NoText") T.x_row hi_row bi_row (hr.mono (by decide)) rfl T.c_NoText (da_cons de_int da_nil)))) zss_nil)
    (zss_cons (zs_fldaug in_addF T.k_Tokens T.n_Tokens_place (ze_var 0) (ze_lift de_int))
    (zss_one (zs_ret (ze_lift (de_var 1)))))))
theorem sct_expect : FnScope ["self", "token"] ["self", "token"] (defScope st_expect) := by walk_at "sc"
theorem okt_expect {a : Ad} {dV : Value} (T : Tx K mg a) (F : FunD K "expect" "Tokens.expect" st_expect dV f fd)
    (hi_row : FnOk P w K mg base CX0 1 a.fI_row fdI_row ["self", "row"] (spXI a.NoText "row")) (bi_row : Binds K fdI_row ["self", "row"] [])
    (ht_take : HasM P w K mg base 3 a.Tokens "take" ["self"] [] (spZ 1 K Zt_take)) :
    FnOk P w K mg base (CXx P w) 4 f fd ["self", "token"] (spZ 2 K fun zs S => finZ (gt_expect a Zt_take S.length (startZ 2 zs) S)) :=
  fn_denM F sct_expect fun b cdv A outer s H E hr => (zss_one (zs_if (zt_cmp op_neSD (ze_meth0 ht_take T.k_Tokens hr passX (ze_var 0) rfl) (ze_lift (de_var 1))) (zss_one (zs_lift (ds_raiseI (x := "NoText") T.x_row hi_row bi_row (hr.mono (by decide)) rfl T.c_NoText (da_cons de_int da_nil)))) zss_nil))
theorem sct_expect_end : FnScope ["self"] ["self"] (defScope st_expect_end) := by walk_at "sc"
theorem okt_expect_end {a : Ad} {dV : Value} (T : Tx K mg a) (F : FunD K "expect_end" "Tokens.expect_end" st_expect_end dV f fd)
    (hi_row : FnOk P w K mg base CX0 1 a.fI_row fdI_row ["self", "row"] (spXI a.NoText "row")) (bi_row : Binds K fdI_row ["self", "row"] [])
    (h1t_ahead : HasM P w K mg base 2 a.Tokens "ahead" ["self", "places"] [(.int 0)] (spZ 2 K Zt_ahead)) :
    FnOk P w K mg base (CXx P w) 3 f fd ["self"] (spZ 1 K fun zs S => finZ (gt_expect_end a Zt_ahead S.length (startZ 1 zs) S)) :=
  fn_denM F sct_expect_end fun b cdv A outer s H E hr => (zss_one (zs_if (zt_cmp op_neSD (ze_meth0 h1t_ahead T.k_Tokens hr passX (ze_var 0) rfl) (ze_lift de_str)) (zss_one (zs_lift (ds_raiseI (x := "NoText") T.x_row hi_row bi_row (hr.mono (by decide)) rfl T.c_NoText (da_cons de_int da_nil)))) zss_nil))
theorem sct_begin_part : FnScope ["self"] ["self"] (defScope st_begin_part) := by walk_at "sc"
theorem okt_begin_part {a : Ad} {dV : Value} (T : Tx K mg a) (F : FunD K "begin_part" "Tokens.begin_part" st_begin_part dV f fd)
    (hi_row : FnOk P w K mg base CX0 1 a.fI_row fdI_row ["self", "row"] (spXI a.NoText "row")) (bi_row : Binds K fdI_row ["self", "row"] []) :
    FnOk P w K mg base (CXx P w) 3 f fd ["self"] (spZ 1 K fun zs S => finZ (gt_begin_part a S.length (startZ 1 zs) S)) :=
  fn_denM F sct_begin_part fun b cdv A outer s H E hr => (zss_cons (zs_fldaug in_addF T.k_Tokens T.n_Tokens_parts (ze_var 0) (ze_lift de_int))
    (zss_one (zs_if (zt_cmp op_gtD (ze_fld T.k_Tokens T.n_Tokens_parts (ze_var 0)) (ze_lift (de_gl rfl T.g_MOST_PARTS))) (zss_one (zs_lift (ds_raiseI (x := "NoText") T.x_row hi_row bi_row (hr.mono (by decide)) rfl T.c_NoText (da_cons de_int da_nil)))) zss_nil)))
theorem sct_enter : FnScope ["self", "bracket"] ["self", "bracket"] (defScope st_enter) := by walk_at "sc"
theorem okt_enter {a : Ad} {dV : Value} (T : Tx K mg a) (F : FunD K "enter" "Tokens.enter" st_enter dV f fd)
    (hi_row : FnOk P w K mg base CX0 1 a.fI_row fdI_row ["self", "row"] (spXI a.NoText "row")) (bi_row : Binds K fdI_row ["self", "row"] [])
    (ht_expect : HasM P w K mg base 4 a.Tokens "expect" ["self", "token"] [] (spZ 2 K Zt_expect)) :
    FnOk P w K mg base (CXx P w) 5 f fd ["self", "bracket"] (spZ 2 K fun zs S => finZ (gt_enter a Zt_expect S.length (startZ 2 zs) S)) :=
  fn_denM F sct_enter fun b cdv A outer s H E hr => (zss_cons (zs_expr (ze_meth ht_expect T.k_Tokens hr passX (ze_var 0) (za_cons (ze_lift (de_var 1)) za_nil) rfl))
    (zss_cons (zs_fldaug in_addF T.k_Tokens T.n_Tokens_brackets (ze_var 0) (ze_lift de_int))
    (zss_one (zs_if (zt_cmp op_gtD (ze_fld T.k_Tokens T.n_Tokens_brackets (ze_var 0)) (ze_lift (de_gl rfl T.g_MOST_BRACKETS))) (zss_one (zs_lift (ds_raiseI (x := "NoText") T.x_row hi_row bi_row (hr.mono (by decide)) rfl T.c_NoText (da_cons de_int da_nil)))) zss_nil))))
theorem sct_leave : FnScope ["self", "bracket"] ["self", "bracket"] (defScope st_leave) := by walk_at "sc"
theorem okt_leave {a : Ad} {dV : Value} (T : Tx K mg a) (F : FunD K "leave" "Tokens.leave" st_leave dV f fd)
    (ht_expect : HasM P w K mg base 4 a.Tokens "expect" ["self", "token"] [] (spZ 2 K Zt_expect)) :
    FnOk P w K mg base (CXx P w) 5 f fd ["self", "bracket"] (spZ 2 K fun zs S => finZ (gt_leave a Zt_expect S.length (startZ 2 zs) S)) :=
  fn_denM F sct_leave fun b cdv A outer s H E hr => (zss_cons (zs_expr (ze_meth ht_expect T.k_Tokens hr passX (ze_var 0) (za_cons (ze_lift (de_var 1)) za_nil) rfl))
    (zss_one (zs_fldaug in_subF T.k_Tokens T.n_Tokens_brackets (ze_var 0) (ze_lift de_int))))
theorem sc_only_figures : FnScope ["text"] ["text"] (defScope s_only_figures) := by walk_at "sc"
theorem ok_only_figures {a : Ad} (T : Tx K mg a) (F : Fun K "only_figures" "only_figures" s_only_figures f fd) :
    FnOk P w K mg base (CXx P w) 1 f fd ["text"] (spD 1 K fun ds => finT (g_only_figures a (startD 1 ds))) :=
  fn_den F sc_only_figures fun cdv A outer s H E hr => (dss_one (ds_ret (de_and (de_cmp op_neSD (de_var 0) de_str) (de_one (de_callB (call_allD rfl) rfl T.b_all bt_all (da_cons (DN.de (dn_comp0 (Nt := ["sign"]) (tn := 1) rfl (di_any (de_var 0)) (fun _ _ _ _ => (dg_name 0 (show List.Nodup (["sign"] : List Str) from by decide +kernel) rfl (Or.inl rfl))) (by simp) (fun _ _ _ _ => df_nil) (fun _ _ _ _ => (de_cmp op_inSD (de_var 0) (de_gl rfl T.g_FIGURES))) (by decide +kernel) rfl (by decide +kernel) (by decide +kernel) rfl)) da_nil))))))
theorem sc_is_number : FnScope ["text", "most_figures"] ["text", "most_figures"] (defScope s_is_number) := by walk_at "sc"
theorem ok_is_number {a : Ad} (T : Tx K mg a) (F : Fun K "is_number" "is_number" s_is_number f fd)
    (h_only_figures : Has P w K mg base (CXx P w) 1 "only_figures" ["text"] (spD 1 K F_only_figures)) :
    FnOk P w K mg base (CXx P w) 2 f fd ["text", "most_figures"] (spD 2 K fun ds => finT (g_is_number a F_only_figures (startD 2 ds))) :=
  fn_den F sc_is_number fun cdv A outer s H E hr => (dss_cons (ds_if (DW.dt (dw_or (dt_cmp op_gtD (de_callB call_lenD rfl T.b_len bt_len (da_cons (de_var 0) da_nil)) (de_var 1)) (dw_or1 (dt_not (dt_truth (de_call h_only_figures hr rfl passX rfl (da_cons (de_var 0) da_nil))))))) (dss_one (ds_ret de_bl)) dss_nil)
    (dss_one (ds_ret (de_or (de_cmp op_eqSD (de_var 0) de_str) (de_one (de_not (de_bm PySem.F.plainAttrs_str PySem.F.slot_str_startswith PySem.F.type_str_startswith mt_startsD (de_var 0) (da_cons de_str da_nil))))))))
theorem scr_whole : FnScope ["text", "least", "most", "number"] ["text", "least", "most"] (defScope sr_whole) := by walk_at "sc"
theorem okr_whole {a : Ad} (T : Tx K mg a) (F : Fun K "read_whole" "read_whole" sr_whole f fd)
    (hi_row : FnOk P w K mg base CX0 1 a.fI_row fdI_row ["self", "row"] (spXI a.NoText "row")) (bi_row : Binds K fdI_row ["self", "row"] [])
    (h_is_number : Has P w K mg base (CXx P w) 2 "is_number" ["text", "most_figures"] (spD 2 K F_is_number)) :
    FnOk P w K mg base (CXx P w) 3 f fd ["text", "least", "most"] (spD 3 K fun ds => finT (gr_whole a F_is_number (startD 4 ds))) :=
  fn_den F scr_whole fun cdv A outer s H E hr => (dss_cons (ds_if (dt_not (dt_truth (de_call h_is_number hr rfl passX rfl (da_cons (de_var 0) (da_cons (de_callB call_lenD rfl T.b_len bt_len (da_cons (de_callTy call_strD rfl T.b_str bt_str (da_cons (de_var 2) da_nil)) da_nil)) da_nil))))) (dss_one (ds_raiseI T.x_row hi_row bi_row (hr.mono (by decide)) rfl T.c_NoText (da_cons de_int da_nil))) dss_nil)
    (dss_cons (ds_set 3 scr_whole.nd rfl (Or.inl rfl) (de_callTy call_intD rfl T.b_int bt_int (da_cons (de_var 0) da_nil)))
    (dss_cons (ds_if (DW.dt (dw_or (dt_cmp op_ltD (de_var 3) (de_var 1)) (dw_or1 (dt_cmp op_gtD (de_var 3) (de_var 2))))) (dss_one (ds_raiseI T.x_row hi_row bi_row (hr.mono (by decide)) rfl T.c_NoText (da_cons de_int da_nil))) dss_nil)
    (dss_one (ds_ret (de_var 3))))))
theorem sc_common_divisor : FnScope ["one", "other", "rest"] ["one", "other"] (defScope s_common_divisor) := by walk_at "sc"
theorem ok_common_divisor {a : Ad} (T : Tx K mg a) (F : Fun K "common_divisor" "common_divisor" s_common_divisor f fd) :
    FnOk P w K mg base (CXx P w) 1 f fd ["one", "other"] (spD 2 K fun ds => finT (g_common_divisor a (startD 3 ds))) :=
  fn_den F sc_common_divisor fun cdv A outer s H E hr => (dss_cons (ds_while 10000000000000000000000000000000000000000000000000000000000000000000000000000000000000000000000000000000000000000000000000000000000000000000000000000000000000000000000000000000000000000000000000000000000000000000000000000000000000000000000000000000000000000000000000000000000000000000000000000000000000000000000000000000000000000000000000000000000000000000000000000000000000000000000000000000000000000 pass_cx (dt_cmp op_neSD (de_var 1) de_int) (dss_cons (ds_set 2 sc_common_divisor.nd rfl (Or.inl rfl) (de_op op_modD (de_var 0) (de_var 1)))
    (dss_cons (ds_set 0 sc_common_divisor.nd rfl (Or.inl rfl) (de_var 1))
    (dss_one (ds_set 1 sc_common_divisor.nd rfl (Or.inl rfl) (de_var 2))))))
    (dss_one (ds_ret (de_var 0))))
theorem sc_is_whole : FnScope ["thing"] ["thing"] (defScope s_is_whole) := by walk_at "sc"
theorem ok_is_whole {a : Ad} (T : Tx K mg a) (F : Fun K "is_whole" "is_whole" s_is_whole f fd) :
    FnOk P w K mg base (CXx P w) 1 f fd ["thing"] (spD 1 K fun ds => finT (g_is_whole a (startD 1 ds))) :=
  fn_den F sc_is_whole fun cdv A outer s H E hr => (dss_one (ds_ret (de_and (de_callB (call_isXD T.isok) rfl T.b_isinstance bt_isinstance (da_cons (de_var 0) (da_cons (de_ty rfl T.b_int bt_int) da_nil))) (de_one (de_not (de_callB (call_isXD T.isok) rfl T.b_isinstance bt_isinstance (da_cons (de_var 0) (da_cons (de_ty rfl T.b_bool bt_bool) da_nil))))))))
theorem sc_fraction : FnScope ["top", "bottom", "divisor"] ["top", "bottom"] (defScope s_fraction) := by walk_at "sc"
theorem ok_fraction {a : Ad} (T : Tx K mg a) (F : Fun K "fraction" "fraction" s_fraction f fd)
    (h_is_whole : Has P w K mg base (CXx P w) 2 "is_whole" ["thing"] (spD 1 K F_is_whole))
    (h_common_divisor : Has P w K mg base (CXx P w) 2 "common_divisor" ["one", "other"] (spD 2 K F_common_divisor)) :
    FnOk P w K mg base (CXx P w) 3 f fd ["top", "bottom"] (spD 2 K fun ds => finT (g_fraction a F_is_whole F_common_divisor (startD 3 ds))) :=
  fn_den F sc_fraction fun cdv A outer s H E hr => (dss_cons (ds_if (DW.dt (dw_or (dt_not (dt_truth (de_call h_is_whole hr rfl passX rfl (da_cons (de_var 0) da_nil)))) (dw_or (dt_not (dt_truth (de_call h_is_whole hr rfl passX rfl (da_cons (de_var 1) da_nil)))) (dw_or1 (dt_cmp op_eqSD (de_var 1) de_int))))) (dss_one (ds_raise0 PySem.F.excBase_ValueError T.z_NoFraction.cls rfl T.c_NoFraction)) dss_nil)
    (dss_cons (ds_set 2 sc_fraction.nd rfl (Or.inl rfl) (de_call h_common_divisor hr rfl passX rfl (da_cons (de_callB call_absD rfl T.b_abs bt_abs (da_cons (de_var 0) da_nil)) (da_cons (de_callB call_absD rfl T.b_abs bt_abs (da_cons (de_var 1) da_nil)) da_nil))))
    (dss_cons (ds_if (dt_cmp op_ltD (de_var 1) de_int) (dss_one (ds_set 2 sc_fraction.nd rfl (Or.inl rfl) (de_un un_negD (de_var 2)))) dss_nil)
    (dss_one (ds_ret (de_tup (da_cons (de_op op_fdivD (de_var 0) (de_var 2)) (da_cons (de_op op_fdivD (de_var 1) (de_var 2)) da_nil))))))))
theorem sc_show_fraction : FnScope ["one", "top", "bottom"] ["one"] (defScope s_show_fraction) := by walk_at "sc"
theorem ok_show_fraction {a : Ad} (T : Tx K mg a) (F : Fun K "show_fraction" "show_fraction" s_show_fraction f fd) :
    FnOk P w K mg base (CXx P w) 1 f fd ["one"] (spD 1 K fun ds => finT (g_show_fraction a (startD 3 ds))) :=
  fn_den F sc_show_fraction fun cdv A outer s H E hr => (dss_cons (ds_set 1 sc_show_fraction.nd rfl (Or.inl rfl) (de_ix ix_D (de_var 0) de_int))
    (dss_cons (ds_set 2 sc_show_fraction.nd rfl (Or.inl rfl) (de_ix ix_D (de_var 0) de_int))
    (dss_cons (ds_if (dt_cmp op_eqSD (de_var 2) de_int) (dss_one (ds_ret (de_callTy call_strD rfl T.b_str bt_str (da_cons (de_var 1) da_nil)))) dss_nil)
    (dss_one (ds_ret (de_join (dj_cons (de_fmt (de_var 1)) (dj_cons de_str (dj_cons (de_fmt (de_var 2)) dj_nil)))))))))
theorem scr_fraction : FnScope ["text", "below", "parts", "top", "bottom", "found"] ["text"] (defScope sr_fraction) := by walk_at "sc"
theorem okr_fraction {a : Ad} (T : Tx K mg a) (F : Fun K "read_fraction" "read_fraction" sr_fraction f fd)
    (hi_row : FnOk P w K mg base CX0 1 a.fI_row fdI_row ["self", "row"] (spXI a.NoText "row")) (bi_row : Binds K fdI_row ["self", "row"] [])
    (h_is_number : Has P w K mg base (CXx P w) 3 "is_number" ["text", "most_figures"] (spD 2 K F_is_number))
    (h_fraction : Has P w K mg base (CXx P w) 3 "fraction" ["top", "bottom"] (spD 2 K F_fraction))
    (h_show_fraction : Has P w K mg base (CXx P w) 3 "show_fraction" ["one"] (spD 1 K F_show_fraction)) :
    FnOk P w K mg base (CXx P w) 4 f fd ["text"] (spD 1 K fun ds => finT (gr_fraction a F_is_number F_fraction F_show_fraction (startD 6 ds))) :=
  fn_den F scr_fraction fun cdv A outer s H E hr => (dss_cons (ds_set 1 scr_fraction.nd rfl (Or.inl rfl) (de_bm PySem.F.plainAttrs_str PySem.F.slot_str_startswith PySem.F.type_str_startswith mt_startsD (de_var 0) (da_cons de_str da_nil)))
    (dss_cons (ds_set 2 scr_fraction.nd rfl (Or.inl rfl) (de_if (dt_truth (de_var 1)) (de_bm PySem.F.plainAttrs_str PySem.F.slot_str_split PySem.F.type_str_split mt_splitD (de_slice sl_WD (de_var 0) (do_some de_int) do_none) (da_cons de_str da_nil)) (de_bm PySem.F.plainAttrs_str PySem.F.slot_str_split PySem.F.type_str_split mt_splitD (de_var 0) (da_cons de_str da_nil))))
    (dss_cons (ds_if (DW.dt (dw_or (dt_cmp op_gtD (de_callB call_lenD rfl T.b_len bt_len (da_cons (de_var 2) da_nil)) de_int) (dw_or1 (dt_not (dt_truth (de_callB (call_allD rfl) rfl T.b_all bt_all (da_cons (DN.de (dn_comp0 (Nt := ["part"]) (tn := 1) rfl (di_any (de_var 2)) (fun _ _ _ _ => (dg_name 0 (show List.Nodup (["part"] : List Str) from by decide +kernel) rfl (Or.inl rfl))) (by simp) (fun _ _ _ _ => df_nil) (fun _ _ _ _ => (de_call h_is_number hr rfl passN rfl (da_cons (de_var 0) (da_cons (de_gl rfl T.g_MOST_FIGURES) da_nil)))) (by decide +kernel) rfl (by decide +kernel) (by decide +kernel) rfl)) da_nil))))))) (dss_one (ds_raiseI T.x_row hi_row bi_row (hr.mono (by decide)) rfl T.c_NoText (da_cons de_int da_nil))) dss_nil)
    (dss_cons (ds_set 3 scr_fraction.nd rfl (Or.inl rfl) (de_if (dt_truth (de_var 1)) (de_un un_negD (de_callTy call_intD rfl T.b_int bt_int (da_cons (de_ix ix_D (de_var 2) de_int) da_nil))) (de_callTy call_intD rfl T.b_int bt_int (da_cons (de_ix ix_D (de_var 2) de_int) da_nil))))
    (dss_cons (ds_set 4 scr_fraction.nd rfl (Or.inl rfl) (de_if (dt_cmp op_eqSD (de_callB call_lenD rfl T.b_len bt_len (da_cons (de_var 2) da_nil)) de_int) (de_callTy call_intD rfl T.b_int bt_int (da_cons (de_ix ix_D (de_var 2) de_int) da_nil)) de_int))
    (dss_cons (ds_if (dt_cmp op_eqSD (de_var 4) de_int) (dss_one (ds_raiseI T.x_row hi_row bi_row (hr.mono (by decide)) rfl T.c_NoText (da_cons de_int da_nil))) dss_nil)
    (dss_cons (ds_set 5 scr_fraction.nd rfl (Or.inl rfl) (de_call h_fraction hr rfl passX rfl (da_cons (de_var 3) (da_cons (de_var 4) da_nil))))
    (dss_cons (ds_if (dt_cmp op_neSD (de_call h_show_fraction hr rfl passX rfl (da_cons (de_var 5) da_nil)) (de_var 0)) (dss_one (ds_raiseI T.x_row hi_row bi_row (hr.mono (by decide)) rfl T.c_NoText (da_cons de_int da_nil))) dss_nil)
    (dss_one (ds_ret (de_var 5)))))))))))
theorem scr_small_fraction : FnScope ["text", "found"] ["text"] (defScope sr_small_fraction) := by walk_at "sc"
theorem okr_small_fraction {a : Ad} (T : Tx K mg a) (F : Fun K "read_small_fraction" "read_small_fraction" sr_small_fraction f fd)
    (hi_row : FnOk P w K mg base CX0 1 a.fI_row fdI_row ["self", "row"] (spXI a.NoText "row")) (bi_row : Binds K fdI_row ["self", "row"] [])
    (hr_fraction : Has P w K mg base (CXx P w) 4 "read_fraction" ["text"] (spD 1 K Fr_fraction)) :
    FnOk P w K mg base (CXx P w) 5 f fd ["text"] (spD 1 K fun ds => finT (gr_small_fraction a Fr_fraction (startD 2 ds))) :=
  fn_den F scr_small_fraction fun cdv A outer s H E hr => (dss_cons (ds_set 1 scr_small_fraction.nd rfl (Or.inl rfl) (de_call hr_fraction hr rfl passX rfl (da_cons (de_var 0) da_nil)))
    (dss_cons (ds_if (DW.dt (dw_or (dt_cmp op_geD (de_callB call_absD rfl T.b_abs bt_abs (da_cons (de_ix ix_D (de_var 1) de_int) da_nil)) (de_gl rfl T.g_TOP_BOUND)) (dw_or1 (dt_cmp op_geD (de_ix ix_D (de_var 1) de_int) (de_gl rfl T.g_BOTTOM_BOUND))))) (dss_one (ds_raiseI T.x_row hi_row bi_row (hr.mono (by decide)) rfl T.c_NoText (da_cons de_int da_nil))) dss_nil)
    (dss_one (ds_ret (de_var 1)))))
theorem sc_is_word : FnScope ["thing"] ["thing"] (defScope s_is_word) := by walk_at "sc"
theorem ok_is_word {a : Ad} (T : Tx K mg a) (F : Fun K "is_word" "is_word" s_is_word f fd) :
    FnOk P w K mg base (CXx P w) 1 f fd ["thing"] (spD 1 K fun ds => finT (g_is_word a (startD 1 ds))) :=
  fn_den F sc_is_word fun cdv A outer s H E hr => (dss_cons (ds_if (DW.dt (dw_or (dt_not (dt_truth (de_callB (call_isXD T.isok) rfl T.b_isinstance bt_isinstance (da_cons (de_var 0) (da_cons (de_ty rfl T.b_str bt_str) da_nil))))) (dw_or (dt_cmp op_eqSD (de_var 0) de_str) (dw_or1 (dt_cmp op_gtD (de_callB call_lenD rfl T.b_len bt_len (da_cons (de_var 0) da_nil)) (de_gl rfl T.g_MOST_LETTERS)))))) (dss_one (ds_ret de_bl)) dss_nil)
    (dss_one (ds_ret (de_and (de_callB (call_allD rfl) rfl T.b_all bt_all (da_cons (DN.de (dn_comp0 (Nt := ["sign"]) (tn := 1) rfl (di_any (de_var 0)) (fun _ _ _ _ => (dg_name 0 (show List.Nodup (["sign"] : List Str) from by decide +kernel) rfl (Or.inl rfl))) (by simp) (fun _ _ _ _ => df_nil) (fun _ _ _ _ => (de_cmp op_inSD (de_var 0) (de_gl rfl T.g_LETTERS))) (by decide +kernel) rfl (by decide +kernel) (by decide +kernel) rfl)) da_nil)) (de_one (de_cmp (op_ninLD hr.units) (de_var 0) (de_glT rfl T.g_KEY_WORDS)))))))
theorem scr_word : FnScope ["text"] ["text"] (defScope sr_word) := by walk_at "sc"
theorem okr_word {a : Ad} (T : Tx K mg a) (F : Fun K "read_word" "read_word" sr_word f fd)
    (hi_row : FnOk P w K mg base CX0 1 a.fI_row fdI_row ["self", "row"] (spXI a.NoText "row")) (bi_row : Binds K fdI_row ["self", "row"] [])
    (h_is_word : Has P w K mg base (CXx P w) 2 "is_word" ["thing"] (spD 1 K F_is_word)) :
    FnOk P w K mg base (CXx P w) 3 f fd ["text"] (spD 1 K fun ds => finT (gr_word a F_is_word (startD 1 ds))) :=
  fn_den F scr_word fun cdv A outer s H E hr => (dss_cons (ds_if (dt_not (dt_truth (de_call h_is_word hr rfl passX rfl (da_cons (de_var 0) da_nil)))) (dss_one (ds_raiseI T.x_row hi_row bi_row (hr.mono (by decide)) rfl T.c_NoText (da_cons de_int da_nil))) dss_nil)
    (dss_one (ds_ret (de_var 0))))
theorem scr_sum : FnScope ["tokens", "term", "sign"] ["tokens"] (defScope sr_sum) := by walk_at "sc"
theorem okr_sum {a : Ad} {k : Nat} (T : Tx K mg a) (F : Fun K "read_sum" "read_sum" sr_sum f fd)
    (hr_product : Has P w K mg base (CXx P w) k "read_product" ["tokens"] (spZ 1 K Zr_product))
    (h1t_ahead : HasM P w K mg base k a.Tokens "ahead" ["self", "places"] [(.int 0)] (spZ 2 K Zt_ahead))
    (ht_take : HasM P w K mg base k a.Tokens "take" ["self"] [] (spZ 1 K Zt_take))
    (ht_begin_part : HasM P w K mg base k a.Tokens "begin_part" ["self"] [] (spZ 1 K Zt_begin_part)) :
    FnOk P w K mg base (CXx P w) (k + 1) f fd ["tokens"] (spZ 1 K fun zs S => finZ (gr_sum a Zr_product Zt_ahead Zt_take Zt_begin_part S.length (startZ 3 zs) S)) :=
  fn_denZ F scr_sum fun b cdv A outer s H E hr => (zss_cons (zs_set 1 scr_sum.nd rfl (Or.inl rfl) (ze_callZ hr_product hr rfl passX rfl (za_cons (ze_var 0) za_nil)))
    (zss_cons (zs_while 100 pass_cx (zt_cmp (op_inLD hr.units) (ze_meth0 h1t_ahead T.k_Tokens hr passX (ze_var 0) rfl) (ze_lift (de_tup (da_cons de_str (da_cons de_str da_nil))))) (zss_cons (zs_set 2 scr_sum.nd rfl (Or.inl rfl) (ze_meth0 ht_take T.k_Tokens hr passX (ze_var 0) rfl))
    (zss_cons (zs_expr (ze_meth0 ht_begin_part T.k_Tokens hr passX (ze_var 0) rfl))
    (zss_one (zs_set 1 scr_sum.nd rfl (Or.inl rfl) (ze_tup (za_cons (ze_lift (de_var 2)) (za_cons (ze_lift (de_var 1)) (za_cons (ze_callZ hr_product hr rfl passX rfl (za_cons (ze_var 0) za_nil)) za_nil)))))))))
    (zss_one (zs_ret (ze_lift (de_var 1))))))
theorem scr_product : FnScope ["tokens", "factor"] ["tokens"] (defScope sr_product) := by walk_at "sc"
theorem okr_product {a : Ad} {k : Nat} (T : Tx K mg a) (F : Fun K "read_product" "read_product" sr_product f fd)
    (hr_small_fraction : Has P w K mg base (CXx P w) k "read_small_fraction" ["text"] (spD 1 K Fr_small_fraction))
    (hr_single : Has P w K mg base (CXx P w) k "read_single" ["tokens"] (spZ 1 K Zr_single))
    (ht_ahead : HasM P w K mg base k a.Tokens "ahead" ["self", "places"] [] (spZ 2 K Zt_ahead))
    (ht_take : HasM P w K mg base k a.Tokens "take" ["self"] [] (spZ 1 K Zt_take))
    (ht_expect : HasM P w K mg base k a.Tokens "expect" ["self", "token"] [] (spZ 2 K Zt_expect))
    (ht_begin_part : HasM P w K mg base k a.Tokens "begin_part" ["self"] [] (spZ 1 K Zt_begin_part)) :
    FnOk P w K mg base (CXx P w) (k + 1) f fd ["tokens"] (spZ 1 K fun zs S => finZ (gr_product a Fr_small_fraction Zt_ahead Zr_single Zt_take Zt_expect Zt_begin_part S.length (startZ 2 zs) S)) :=
  fn_denZ F scr_product fun b cdv A outer s H E hr => (zss_cons (zs_if (zt_cmp op_neSD (ze_meth ht_ahead T.k_Tokens hr passX (ze_var 0) (za_cons (ze_lift de_int) za_nil) rfl) (ze_lift de_str)) (zss_one (zs_ret (ze_callZ hr_single hr rfl passX rfl (za_cons (ze_var 0) za_nil)))) zss_nil)
    (zss_cons (zs_set 1 scr_product.nd rfl (Or.inl rfl) (ze_callD hr_small_fraction hr rfl passX rfl (za_cons (ze_meth0 ht_take T.k_Tokens hr passX (ze_var 0) rfl) za_nil)))
    (zss_cons (zs_expr (ze_meth ht_expect T.k_Tokens hr passX (ze_var 0) (za_cons (ze_lift de_str) za_nil) rfl))
    (zss_cons (zs_expr (ze_meth0 ht_begin_part T.k_Tokens hr passX (ze_var 0) rfl))
    (zss_one (zs_ret (ze_tup (za_cons (ze_lift de_str) (za_cons (ze_lift (de_var 1)) (za_cons (ze_callZ hr_single hr rfl passX rfl (za_cons (ze_var 0) za_nil)) za_nil))))))))))
theorem scr_single : FnScope ["tokens", "word"] ["tokens"] (defScope sr_single) := by walk_at "sc"
theorem okr_single {a : Ad} {k : Nat} (T : Tx K mg a) (F : Fun K "read_single" "read_single" sr_single f fd)
    (hr_whole : Has P w K mg base (CXx P w) k "read_whole" ["text", "least", "most"] (spD 3 K Fr_whole))
    (hr_word : Has P w K mg base (CXx P w) k "read_word" ["text"] (spD 1 K Fr_word))
    (hr_small_fraction : Has P w K mg base (CXx P w) k "read_small_fraction" ["text"] (spD 1 K Fr_small_fraction))
    (hr_bracketed : Has P w K mg base (CXx P w) k "read_bracketed" ["tokens"] (spZ 1 K Zr_bracketed))
    (h1t_ahead : HasM P w K mg base k a.Tokens "ahead" ["self", "places"] [(.int 0)] (spZ 2 K Zt_ahead))
    (ht_begin_part : HasM P w K mg base k a.Tokens "begin_part" ["self"] [] (spZ 1 K Zt_begin_part))
    (ht_take : HasM P w K mg base k a.Tokens "take" ["self"] [] (spZ 1 K Zt_take)) :
    FnOk P w K mg base (CXx P w) (k + 1) f fd ["tokens"] (spZ 1 K fun zs S => finZ (gr_single a Fr_whole Fr_word Fr_small_fraction Zt_ahead Zr_bracketed Zt_begin_part Zt_take S.length (startZ 2 zs) S)) :=
  fn_denZ F scr_single fun b cdv A outer s H E hr => (zss_cons (zs_if (zt_cmp op_eqSD (ze_meth0 h1t_ahead T.k_Tokens hr passX (ze_var 0) rfl) (ze_lift de_str)) (zss_one (zs_ret (ze_callZ hr_bracketed hr rfl passX rfl (za_cons (ze_var 0) za_nil)))) zss_nil)
    (zss_cons (zs_expr (ze_meth0 ht_begin_part T.k_Tokens hr passX (ze_var 0) rfl))
    (zss_cons (zs_set 1 scr_single.nd rfl (Or.inl rfl) (ze_meth0 ht_take T.k_Tokens hr passX (ze_var 0) rfl))
    (zss_cons (zs_if (zt_lift (dt_cmp op_eqSD (de_var 1) de_str)) (zss_one (zs_ret (ze_lift (de_tup (da_cons de_str da_nil))))) zss_nil)
    (zss_cons (zs_if (zt_lift (dt_cmp (op_inLD hr.units) (de_var 1) (de_tup (da_cons de_str (da_cons de_str (da_cons de_str (da_cons de_str da_nil))))))) (zss_one (zs_ret (ze_tup (za_cons (ze_lift (de_var 1)) (za_cons (ze_callD hr_whole hr rfl passX rfl (za_cons (ze_meth0 ht_take T.k_Tokens hr passX (ze_var 0) rfl) (za_cons (ze_lift de_int) (za_cons (ze_lift (de_gl rfl T.g_LAST_PLACE)) za_nil)))) za_nil))))) zss_nil)
    (zss_cons (zs_if (zt_lift (dt_cmp op_eqSD (de_var 1) de_str)) (zss_one (zs_ret (ze_tup (za_cons (ze_lift de_str) (za_cons (ze_callD hr_word hr rfl passX rfl (za_cons (ze_meth0 ht_take T.k_Tokens hr passX (ze_var 0) rfl) za_nil)) za_nil))))) zss_nil)
    (zss_cons (zs_if (zt_lift (dt_cmp op_eqSD (de_var 1) de_str)) (zss_one (zs_ret (ze_tup (za_cons (ze_lift de_str) (za_cons (ze_callZ hr_bracketed hr rfl passX rfl (za_cons (ze_var 0) za_nil)) za_nil))))) zss_nil)
    (zss_one (zs_ret (ze_lift (de_tup (da_cons de_str (da_cons (de_call hr_small_fraction hr rfl passX rfl (da_cons (de_var 1) da_nil)) da_nil)))))))))))))
theorem scr_bracketed : FnScope ["tokens", "term"] ["tokens"] (defScope sr_bracketed) := by walk_at "sc"
theorem okr_bracketed {a : Ad} {k : Nat} (T : Tx K mg a) (F : Fun K "read_bracketed" "read_bracketed" sr_bracketed f fd)
    (hr_sum : Has P w K mg base (CXx P w) k "read_sum" ["tokens"] (spZ 1 K Zr_sum))
    (ht_enter : HasM P w K mg base k a.Tokens "enter" ["self", "bracket"] [] (spZ 2 K Zt_enter))
    (ht_leave : HasM P w K mg base k a.Tokens "leave" ["self", "bracket"] [] (spZ 2 K Zt_leave)) :
    FnOk P w K mg base (CXx P w) (k + 1) f fd ["tokens"] (spZ 1 K fun zs S => finZ (gr_bracketed a Zt_enter Zr_sum Zt_leave S.length (startZ 2 zs) S)) :=
  fn_denZ F scr_bracketed fun b cdv A outer s H E hr => (zss_cons (zs_expr (ze_meth ht_enter T.k_Tokens hr passX (ze_var 0) (za_cons (ze_lift de_str) za_nil) rfl))
    (zss_cons (zs_set 1 scr_bracketed.nd rfl (Or.inl rfl) (ze_callZ hr_sum hr rfl passX rfl (za_cons (ze_var 0) za_nil)))
    (zss_cons (zs_expr (ze_meth ht_leave T.k_Tokens hr passX (ze_var 0) (za_cons (ze_lift de_str) za_nil) rfl))
    (zss_one (zs_ret (ze_lift (de_var 1)))))))
theorem scr_comparison : FnScope ["tokens", "left", "sign"] ["tokens"] (defScope sr_comparison) := by walk_at "sc"
theorem okr_comparison {a : Ad} (T : Tx K mg a) (F : Fun K "read_comparison" "read_comparison" sr_comparison f fd)
    (hi_row : FnOk P w K mg base CX0 1 a.fI_row fdI_row ["self", "row"] (spXI a.NoText "row")) (bi_row : Binds K fdI_row ["self", "row"] [])
    (hr_sum : Has P w K mg base (CXx P w) 80 "read_sum" ["tokens"] (spZ 1 K Zr_sum))
    (ht_begin_part : HasM P w K mg base 80 a.Tokens "begin_part" ["self"] [] (spZ 1 K Zt_begin_part))
    (ht_take : HasM P w K mg base 80 a.Tokens "take" ["self"] [] (spZ 1 K Zt_take)) :
    FnOk P w K mg base (CXx P w) 81 f fd ["tokens"] (spZ 1 K fun zs S => finZ (gr_comparison a Zt_begin_part Zr_sum Zt_take S.length (startZ 3 zs) S)) :=
  fn_denZ F scr_comparison fun b cdv A outer s H E hr => (zss_cons (zs_expr (ze_meth0 ht_begin_part T.k_Tokens hr passX (ze_var 0) rfl))
    (zss_cons (zs_set 1 scr_comparison.nd rfl (Or.inl rfl) (ze_callZ hr_sum hr rfl passX rfl (za_cons (ze_var 0) za_nil)))
    (zss_cons (zs_set 2 scr_comparison.nd rfl (Or.inl rfl) (ze_meth0 ht_take T.k_Tokens hr passX (ze_var 0) rfl))
    (zss_cons (zs_if (zt_lift (dt_cmp (op_ninLD hr.units) (de_var 2) (de_tup (da_cons de_str (da_cons de_str da_nil))))) (zss_one (zs_lift (ds_raiseI (x := "NoText") T.x_row hi_row bi_row (hr.mono (by decide)) rfl T.c_NoText (da_cons de_int da_nil)))) zss_nil)
    (zss_one (zs_ret (ze_tup (za_cons (ze_lift (de_var 2)) (za_cons (ze_lift (de_var 1)) (za_cons (ze_callZ hr_sum hr rfl passX rfl (za_cons (ze_var 0) za_nil)) za_nil))))))))))
theorem scr_or : FnScope ["tokens", "condition"] ["tokens"] (defScope sr_or) := by walk_at "sc"
theorem okr_or {a : Ad} {k : Nat} (T : Tx K mg a) (F : Fun K "read_or" "read_or" sr_or f fd)
    (hr_and : Has P w K mg base (CXx P w) k "read_and" ["tokens"] (spZ 1 K Zr_and))
    (h1t_ahead : HasM P w K mg base k a.Tokens "ahead" ["self", "places"] [(.int 0)] (spZ 2 K Zt_ahead))
    (ht_expect : HasM P w K mg base k a.Tokens "expect" ["self", "token"] [] (spZ 2 K Zt_expect))
    (ht_begin_part : HasM P w K mg base k a.Tokens "begin_part" ["self"] [] (spZ 1 K Zt_begin_part)) :
    FnOk P w K mg base (CXx P w) (k + 1) f fd ["tokens"] (spZ 1 K fun zs S => finZ (gr_or a Zr_and Zt_ahead Zt_expect Zt_begin_part S.length (startZ 2 zs) S)) :=
  fn_denZ F scr_or fun b cdv A outer s H E hr => (zss_cons (zs_set 1 scr_or.nd rfl (Or.inl rfl) (ze_callZ hr_and hr rfl passX rfl (za_cons (ze_var 0) za_nil)))
    (zss_cons (zs_while 100 pass_cx (zt_cmp op_eqSD (ze_meth0 h1t_ahead T.k_Tokens hr passX (ze_var 0) rfl) (ze_lift de_str)) (zss_cons (zs_expr (ze_meth ht_expect T.k_Tokens hr passX (ze_var 0) (za_cons (ze_lift de_str) za_nil) rfl))
    (zss_cons (zs_expr (ze_meth0 ht_begin_part T.k_Tokens hr passX (ze_var 0) rfl))
    (zss_one (zs_set 1 scr_or.nd rfl (Or.inl rfl) (ze_tup (za_cons (ze_lift de_str) (za_cons (ze_lift (de_var 1)) (za_cons (ze_callZ hr_and hr rfl passX rfl (za_cons (ze_var 0) za_nil)) za_nil)))))))))
    (zss_one (zs_ret (ze_lift (de_var 1))))))
theorem scr_and : FnScope ["tokens", "condition"] ["tokens"] (defScope sr_and) := by walk_at "sc"
theorem okr_and {a : Ad} {k : Nat} (T : Tx K mg a) (F : Fun K "read_and" "read_and" sr_and f fd)
    (hr_not : Has P w K mg base (CXx P w) k "read_not" ["tokens"] (spZ 1 K Zr_not))
    (h1t_ahead : HasM P w K mg base k a.Tokens "ahead" ["self", "places"] [(.int 0)] (spZ 2 K Zt_ahead))
    (ht_expect : HasM P w K mg base k a.Tokens "expect" ["self", "token"] [] (spZ 2 K Zt_expect))
    (ht_begin_part : HasM P w K mg base k a.Tokens "begin_part" ["self"] [] (spZ 1 K Zt_begin_part)) :
    FnOk P w K mg base (CXx P w) (k + 1) f fd ["tokens"] (spZ 1 K fun zs S => finZ (gr_and a Zr_not Zt_ahead Zt_expect Zt_begin_part S.length (startZ 2 zs) S)) :=
  fn_denZ F scr_and fun b cdv A outer s H E hr => (zss_cons (zs_set 1 scr_and.nd rfl (Or.inl rfl) (ze_callZ hr_not hr rfl passX rfl (za_cons (ze_var 0) za_nil)))
    (zss_cons (zs_while 100 pass_cx (zt_cmp op_eqSD (ze_meth0 h1t_ahead T.k_Tokens hr passX (ze_var 0) rfl) (ze_lift de_str)) (zss_cons (zs_expr (ze_meth ht_expect T.k_Tokens hr passX (ze_var 0) (za_cons (ze_lift de_str) za_nil) rfl))
    (zss_cons (zs_expr (ze_meth0 ht_begin_part T.k_Tokens hr passX (ze_var 0) rfl))
    (zss_one (zs_set 1 scr_and.nd rfl (Or.inl rfl) (ze_tup (za_cons (ze_lift de_str) (za_cons (ze_lift (de_var 1)) (za_cons (ze_callZ hr_not hr rfl passX rfl (za_cons (ze_var 0) za_nil)) za_nil)))))))))
    (zss_one (zs_ret (ze_lift (de_var 1))))))
theorem scr_not : FnScope ["tokens", "condition"] ["tokens"] (defScope sr_not) := by walk_at "sc"
theorem okr_not {a : Ad} {k : Nat} (T : Tx K mg a) (F : Fun K "read_not" "read_not" sr_not f fd)
    (hr_not : Has P w K mg base (CXx P w) k "read_not" ["tokens"] (spZ 1 K Zr_not))
    (hr_or : Has P w K mg base (CXx P w) k "read_or" ["tokens"] (spZ 1 K Zr_or))
    (hr_comparison : Has P w K mg base (CXx P w) k "read_comparison" ["tokens"] (spZ 1 K Zr_comparison))
    (h1t_ahead : HasM P w K mg base k a.Tokens "ahead" ["self", "places"] [(.int 0)] (spZ 2 K Zt_ahead))
    (ht_expect : HasM P w K mg base k a.Tokens "expect" ["self", "token"] [] (spZ 2 K Zt_expect))
    (ht_begin_part : HasM P w K mg base k a.Tokens "begin_part" ["self"] [] (spZ 1 K Zt_begin_part))
    (ht_enter : HasM P w K mg base k a.Tokens "enter" ["self", "bracket"] [] (spZ 2 K Zt_enter))
    (ht_leave : HasM P w K mg base k a.Tokens "leave" ["self", "bracket"] [] (spZ 2 K Zt_leave)) :
    FnOk P w K mg base (CXx P w) (k + 1) f fd ["tokens"] (spZ 1 K fun zs S => finZ (gr_not a Zt_ahead Zt_expect Zt_begin_part Zr_not Zt_enter Zr_or Zt_leave Zr_comparison S.length (startZ 2 zs) S)) :=
  fn_denZ F scr_not fun b cdv A outer s H E hr => (zss_cons (zs_if (zt_cmp op_eqSD (ze_meth0 h1t_ahead T.k_Tokens hr passX (ze_var 0) rfl) (ze_lift de_str)) (zss_cons (zs_expr (ze_meth ht_expect T.k_Tokens hr passX (ze_var 0) (za_cons (ze_lift de_str) za_nil) rfl))
    (zss_cons (zs_expr (ze_meth0 ht_begin_part T.k_Tokens hr passX (ze_var 0) rfl))
    (zss_one (zs_ret (ze_tup (za_cons (ze_lift de_str) (za_cons (ze_callZ hr_not hr rfl passX rfl (za_cons (ze_var 0) za_nil)) za_nil))))))) zss_nil)
    (zss_cons (zs_if (zt_cmp op_eqSD (ze_meth0 h1t_ahead T.k_Tokens hr passX (ze_var 0) rfl) (ze_lift de_str)) (zss_cons (zs_expr (ze_meth ht_enter T.k_Tokens hr passX (ze_var 0) (za_cons (ze_lift de_str) za_nil) rfl))
    (zss_cons (zs_set 1 scr_not.nd rfl (Or.inl rfl) (ze_callZ hr_or hr rfl passX rfl (za_cons (ze_var 0) za_nil)))
    (zss_cons (zs_expr (ze_meth ht_leave T.k_Tokens hr passX (ze_var 0) (za_cons (ze_lift de_str) za_nil) rfl))
    (zss_one (zs_ret (ze_lift (de_var 1))))))) zss_nil)
    (zss_one (zs_ret (ze_callZ hr_comparison hr rfl passX rfl (za_cons (ze_var 0) za_nil))))))
theorem scr_to_end : FnScope ["tokens", "condition"] ["tokens"] (defScope sr_to_end) := by walk_at "sc"
theorem okr_to_end {a : Ad} (T : Tx K mg a) (F : Fun K "read_to_end" "read_to_end" sr_to_end f fd)
    (hr_or : Has P w K mg base (CXx P w) 166 "read_or" ["tokens"] (spZ 1 K Zr_or))
    (ht_expect_end : HasM P w K mg base 166 a.Tokens "expect_end" ["self"] [] (spZ 1 K Zt_expect_end)) :
    FnOk P w K mg base (CXx P w) 167 f fd ["tokens"] (spZ 1 K fun zs S => finZ (gr_to_end a Zr_or Zt_expect_end S.length (startZ 2 zs) S)) :=
  fn_denZ F scr_to_end fun b cdv A outer s H E hr => (zss_cons (zs_set 1 scr_to_end.nd rfl (Or.inl rfl) (ze_callZ hr_or hr rfl passX rfl (za_cons (ze_var 0) za_nil)))
    (zss_cons (zs_expr (ze_meth0 ht_expect_end T.k_Tokens hr passX (ze_var 0) rfl))
    (zss_one (zs_ret (ze_lift (de_var 1))))))
theorem scr_condition : FnScope ["text"] ["text"] (defScope sr_condition) := by walk_at "sc"
theorem okr_condition {a : Ad} (T : Tx K mg a) (F : Fun K "read_condition" "read_condition" sr_condition f fd)
    (hr_to_end : Has P w K mg base (CXx P w) 167 "read_to_end" ["tokens"] (spZ 1 K Zr_to_end))
    (hIt___init : HasI P w K mg base 166 a.Tokens ["self", "text"] (spZ 2 K Zt___init)) :
    FnOk P w K mg base (CXx P w) 168 f fd ["text"] (spZ 1 K fun zs S => finZ (gr_condition a Zt___init Zr_to_end S.length (startZ 1 zs) S)) :=
  fn_denZ F scr_condition fun b cdv A outer s H E hr => (zss_one (zs_ret (ze_callZ hr_to_end hr rfl passX rfl (za_cons (ze_make hIt___init hr rfl T.c_Tokens passX (za_cons (ze_lift (de_var 0)) za_nil) rfl) za_nil))))
theorem scl_cell_at : FnScope ["_law_script", "_law_k"] ["_law_script", "_law_k"] (defScope sl_cell_at) := by walk_at "sc"
noncomputable def gl_cell_at (a : Ad) : Ev -> RT := (sSeq (sIf (b1 tB (d2 ltD (dV 1) (dA lenD (aCons (dV 0) aNil)))) (sRet (d2 ixD (dV 0) (dV 1))) sNil)
    (sRet (dC (.int 0))))
theorem okl_cell_at {a : Ad} (T : Tx K mg a) (F : Fun K "_law_cell_at" "_law_cell_at" sl_cell_at f fd) :
    FnOk P w K mg base (CXx P w) 1 f fd ["_law_script", "_law_k"] (spD 2 K fun ds => finT (gl_cell_at a (startD 2 ds))) :=
  fn_den F scl_cell_at fun cdv A outer s H E hr => (dss_cons (ds_if (dt_cmp op_ltD (de_var 1) (de_callB call_lenD rfl T.b_len bt_len (da_cons (de_var 0) da_nil))) (dss_one (ds_ret (de_ix ix_D (de_var 0) (de_var 1)))) dss_nil)
    (dss_one (ds_ret de_int)))
theorem scl_single : FnScope ["_law_cell", "_law_some"] ["_law_cell"] (defScope sl_single) := by walk_at "sc"
noncomputable def gl_single (a : Ad) : Ev -> RT := (sSeq (sSet 1 (asN (fun ρ => ((aCons (dC (.str "here")) (aCons (dC (.str "back 9")) (aCons (dC (.str "7/3")) (aCons (dC (.str "0")) (aCons (dC (.str "until 1")) (aCons (dC (.str "at hill")) (aCons (dC (.str "abs(here - 1)")) (aCons (dC (.str "(on 2 + 1)")) (aCons (dC (.str "ago 3")) (aCons (dC (.str "999999999")) aNil)))))))))) ρ).bind fitL)))
    (sRet (d2 ixD (dV 1) (d2 modD (dV 0) (dC (.int 10))))))
theorem okl_single {a : Ad} (T : Tx K mg a) (F : Fun K "_law_single" "_law_single" sl_single f fd) :
    FnOk P w K mg base (CXx P w) 1 f fd ["_law_cell"] (spD 1 K fun ds => finT (gl_single a (startD 2 ds))) :=
  fn_den F scl_single fun cdv A outer s H E hr => (dss_cons (ds_set 1 scl_single.nd rfl (Or.inl rfl) (DN.de (dn_lst (da_cons de_str (da_cons de_str (da_cons de_str (da_cons de_str (da_cons de_str (da_cons de_str (da_cons de_str (da_cons de_str (da_cons de_str (da_cons de_str da_nil)))))))))))))
    (dss_one (ds_ret (de_ix ix_D (de_var 1) (de_op op_modD (de_var 0) de_int)))))
theorem scl_compared : FnScope ["_law_cell", "_law_some"] ["_law_cell"] (defScope sl_compared) := by walk_at "sc"
noncomputable def gl_compared (a : Ad) : Ev -> RT := (sSeq (sSet 1 (asN (fun ρ => ((aCons (dC (.str "here < 3")) (aCons (dC (.str "back 1 = here")) (aCons (dC (.str "[on 1 < 2]")) (aCons (dC (.str "not 2 * here < 5")) (aCons (dC (.str "abs(here) = 1/2")) (aCons (dC (.str "at q - 1 < ago 1 + 2")) aNil)))))) ρ).bind fitL)))
    (sRet (d2 ixD (dV 1) (d2 modD (dV 0) (dC (.int 6))))))
theorem okl_compared {a : Ad} (T : Tx K mg a) (F : Fun K "_law_compared" "_law_compared" sl_compared f fd) :
    FnOk P w K mg base (CXx P w) 1 f fd ["_law_cell"] (spD 1 K fun ds => finT (gl_compared a (startD 2 ds))) :=
  fn_den F scl_compared fun cdv A outer s H E hr => (dss_cons (ds_set 1 scl_compared.nd rfl (Or.inl rfl) (DN.de (dn_lst (da_cons de_str (da_cons de_str (da_cons de_str (da_cons de_str (da_cons de_str (da_cons de_str da_nil)))))))))
    (dss_one (ds_ret (de_ix ix_D (de_var 1) (de_op op_modD (de_var 0) de_int)))))
theorem scl_bad_terms : FnScope ["_law_cell", "_law_one", "_law_other", "_law_some"] ["_law_cell", "_law_one", "_law_other"] (defScope sl_bad_terms) := by walk_at "sc"
noncomputable def gl_bad_terms (a : Ad) : Ev -> RT := (sSeq (sSet 3 (asN (fun ρ => ((aCons (d2 addD (d2 addD (d2 addD (dV 1) (dC (.str " "))) (dV 2)) (dC (.str " < 1"))) (aCons (d2 addD (dV 1) (dC (.str " + < 1"))) (aCons (d2 addD (d2 addD (dC (.str "+ ")) (dV 1)) (dC (.str " < 1"))) (aCons (d2 addD (d2 addD (dC (.str "- ")) (dV 1)) (dC (.str " < 1"))) (aCons (d2 addD (dV 1) (dC (.str " < "))) aNil))))) ρ).bind fitL)))
    (sSeq (sSet 3 (d2 addD (dV 3) (asN (fun ρ => ((aCons (d2 addD (dC (.str "< ")) (dV 1)) aNil) ρ).bind fitL))))
    (sSeq (sSet 3 (d2 addD (dV 3) (asN (fun ρ => ((aCons (d2 addD (d2 addD (d2 addD (d2 addD (dV 1) (dC (.str " < "))) (dV 2)) (dC (.str " < "))) (dV 1)) (aCons (d2 addD (d2 addD (d2 addD (dV 1) (dC (.str " = "))) (dV 2)) (dC (.str " = 1"))) (aCons (d2 addD (d2 addD (d2 addD (dV 1) (dC (.str " - - "))) (dV 2)) (dC (.str " < 1"))) aNil))) ρ).bind fitL))))
    (sSeq (sSet 3 (d2 addD (dV 3) (asN (fun ρ => ((aCons (d2 addD (dV 1) (dC (.str " * 2 * here < 1"))) (aCons (d2 addD (d2 addD (dC (.str "2 * 3 * ")) (dV 1)) (dC (.str " < 1"))) (aCons (d2 addD (d2 addD (dC (.str "here * ")) (dV 1)) (dC (.str " < 1"))) (aCons (dC (.str "2 * < 1")) aNil)))) ρ).bind fitL))))
    (sSeq (sSet 3 (d2 addD (dV 3) (asN (fun ρ => ((aCons (d2 addD (d2 addD (dC (.str "(")) (dV 1)) (dC (.str " < 1"))) (aCons (d2 addD (dV 1) (dC (.str ") < 1"))) (aCons (dC (.str "() < 1")) (aCons (d2 addD (d2 addD (dC (.str "(")) (dV 1)) (dC (.str "] < 1"))) (aCons (d2 addD (d2 addD (dC (.str "[")) (dV 1)) (dC (.str ") < 1"))) aNil))))) ρ).bind fitL))))
    (sSeq (sSet 3 (d2 addD (dV 3) (asN (fun ρ => ((aCons (d2 addD (d2 addD (dC (.str "[")) (dV 1)) (dC (.str "] < 1"))) (aCons (dC (.str "abs here < 1")) aNil)) ρ).bind fitL))))
    (sRet (d2 ixD (dV 3) (d2 modD (dV 0) (dC (.int 20)))))))))))
theorem okl_bad_terms {a : Ad} (T : Tx K mg a) (F : Fun K "_law_bad_terms" "_law_bad_terms" sl_bad_terms f fd) :
    FnOk P w K mg base (CXx P w) 1 f fd ["_law_cell", "_law_one", "_law_other"] (spD 3 K fun ds => finT (gl_bad_terms a (startD 4 ds))) :=
  fn_den F scl_bad_terms fun cdv A outer s H E hr => (dss_cons (ds_set 3 scl_bad_terms.nd rfl (Or.inl rfl) (DN.de (dn_lst (da_cons (de_op op_addD (de_op op_addD (de_op op_addD (de_var 1) de_str) (de_var 2)) de_str) (da_cons (de_op op_addD (de_var 1) de_str) (da_cons (de_op op_addD (de_op op_addD de_str (de_var 1)) de_str) (da_cons (de_op op_addD (de_op op_addD de_str (de_var 1)) de_str) (da_cons (de_op op_addD (de_var 1) de_str) da_nil))))))))
    (dss_cons (ds_set 3 scl_bad_terms.nd rfl (Or.inl rfl) (de_op op_addD (de_var 3) (DN.de (dn_lst (da_cons (de_op op_addD de_str (de_var 1)) da_nil)))))
    (dss_cons (ds_set 3 scl_bad_terms.nd rfl (Or.inl rfl) (de_op op_addD (de_var 3) (DN.de (dn_lst (da_cons (de_op op_addD (de_op op_addD (de_op op_addD (de_op op_addD (de_var 1) de_str) (de_var 2)) de_str) (de_var 1)) (da_cons (de_op op_addD (de_op op_addD (de_op op_addD (de_var 1) de_str) (de_var 2)) de_str) (da_cons (de_op op_addD (de_op op_addD (de_op op_addD (de_var 1) de_str) (de_var 2)) de_str) da_nil)))))))
    (dss_cons (ds_set 3 scl_bad_terms.nd rfl (Or.inl rfl) (de_op op_addD (de_var 3) (DN.de (dn_lst (da_cons (de_op op_addD (de_var 1) de_str) (da_cons (de_op op_addD (de_op op_addD de_str (de_var 1)) de_str) (da_cons (de_op op_addD (de_op op_addD de_str (de_var 1)) de_str) (da_cons de_str da_nil))))))))
    (dss_cons (ds_set 3 scl_bad_terms.nd rfl (Or.inl rfl) (de_op op_addD (de_var 3) (DN.de (dn_lst (da_cons (de_op op_addD (de_op op_addD de_str (de_var 1)) de_str) (da_cons (de_op op_addD (de_var 1) de_str) (da_cons de_str (da_cons (de_op op_addD (de_op op_addD de_str (de_var 1)) de_str) (da_cons (de_op op_addD (de_op op_addD de_str (de_var 1)) de_str) da_nil)))))))))
    (dss_cons (ds_set 3 scl_bad_terms.nd rfl (Or.inl rfl) (de_op op_addD (de_var 3) (DN.de (dn_lst (da_cons (de_op op_addD (de_op op_addD de_str (de_var 1)) de_str) (da_cons de_str da_nil))))))
    (dss_one (ds_ret (de_ix ix_D (de_var 3) (de_op op_modD (de_var 0) de_int))))))))))
theorem scl_bad_words : FnScope ["_law_cell", "_law_one", "_law_other", "_law_some"] ["_law_cell", "_law_one", "_law_other"] (defScope sl_bad_words) := by walk_at "sc"
noncomputable def gl_bad_words (a : Ad) : Ev -> RT := (sSeq (sSet 3 (asN (fun ρ => ((aCons (dC (.str "")) (aCons (dC (.str "  ")) (aCons (dV 1) (aCons (d2 addD (d2 addD (d2 addD (d2 addD (dC (.str "(")) (dV 1)) (dC (.str " < "))) (dV 2)) (dC (.str ")"))) (aCons (d2 addD (dC (.str "not ")) (dV 1)) (aCons (dC (.str "and")) (aCons (dC (.str "not")) (aCons (dC (.str "[here < 1")) (aCons (dC (.str "here < 1]")) (aCons (dC (.str "[]")) aNil)))))))))) ρ).bind fitL)))
    (sSeq (sSet 3 (d2 addD (dV 3) (asN (fun ρ => ((aCons (dC (.str "back 0 < 1")) (aCons (dC (.str "back 10 < 1")) (aCons (dC (.str "back < 1")) (aCons (dC (.str "back here < 1")) (aCons (dC (.str "on -1 < 1")) (aCons (dC (.str "until 1/2 < 1")) (aCons (dC (.str "ago x < 1")) aNil))))))) ρ).bind fitL))))
    (sSeq (sSet 3 (d2 addD (dV 3) (asN (fun ρ => ((aCons (dC (.str "at < 1")) (aCons (dC (.str "at 7 < 1")) (aCons (dC (.str "at on < 1")) (aCons (dC (.str "at hillhills < 1")) (aCons (dC (.str "at Hill < 1")) (aCons (dC (.str "hill < 1")) (aCons (dC (.str "here 1 < 1")) aNil))))))) ρ).bind fitL))))
    (sSeq (sSet 3 (d2 addD (dV 3) (asN (fun ρ => ((aCons (dC (.str "2/4 < here")) (aCons (dC (.str "1/1 < here")) (aCons (dC (.str "3/0 < here")) (aCons (dC (.str "01 < here")) (aCons (dC (.str "1/02 < here")) (aCons (dC (.str "1 / 2 < here")) (aCons (dC (.str "1.5 < here")) aNil))))))) ρ).bind fitL))))
    (sSeq (sSet 3 (d2 addD (dV 3) (asN (fun ρ => ((aCons (dC (.str "1000000000 < here")) (aCons (dC (.str "1/1000000 < here")) (aCons (d2 addD (dV 1) (dC (.str " > 1"))) (aCons (d2 addD (dV 1) (dC (.str " <= 1"))) (aCons (d2 addD (dV 1) (dC (.str " <> 1"))) (aCons (d2 addD (dV 1) (dC (.str " == 1"))) aNil)))))) ρ).bind fitL))))
    (sSeq (sSet 3 (d2 addD (dV 3) (asN (fun ρ => ((aCons (dC (.str "here < 1 and")) (aCons (dC (.str "or here < 1")) (aCons (dC (.str "here < 1 and or here < 2")) (aCons (dC (.str "here < 1 here < 2")) (aCons (dC (.str "back1 < 1")) aNil))))) ρ).bind fitL))))
    (sSeq (sSet 3 (d2 addD (dV 3) (asN (fun ρ => ((aCons (dC (.str "here<1and here<2")) (aCons (dC (.str "abs(here, 1) < 2")) (aCons (dC (.str "here < 1\t")) (aCons (dC (.str "here < 1\n")) (aCons (dC (.str "{here < 1}")) aNil))))) ρ).bind fitL))))
    (sSeq (sSet 3 (d2 addD (dV 3) (asN (fun ρ => ((aCons (d2 addD (dMt "str" joinD (dC (.str " + ")) (aCons (d2 mulLD (asN (fun ρ => ((aCons (dC (.str "here")) aNil) ρ).bind fitL)) (dC (.int 15))) aNil)) (dC (.str " < 1"))) (aCons (d2 addD (d2 mulLD (dC (.str "not ")) (dC (.int 28))) (dC (.str "here < 1"))) (aCons (d2 addD (d2 addD (d2 addD (d2 mulLD (dC (.str "(")) (dC (.int 17))) (dC (.str "here"))) (d2 mulLD (dC (.str ")")) (dC (.int 17)))) (dC (.str " < 1"))) aNil))) ρ).bind fitL))))
    (sSeq (sSet 3 (d2 addD (dV 3) (asN (fun ρ => ((aCons (d2 addD (d2 addD (d2 mulLD (dC (.str "[")) (dC (.int 17))) (dC (.str "here < 1"))) (d2 mulLD (dC (.str "]")) (dC (.int 17)))) (aCons (d2 addD (d2 addD (d2 addD (d2 addD (d2 addD (d2 mulLD (dC (.str "[")) (dC (.int 9))) (d2 mulLD (dC (.str "(")) (dC (.int 8)))) (dC (.str "here"))) (d2 mulLD (dC (.str ")")) (dC (.int 8)))) (dC (.str " < 1"))) (d2 mulLD (dC (.str "]")) (dC (.int 9)))) aNil)) ρ).bind fitL))))
    (sSeq (sSet 3 (d2 addD (dV 3) (asN (fun ρ => ((aCons (d2 addD (d2 addD (d2 addD (d2 mulLD (dC (.str "abs(")) (dC (.int 17))) (dC (.str "here"))) (d2 mulLD (dC (.str ")")) (dC (.int 17)))) (dC (.str " < 1"))) (aCons (dMt "str" joinD (dC (.str " and ")) (aCons (d2 mulLD (asN (fun ρ => ((aCons (dC (.str "here < 1")) aNil) ρ).bind fitL)) (dC (.int 8))) aNil)) aNil)) ρ).bind fitL))))
    (sSeq (sSet 3 (d2 addD (dV 3) (asN (fun ρ => ((aCons (d2 addD (dMt "str" joinD (dC (.str " + ")) (aCons (d2 mulLD (asN (fun ρ => ((aCons (dC (.str "2 * here")) aNil) ρ).bind fitL)) (dC (.int 10))) aNil)) (dC (.str " < 1"))) (aCons (d2 addD (dMt "str" joinD (dC (.str " + ")) (aCons (d2 mulLD (asN (fun ρ => ((aCons (dC (.str "abs(here)")) aNil) ρ).bind fitL)) (dC (.int 10))) aNil)) (dC (.str " < 1"))) aNil)) ρ).bind fitL))))
    (sRet (d2 ixD (dV 3) (d2 modD (dV 0) (dC (.int 56))))))))))))))))
theorem okl_bad_words {a : Ad} (T : Tx K mg a) (F : Fun K "_law_bad_words" "_law_bad_words" sl_bad_words f fd) :
    FnOk P w K mg base (CXx P w) 1 f fd ["_law_cell", "_law_one", "_law_other"] (spD 3 K fun ds => finT (gl_bad_words a (startD 4 ds))) :=
  fn_den F scl_bad_words fun cdv A outer s H E hr => (dss_cons (ds_set 3 scl_bad_words.nd rfl (Or.inl rfl) (DN.de (dn_lst (da_cons de_str (da_cons de_str (da_cons (de_var 1) (da_cons (de_op op_addD (de_op op_addD (de_op op_addD (de_op op_addD de_str (de_var 1)) de_str) (de_var 2)) de_str) (da_cons (de_op op_addD de_str (de_var 1)) (da_cons de_str (da_cons de_str (da_cons de_str (da_cons de_str (da_cons de_str da_nil)))))))))))))
    (dss_cons (ds_set 3 scl_bad_words.nd rfl (Or.inl rfl) (de_op op_addD (de_var 3) (DN.de (dn_lst (da_cons de_str (da_cons de_str (da_cons de_str (da_cons de_str (da_cons de_str (da_cons de_str (da_cons de_str da_nil)))))))))))
    (dss_cons (ds_set 3 scl_bad_words.nd rfl (Or.inl rfl) (de_op op_addD (de_var 3) (DN.de (dn_lst (da_cons de_str (da_cons de_str (da_cons de_str (da_cons de_str (da_cons de_str (da_cons de_str (da_cons de_str da_nil)))))))))))
    (dss_cons (ds_set 3 scl_bad_words.nd rfl (Or.inl rfl) (de_op op_addD (de_var 3) (DN.de (dn_lst (da_cons de_str (da_cons de_str (da_cons de_str (da_cons de_str (da_cons de_str (da_cons de_str (da_cons de_str da_nil)))))))))))
    (dss_cons (ds_set 3 scl_bad_words.nd rfl (Or.inl rfl) (de_op op_addD (de_var 3) (DN.de (dn_lst (da_cons de_str (da_cons de_str (da_cons (de_op op_addD (de_var 1) de_str) (da_cons (de_op op_addD (de_var 1) de_str) (da_cons (de_op op_addD (de_var 1) de_str) (da_cons (de_op op_addD (de_var 1) de_str) da_nil))))))))))
    (dss_cons (ds_set 3 scl_bad_words.nd rfl (Or.inl rfl) (de_op op_addD (de_var 3) (DN.de (dn_lst (da_cons de_str (da_cons de_str (da_cons de_str (da_cons de_str (da_cons de_str da_nil)))))))))
    (dss_cons (ds_set 3 scl_bad_words.nd rfl (Or.inl rfl) (de_op op_addD (de_var 3) (DN.de (dn_lst (da_cons de_str (da_cons de_str (da_cons de_str (da_cons de_str (da_cons de_str da_nil)))))))))
    (dss_cons (ds_set 3 scl_bad_words.nd rfl (Or.inl rfl) (de_op op_addD (de_var 3) (DN.de (dn_lst (da_cons (de_op op_addD (de_bm PySem.F.plainAttrs_str PySem.F.slot_str_join PySem.F.type_str_join mt_joinD de_str (da_cons (de_op op_mulLD (DN.de (dn_lst (da_cons de_str da_nil))) de_int) da_nil)) de_str) (da_cons (de_op op_addD (de_op op_mulLD de_str de_int) de_str) (da_cons (de_op op_addD (de_op op_addD (de_op op_addD (de_op op_mulLD de_str de_int) de_str) (de_op op_mulLD de_str de_int)) de_str) da_nil)))))))
    (dss_cons (ds_set 3 scl_bad_words.nd rfl (Or.inl rfl) (de_op op_addD (de_var 3) (DN.de (dn_lst (da_cons (de_op op_addD (de_op op_addD (de_op op_mulLD de_str de_int) de_str) (de_op op_mulLD de_str de_int)) (da_cons (de_op op_addD (de_op op_addD (de_op op_addD (de_op op_addD (de_op op_addD (de_op op_mulLD de_str de_int) (de_op op_mulLD de_str de_int)) de_str) (de_op op_mulLD de_str de_int)) de_str) (de_op op_mulLD de_str de_int)) da_nil))))))
    (dss_cons (ds_set 3 scl_bad_words.nd rfl (Or.inl rfl) (de_op op_addD (de_var 3) (DN.de (dn_lst (da_cons (de_op op_addD (de_op op_addD (de_op op_addD (de_op op_mulLD de_str de_int) de_str) (de_op op_mulLD de_str de_int)) de_str) (da_cons (de_bm PySem.F.plainAttrs_str PySem.F.slot_str_join PySem.F.type_str_join mt_joinD de_str (da_cons (de_op op_mulLD (DN.de (dn_lst (da_cons de_str da_nil))) de_int) da_nil)) da_nil))))))
    (dss_cons (ds_set 3 scl_bad_words.nd rfl (Or.inl rfl) (de_op op_addD (de_var 3) (DN.de (dn_lst (da_cons (de_op op_addD (de_bm PySem.F.plainAttrs_str PySem.F.slot_str_join PySem.F.type_str_join mt_joinD de_str (da_cons (de_op op_mulLD (DN.de (dn_lst (da_cons de_str da_nil))) de_int) da_nil)) de_str) (da_cons (de_op op_addD (de_bm PySem.F.plainAttrs_str PySem.F.slot_str_join PySem.F.type_str_join mt_joinD de_str (da_cons (de_op op_mulLD (DN.de (dn_lst (da_cons de_str da_nil))) de_int) da_nil)) de_str) da_nil))))))
    (dss_one (ds_ret (de_ix ix_D (de_var 3) (de_op op_modD (de_var 0) de_int)))))))))))))))
theorem scl_within : FnScope ["_law_cell", "_law_bad", "_law_good_here", "_law_some"] ["_law_cell", "_law_bad", "_law_good_here"] (defScope sl_within) := by walk_at "sc"
noncomputable def gl_within (a : Ad) : Ev -> RT := (sSeq (sSet 3 (asN (fun ρ => ((aCons (dV 1) (aCons (d2 addD (d2 addD (dV 2) (dC (.str " or "))) (dV 1)) (aCons (d2 addD (d2 addD (dC (.str "[")) (dV 1)) (dC (.str "]"))) (aCons (d2 addD (d2 addD (dC (.str "not [")) (dV 1)) (dC (.str "]"))) (aCons (d2 addD (d2 addD (dV 1) (dC (.str " and "))) (dV 2)) (aCons (dV 1) aNil)))))) ρ).bind fitL)))
    (sRet (d2 ixD (dV 3) (d2 modD (dV 0) (dC (.int 6))))))
theorem okl_within {a : Ad} (T : Tx K mg a) (F : Fun K "_law_within" "_law_within" sl_within f fd) :
    FnOk P w K mg base (CXx P w) 1 f fd ["_law_cell", "_law_bad", "_law_good_here"] (spD 3 K fun ds => finT (gl_within a (startD 4 ds))) :=
  fn_den F scl_within fun cdv A outer s H E hr => (dss_cons (ds_set 3 scl_within.nd rfl (Or.inl rfl) (DN.de (dn_lst (da_cons (de_var 1) (da_cons (de_op op_addD (de_op op_addD (de_var 2) de_str) (de_var 1)) (da_cons (de_op op_addD (de_op op_addD de_str (de_var 1)) de_str) (da_cons (de_op op_addD (de_op op_addD de_str (de_var 1)) de_str) (da_cons (de_op op_addD (de_op op_addD (de_var 1) de_str) (de_var 2)) (da_cons (de_var 1) da_nil)))))))))
    (dss_one (ds_ret (de_ix ix_D (de_var 3) (de_op op_modD (de_var 0) de_int)))))
theorem scl_sum : FnScope ["_law_many", "_law_due", "_law_k"] ["_law_many"] (defScope sl_sum) := by walk_at "sc"
noncomputable def b1l_sum (a : Ad) : Ev -> RT := (sSet 1 (dA mkT (aCons (dC (.str "+")) (aCons (dV 1) (aCons (dA mkT (aCons (dC (.str "here")) aNil)) aNil)))))
noncomputable def gl_sum (a : Ad) : Ev -> RT := (sSeq (sSet 1 (dA mkT (aCons (dC (.str "here")) aNil)))
    (sSeq (sFor (fun ρ => ((aCons (dV 0) aNil) ρ).bind rng1) (gV 2) (b1l_sum a))
    (sRet (dV 1))))
theorem okl_sum {a : Ad} (T : Tx K mg a) (F : Fun K "_law_sum" "_law_sum" sl_sum f fd) :
    FnOk P w K mg base (CXx P w) 1 f fd ["_law_many"] (spD 1 K fun ds => finT (gl_sum a (startD 3 ds))) :=
  fn_den F scl_sum fun cdv A outer s H E hr => (dss_cons (ds_set 1 scl_sum.nd rfl (Or.inl rfl) (de_tup (da_cons de_str da_nil)))
    (dss_cons (ds_for pass_cx rfl (di_range1 rfl T.b_range (da_cons (de_var 0) da_nil)) (dg_name 2 scl_sum.nd rfl (Or.inl rfl)) (dss_one (ds_set 1 scl_sum.nd rfl (Or.inl rfl) (de_tup (da_cons de_str (da_cons (de_var 1) (da_cons (de_tup (da_cons de_str da_nil)) da_nil)))))))
    (dss_one (ds_ret (de_var 1)))))
theorem scl_nots : FnScope ["_law_many", "_law_due", "_law_k"] ["_law_many"] (defScope sl_nots) := by walk_at "sc"
noncomputable def b1l_nots (a : Ad) : Ev -> RT := (sSet 1 (dA mkT (aCons (dC (.str "not")) (aCons (dV 1) aNil))))
noncomputable def gl_nots (a : Ad) : Ev -> RT := (sSeq (sSet 1 (dA mkT (aCons (dC (.str "<")) (aCons (dA mkT (aCons (dC (.str "here")) aNil)) (aCons (dA mkT (aCons (dC (.str "num")) (aCons (dA mkT (aCons (dC (.int 1)) (aCons (dC (.int 1)) aNil))) aNil))) aNil)))))
    (sSeq (sFor (fun ρ => ((aCons (dV 0) aNil) ρ).bind rng1) (gV 2) (b1l_nots a))
    (sRet (dV 1))))
theorem okl_nots {a : Ad} (T : Tx K mg a) (F : Fun K "_law_nots" "_law_nots" sl_nots f fd) :
    FnOk P w K mg base (CXx P w) 1 f fd ["_law_many"] (spD 1 K fun ds => finT (gl_nots a (startD 3 ds))) :=
  fn_den F scl_nots fun cdv A outer s H E hr => (dss_cons (ds_set 1 scl_nots.nd rfl (Or.inl rfl) (de_tup (da_cons de_str (da_cons (de_tup (da_cons de_str da_nil)) (da_cons (de_tup (da_cons de_str (da_cons (de_tup (da_cons de_int (da_cons de_int da_nil))) da_nil))) da_nil)))))
    (dss_cons (ds_for pass_cx rfl (di_range1 rfl T.b_range (da_cons (de_var 0) da_nil)) (dg_name 2 scl_nots.nd rfl (Or.inl rfl)) (dss_one (ds_set 1 scl_nots.nd rfl (Or.inl rfl) (de_tup (da_cons de_str (da_cons (de_var 1) da_nil))))))
    (dss_one (ds_ret (de_var 1)))))
theorem scl_good : FnScope ["_law_cell", "_law_one", "_law_due", "_law_k", "_law_two"] ["_law_cell"] (defScope sl_good) := by walk_at "sc"
noncomputable def b1l_good (a : Ad) (Fl_sum : List D -> R D) (Fl_nots : List D -> R D) : Ev -> RT := (sSet 2 (dA mkT (aCons (dC (.str "and")) (aCons (dV 2) (aCons (dA Fl_nots (aCons (dC (.int 0)) aNil)) aNil)))))
noncomputable def gl_good (a : Ad) (Fl_sum : List D -> R D) (Fl_nots : List D -> R D) : Ev -> RT := (sSeq (sSet 1 (dA mkT (aCons (dC (.str "num")) (aCons (dA mkT (aCons (dC (.int 1)) (aCons (dC (.int 1)) aNil))) aNil))))
    (sSeq (sIf (b1 tB (d2 eqSD (d2 modD (dV 0) (dC (.int 10))) (dC (.int 0)))) (sRet (dA mkT (aCons (d2 addD (dMt "str" joinD (dC (.str " + ")) (aCons (d2 mulLD (asN (fun ρ => ((aCons (dC (.str "here")) aNil) ρ).bind fitL)) (dC (.int 14))) aNil)) (dC (.str " < 1"))) (aCons (dA mkT (aCons (dC (.str "<")) (aCons (dA Fl_sum (aCons (dC (.int 13)) aNil)) (aCons (dV 1) aNil)))) aNil)))) sNil)
    (sSeq (sIf (b1 tB (d2 eqSD (d2 modD (dV 0) (dC (.int 10))) (dC (.int 1)))) (sRet (dA mkT (aCons (d2 addD (d2 mulLD (dC (.str "not ")) (dC (.int 27))) (dC (.str "here < 1"))) (aCons (dA Fl_nots (aCons (dC (.int 27)) aNil)) aNil)))) sNil)
    (sSeq (sIf (b1 tB (d2 eqSD (d2 modD (dV 0) (dC (.int 10))) (dC (.int 2)))) (sRet (dA mkT (aCons (d2 addD (d2 addD (d2 addD (d2 mulLD (dC (.str "(")) (dC (.int 16))) (dC (.str "here"))) (d2 mulLD (dC (.str ")")) (dC (.int 16)))) (dC (.str "<1"))) (aCons (dA mkT (aCons (dC (.str "<")) (aCons (dA mkT (aCons (dC (.str "here")) aNil)) (aCons (dV 1) aNil)))) aNil)))) sNil)
    (sSeq (sIf (b1 tB (d2 eqSD (d2 modD (dV 0) (dC (.int 10))) (dC (.int 3)))) (sRet (dA mkT (aCons (d2 addD (d2 addD (d2 mulLD (dC (.str "[")) (dC (.int 16))) (dC (.str "here < 1"))) (d2 mulLD (dC (.str "]")) (dC (.int 16)))) (aCons (dA mkT (aCons (dC (.str "<")) (aCons (dA mkT (aCons (dC (.str "here")) aNil)) (aCons (dV 1) aNil)))) aNil)))) sNil)
    (sSeq (sIf (b1 tB (d2 eqSD (d2 modD (dV 0) (dC (.int 10))) (dC (.int 4)))) (sRet (dA mkT (aCons (dC (.str "999999999/999998 < here")) (aCons (dA mkT (aCons (dC (.str "<")) (aCons (dA mkT (aCons (dC (.str "num")) (aCons (dA mkT (aCons (dC (.int 999999999)) (aCons (dC (.int 999998)) aNil))) aNil))) (aCons (dA mkT (aCons (dC (.str "here")) aNil)) aNil)))) aNil)))) sNil)
    (sSeq (sIf (b1 tB (d2 eqSD (d2 modD (dV 0) (dC (.int 10))) (dC (.int 5)))) (sRet (dA mkT (aCons (dC (.str "at abcdefgh=back 9")) (aCons (dA mkT (aCons (dC (.str "=")) (aCons (dA mkT (aCons (dC (.str "at")) (aCons (dC (.str "abcdefgh")) aNil))) (aCons (dA mkT (aCons (dC (.str "back")) (aCons (dC (.int 9)) aNil))) aNil)))) aNil)))) sNil)
    (sSeq (sIf (b1 tB (d2 eqSD (d2 modD (dV 0) (dC (.int 10))) (dC (.int 9)))) (sSeq (sSet 2 (dA Fl_nots (aCons (dC (.int 3)) aNil)))
    (sSeq (sFor (fun ρ => ((aCons (dC (.int 6)) aNil) ρ).bind rng1) (gV 3) (b1l_good a Fl_sum Fl_nots))
    (sRet (dA mkT (aCons (d2 addD (dC (.str "not not not here<1")) (d2 mulLD (dC (.str " and here<1")) (dC (.int 6)))) (aCons (dV 2) aNil)))))) sNil)
    (sSeq (sIf (b1 tB (d2 eqSD (d2 modD (dV 0) (dC (.int 10))) (dC (.int 8)))) (sSeq (sSet 4 (dA mkT (aCons (dC (.str "+")) (aCons (dA mkT (aCons (dC (.str "-")) (aCons (dA mkT (aCons (dC (.str "times")) (aCons (dA mkT (aCons (dC (.int 2)) (aCons (dC (.int 1)) aNil))) (aCons (dA mkT (aCons (dC (.str "here")) aNil)) aNil)))) (aCons (dV 1) aNil)))) (aCons (dA mkT (aCons (dC (.str "back")) (aCons (dC (.int 1)) aNil))) aNil)))))
    (sRet (dA mkT (aCons (dC (.str "2*here-1+back 1<3*(here-1)")) (aCons (dA mkT (aCons (dC (.str "<")) (aCons (dV 4) (aCons (dA mkT (aCons (dC (.str "times")) (aCons (dA mkT (aCons (dC (.int 3)) (aCons (dC (.int 1)) aNil))) (aCons (dA mkT (aCons (dC (.str "-")) (aCons (dA mkT (aCons (dC (.str "here")) aNil)) (aCons (dV 1) aNil)))) aNil)))) aNil)))) aNil))))) sNil)
    (sSeq (sIf (b1 tB (d2 eqSD (d2 modD (dV 0) (dC (.int 10))) (dC (.int 7)))) (sRet (dA mkT (aCons (d2 addD (d2 addD (d2 addD (d2 addD (d2 addD (d2 mulLD (dC (.str "[")) (dC (.int 8))) (d2 mulLD (dC (.str "(")) (dC (.int 8)))) (dC (.str "here"))) (d2 mulLD (dC (.str ")")) (dC (.int 8)))) (dC (.str "<1"))) (d2 mulLD (dC (.str "]")) (dC (.int 8)))) (aCons (dA mkT (aCons (dC (.str "<")) (aCons (dA mkT (aCons (dC (.str "here")) aNil)) (aCons (dV 1) aNil)))) aNil)))) sNil)
    (sSeq (sIf (bAnd (b1 tB (d2 eqSD (d2 modD (dV 0) (dC (.int 10))) (dC (.int 6)))) (b1 tB (d2 eqSD (d2 modD (d2 fdivD (dV 0) (dC (.int 10))) (dC (.int 2))) (dC (.int 0))))) (sRet (dA mkT (aCons (d2 addD (dMt "str" joinD (dC (.str " + ")) (aCons (d2 mulLD (asN (fun ρ => ((aCons (dC (.str "((here))")) aNil) ρ).bind fitL)) (dC (.int 9))) aNil)) (dC (.str " < 1"))) (aCons (dA mkT (aCons (dC (.str "<")) (aCons (dA Fl_sum (aCons (dC (.int 8)) aNil)) (aCons (dV 1) aNil)))) aNil)))) sNil)
    (sRet (dA mkT (aCons (dC (.str "not not[here<1]and here<1")) (aCons (dA mkT (aCons (dC (.str "and")) (aCons (dA Fl_nots (aCons (dC (.int 2)) aNil)) (aCons (dA Fl_nots (aCons (dC (.int 0)) aNil)) aNil)))) aNil)))))))))))))))
theorem okl_good {a : Ad} (T : Tx K mg a) (F : Fun K "_law_good" "_law_good" sl_good f fd)
    (hl_sum : Has P w K mg base (CXx P w) 1 "_law_sum" ["_law_many"] (spD 1 K Fl_sum))
    (hl_nots : Has P w K mg base (CXx P w) 1 "_law_nots" ["_law_many"] (spD 1 K Fl_nots)) :
    FnOk P w K mg base (CXx P w) 2 f fd ["_law_cell"] (spD 1 K fun ds => finT (gl_good a Fl_sum Fl_nots (startD 5 ds))) :=
  fn_den F scl_good fun cdv A outer s H E hr => (dss_cons (ds_set 1 scl_good.nd rfl (Or.inl rfl) (de_tup (da_cons de_str (da_cons (de_tup (da_cons de_int (da_cons de_int da_nil))) da_nil))))
    (dss_cons (ds_if (dt_cmp op_eqSD (de_op op_modD (de_var 0) de_int) de_int) (dss_one (ds_ret (de_tup (da_cons (de_op op_addD (de_bm PySem.F.plainAttrs_str PySem.F.slot_str_join PySem.F.type_str_join mt_joinD de_str (da_cons (de_op op_mulLD (DN.de (dn_lst (da_cons de_str da_nil))) de_int) da_nil)) de_str) (da_cons (de_tup (da_cons de_str (da_cons (de_call hl_sum hr rfl passX rfl (da_cons de_int da_nil)) (da_cons (de_var 1) da_nil)))) da_nil))))) dss_nil)
    (dss_cons (ds_if (dt_cmp op_eqSD (de_op op_modD (de_var 0) de_int) de_int) (dss_one (ds_ret (de_tup (da_cons (de_op op_addD (de_op op_mulLD de_str de_int) de_str) (da_cons (de_call hl_nots hr rfl passX rfl (da_cons de_int da_nil)) da_nil))))) dss_nil)
    (dss_cons (ds_if (dt_cmp op_eqSD (de_op op_modD (de_var 0) de_int) de_int) (dss_one (ds_ret (de_tup (da_cons (de_op op_addD (de_op op_addD (de_op op_addD (de_op op_mulLD de_str de_int) de_str) (de_op op_mulLD de_str de_int)) de_str) (da_cons (de_tup (da_cons de_str (da_cons (de_tup (da_cons de_str da_nil)) (da_cons (de_var 1) da_nil)))) da_nil))))) dss_nil)
    (dss_cons (ds_if (dt_cmp op_eqSD (de_op op_modD (de_var 0) de_int) de_int) (dss_one (ds_ret (de_tup (da_cons (de_op op_addD (de_op op_addD (de_op op_mulLD de_str de_int) de_str) (de_op op_mulLD de_str de_int)) (da_cons (de_tup (da_cons de_str (da_cons (de_tup (da_cons de_str da_nil)) (da_cons (de_var 1) da_nil)))) da_nil))))) dss_nil)
    (dss_cons (ds_if (dt_cmp op_eqSD (de_op op_modD (de_var 0) de_int) de_int) (dss_one (ds_ret (de_tup (da_cons de_str (da_cons (de_tup (da_cons de_str (da_cons (de_tup (da_cons de_str (da_cons (de_tup (da_cons de_int (da_cons de_int da_nil))) da_nil))) (da_cons (de_tup (da_cons de_str da_nil)) da_nil)))) da_nil))))) dss_nil)
    (dss_cons (ds_if (dt_cmp op_eqSD (de_op op_modD (de_var 0) de_int) de_int) (dss_one (ds_ret (de_tup (da_cons de_str (da_cons (de_tup (da_cons de_str (da_cons (de_tup (da_cons de_str (da_cons de_str da_nil))) (da_cons (de_tup (da_cons de_str (da_cons de_int da_nil))) da_nil)))) da_nil))))) dss_nil)
    (dss_cons (ds_if (dt_cmp op_eqSD (de_op op_modD (de_var 0) de_int) de_int) (dss_cons (ds_set 2 scl_good.nd rfl (Or.inl rfl) (de_call hl_nots hr rfl passX rfl (da_cons de_int da_nil)))
    (dss_cons (ds_for pass_cx rfl (di_range1 rfl T.b_range (da_cons de_int da_nil)) (dg_name 3 scl_good.nd rfl (Or.inl rfl)) (dss_one (ds_set 2 scl_good.nd rfl (Or.inl rfl) (de_tup (da_cons de_str (da_cons (de_var 2) (da_cons (de_call hl_nots hr rfl passX rfl (da_cons de_int da_nil)) da_nil)))))))
    (dss_one (ds_ret (de_tup (da_cons (de_op op_addD de_str (de_op op_mulLD de_str de_int)) (da_cons (de_var 2) da_nil))))))) dss_nil)
    (dss_cons (ds_if (dt_cmp op_eqSD (de_op op_modD (de_var 0) de_int) de_int) (dss_cons (ds_set 4 scl_good.nd rfl (Or.inl rfl) (de_tup (da_cons de_str (da_cons (de_tup (da_cons de_str (da_cons (de_tup (da_cons de_str (da_cons (de_tup (da_cons de_int (da_cons de_int da_nil))) (da_cons (de_tup (da_cons de_str da_nil)) da_nil)))) (da_cons (de_var 1) da_nil)))) (da_cons (de_tup (da_cons de_str (da_cons de_int da_nil))) da_nil)))))
    (dss_one (ds_ret (de_tup (da_cons de_str (da_cons (de_tup (da_cons de_str (da_cons (de_var 4) (da_cons (de_tup (da_cons de_str (da_cons (de_tup (da_cons de_int (da_cons de_int da_nil))) (da_cons (de_tup (da_cons de_str (da_cons (de_tup (da_cons de_str da_nil)) (da_cons (de_var 1) da_nil)))) da_nil)))) da_nil)))) da_nil)))))) dss_nil)
    (dss_cons (ds_if (dt_cmp op_eqSD (de_op op_modD (de_var 0) de_int) de_int) (dss_one (ds_ret (de_tup (da_cons (de_op op_addD (de_op op_addD (de_op op_addD (de_op op_addD (de_op op_addD (de_op op_mulLD de_str de_int) (de_op op_mulLD de_str de_int)) de_str) (de_op op_mulLD de_str de_int)) de_str) (de_op op_mulLD de_str de_int)) (da_cons (de_tup (da_cons de_str (da_cons (de_tup (da_cons de_str da_nil)) (da_cons (de_var 1) da_nil)))) da_nil))))) dss_nil)
    (dss_cons (ds_if (DW.dt (dw_and (dt_cmp op_eqSD (de_op op_modD (de_var 0) de_int) de_int) (dw_and1 (dt_cmp op_eqSD (de_op op_modD (de_op op_fdivD (de_var 0) de_int) de_int) de_int)))) (dss_one (ds_ret (de_tup (da_cons (de_op op_addD (de_bm PySem.F.plainAttrs_str PySem.F.slot_str_join PySem.F.type_str_join mt_joinD de_str (da_cons (de_op op_mulLD (DN.de (dn_lst (da_cons de_str da_nil))) de_int) da_nil)) de_str) (da_cons (de_tup (da_cons de_str (da_cons (de_call hl_sum hr rfl passX rfl (da_cons de_int da_nil)) (da_cons (de_var 1) da_nil)))) da_nil))))) dss_nil)
    (dss_one (ds_ret (de_tup (da_cons de_str (da_cons (de_tup (da_cons de_str (da_cons (de_call hl_nots hr rfl passX rfl (da_cons de_int da_nil)) (da_cons (de_call hl_nots hr rfl passX rfl (da_cons de_int da_nil)) da_nil)))) da_nil))))))))))))))))
theorem scl_alike : FnScope ["_law_found", "_law_due"] ["_law_found", "_law_due"] (defScope sl_alike) := by walk_at "sc"
noncomputable def gl_alike (a : Ad) (Fl_alike : List D -> R D) : Ev -> RT := (sSeq (sIf (b1 tT (dA (isXD a.isx) (aCons (dV 1) (aCons (dC (.ty "tuple")) aNil)))) (sSeq (sIf (bOr (bNot (b1 tT (dA (isXD a.isx) (aCons (dV 0) (aCons (dC (.ty "tuple")) aNil))))) (b1 tB (d2 neSD (dA lenD (aCons (dV 0) aNil)) (dA lenD (aCons (dV 1) aNil))))) (sRet (dC (.bl false))) sNil)
    (sRet (dA allD (aCons (asN (dComp (fun ρ => ((aCons (dA lenD (aCons (dV 1) aNil)) aNil) ρ).bind rng1) 1 [1, 0] (gV 0) (fun _ => .ok true) (dA Fl_alike (aCons (d2 ixD (dV 2) (dV 0)) (aCons (d2 ixD (dV 1) (dV 0)) aNil))))) aNil)))) sNil)
    (sSeq (sIf (b1 tT (dA (isXD a.isx) (aCons (dV 1) (aCons (dC (.ty "str")) aNil)))) (sRet (dAnd (dA (isXD a.isx) (aCons (dV 0) (aCons (dC (.ty "str")) aNil))) (d2 eqSD (dV 0) (dV 1)))) sNil)
    (sRet (dAnd (dA (isXD a.isx) (aCons (dV 0) (aCons (dC (.ty "int")) aNil))) (dAnd (dNot (dA (isXD a.isx) (aCons (dV 0) (aCons (dC (.ty "bool")) aNil)))) (d2 eqSD (dV 0) (dV 1)))))))
theorem okl_alike {a : Ad} {k : Nat} (T : Tx K mg a) (F : Fun K "_law_alike" "_law_alike" sl_alike f fd)
    (hl_alike : Has P w K mg base (CXx P w) k "_law_alike" ["_law_found", "_law_due"] (spD 2 K Fl_alike)) :
    FnOk P w K mg base (CXx P w) (k + 1) f fd ["_law_found", "_law_due"] (spD 2 K fun ds => finT (gl_alike a Fl_alike (startD 2 ds))) :=
  fn_den F scl_alike fun cdv A outer s H E hr => (dss_cons (ds_if (dt_truth (de_callB (call_isXD T.isok) rfl T.b_isinstance bt_isinstance (da_cons (de_var 1) (da_cons (de_ty rfl T.b_tuple bt_tuple) da_nil)))) (dss_cons (ds_if (DW.dt (dw_or (dt_not (dt_truth (de_callB (call_isXD T.isok) rfl T.b_isinstance bt_isinstance (da_cons (de_var 0) (da_cons (de_ty rfl T.b_tuple bt_tuple) da_nil))))) (dw_or1 (dt_cmp op_neSD (de_callB call_lenD rfl T.b_len bt_len (da_cons (de_var 0) da_nil)) (de_callB call_lenD rfl T.b_len bt_len (da_cons (de_var 1) da_nil)))))) (dss_one (ds_ret de_bl)) dss_nil)
    (dss_one (ds_ret (de_callB (call_allD rfl) rfl T.b_all bt_all (da_cons (DN.de (DNU.dn (dnu_comp2 (Nt := ["_law_k"]) (tn := 1) (x := "_law_due") (y := "_law_found") 1 0 [(".0", .local), ("_law_k", .local), ("_law_alike", .globalImplicit), ("_law_due", .cell), ("_law_found", .cell)] (by decide) rfl (di_range1 rfl T.b_range (da_cons (de_callB call_lenD rfl T.b_len bt_len (da_cons (de_var 1) da_nil)) da_nil)) (fun _ _ _ _ => (dg_name 0 (show List.Nodup (["_law_k", "_law_due", "_law_found"] : List Str) from by decide +kernel) rfl (Or.inl rfl))) (by simp) (fun _ _ _ _ => df_nil) (fun _ _ _ _ => (de_call hl_alike hr rfl passN rfl (da_cons (de_ix ix_D (de_var 2) (de_var 0)) (da_cons (de_ix ix_D (de_var 1) (de_var 0)) da_nil)))) rfl (by decide +kernel) (by decide +kernel) rfl rfl rfl rfl rfl rfl rfl rfl rfl (by decide +kernel) (by decide +kernel)))) da_nil))))) dss_nil)
    (dss_cons (ds_if (dt_truth (de_callB (call_isXD T.isok) rfl T.b_isinstance bt_isinstance (da_cons (de_var 1) (da_cons (de_ty rfl T.b_str bt_str) da_nil)))) (dss_one (ds_ret (de_and (de_callB (call_isXD T.isok) rfl T.b_isinstance bt_isinstance (da_cons (de_var 0) (da_cons (de_ty rfl T.b_str bt_str) da_nil))) (de_one (de_cmp op_eqSD (de_var 0) (de_var 1)))))) dss_nil)
    (dss_one (ds_ret (de_and (de_callB (call_isXD T.isok) rfl T.b_isinstance bt_isinstance (da_cons (de_var 0) (da_cons (de_ty rfl T.b_int bt_int) da_nil))) (de_and (de_not (de_callB (call_isXD T.isok) rfl T.b_isinstance bt_isinstance (da_cons (de_var 0) (da_cons (de_ty rfl T.b_bool bt_bool) da_nil)))) (de_one (de_cmp op_eqSD (de_var 0) (de_var 1)))))))))
theorem scl_refused : FnScope ["_law_text", "_law_caught", "e", "_law_some"] ["_law_text"] (defScope sl_refused) := by walk_at "sc"
noncomputable def gl_refused (a : Ad) (Fr_condition : List D -> R D) : Ev -> RT := (sSeq (sSet 1 (dC .non))
    (sSeq (sTryAs 2 (mtX a.isx a.WeatherError) (fun ρ => ((dAx Fr_condition (aCons (dV 0) aNil)) ρ).bind fun _ => .ok ρ) (sSet 1 (dV 2)))
    (sSeq (sIf (bOr (bNot (b1 tT (dA (isXD a.isx) (aCons (dV 1) (aCons (dC (.ref a.NoText)) aNil))))) (bOr (bNot (b1 tT (dA (isXD a.isx) (aCons (dV 1) (aCons (dC (.ty "ValueError")) aNil))))) (b1 tB (d2 neSD (d1 (xfldD a.NoText "row") (dV 1)) (dC (.int 1)))))) (sRet (dC (.bl false))) sNil)
    (sSeq (sSet 3 (asN (fun ρ => ((aCons (dA (isXD a.isx) (aCons (dV 1) (aCons (dC (.ref a.NoFraction)) aNil))) (aCons (dA (isXD a.isx) (aCons (dV 1) (aCons (dC (.ref a.NoRow)) aNil))) (aCons (dA (isXD a.isx) (aCons (dV 1) (aCons (dC (.ref a.TooMany)) aNil))) aNil))) ρ).bind fitL)))
    (sRet (dAnd (dNot (dA anyD (aCons (dV 3) aNil))) (dNot (dA (isXD a.isx) (aCons (dV 1) (aCons (dC (.ref a.Twice)) aNil))))))))))
theorem okl_refused {a : Ad} (T : Tx K mg a) (F : Fun K "_law_refused" "_law_refused" sl_refused f fd)
    (hr_condition : Has P w K mg base (CXx P w) 168 "read_condition" ["text"] (spD 1 K Fr_condition)) :
    FnOk P w K mg base (CXx P w) 169 f fd ["_law_text"] (spD 1 K fun ds => finT (gl_refused a Fr_condition (startD 4 ds))) :=
  fn_den F scl_refused fun cdv A outer s H E hr => (dss_cons (ds_set 1 scl_refused.nd rfl (Or.inl rfl) de_non)
    (dss_cons (ds_tryAs 2 (mtX a.isx a.WeatherError) rfl rfl scl_refused.nd rfl rfl (db_expr (dx_call hr_condition hr rfl rfl (da_cons (de_var 0) da_nil))) (fun _ => (dss_one (ds_set 1 scl_refused.nd rfl (Or.inl rfl) (de_var 2)))) (mt_X T.isok T.y_WeatherError) rfl T.c_WeatherError)
    (dss_cons (ds_if (DW.dt (dw_or (dt_not (dt_truth (de_callB (call_isXD T.isok) rfl T.b_isinstance bt_isinstance (da_cons (de_var 1) (da_cons (de_cls rfl T.c_NoText) da_nil))))) (dw_or (dt_not (dt_truth (de_callB (call_isXD T.isok) rfl T.b_isinstance bt_isinstance (da_cons (de_var 1) (da_cons (de_ty rfl T.b_ValueError bt_ValueError) da_nil))))) (dw_or1 (dt_cmp op_neSD (de_xfld T.x_row (de_var 1) rfl) de_int))))) (dss_one (ds_ret de_bl)) dss_nil)
    (dss_cons (ds_set 3 scl_refused.nd rfl (Or.inl rfl) (DN.de (dn_lst (da_cons (de_callB (call_isXD T.isok) rfl T.b_isinstance bt_isinstance (da_cons (de_var 1) (da_cons (de_cls rfl T.c_NoFraction) da_nil))) (da_cons (de_callB (call_isXD T.isok) rfl T.b_isinstance bt_isinstance (da_cons (de_var 1) (da_cons (de_cls rfl T.c_NoRow) da_nil))) (da_cons (de_callB (call_isXD T.isok) rfl T.b_isinstance bt_isinstance (da_cons (de_var 1) (da_cons (de_cls rfl T.c_TooMany) da_nil))) da_nil))))))
    (dss_one (ds_ret (de_and (de_not (de_callB (call_anyD rfl) rfl T.b_any bt_any (da_cons (de_var 3) da_nil))) (de_one (de_not (de_callB (call_isXD T.isok) rfl T.b_isinstance bt_isinstance (da_cons (de_var 1) (da_cons (de_cls rfl T.c_Twice) da_nil))))))))))))
theorem sc_law : FnScope ["_law_script", "_law_one", "_law_other", "_law_cell", "_law_bad", "_law_text", "_law_good_here"] ["_law_script"] (defScope s_law) := by walk_at "sc"
noncomputable def b1_law (a : Ad) (Fl_cell_at : List D -> R D) (Fl_single : List D -> R D) (Fl_bad_words : List D -> R D) (Fl_bad_terms : List D -> R D) (Fl_compared : List D -> R D) (Fl_within : List D -> R D) (Fl_good : List D -> R D) (Fl_refused : List D -> R D) (Fr_condition : List D -> R D) (Fl_alike : List D -> R D) : Ev -> RT := (sSeq (sSet 4 (dA Fl_bad_words (aCons (d2 fdivD (dV 3) (dC (.int 3))) (aCons (dV 1) (aCons (dV 2) aNil)))))
    (sSeq (sIf (b1 tB (d2 eqSD (d2 modD (dV 3) (dC (.int 3))) (dC (.int 1)))) (sSet 4 (dA Fl_bad_terms (aCons (d2 fdivD (dV 3) (dC (.int 3))) (aCons (dV 1) (aCons (dV 2) aNil))))) sNil)
    (sSeq (sSet 5 (dA Fl_within (aCons (d2 fdivD (dV 3) (dC (.int 150))) (aCons (dV 4) (aCons (dA Fl_compared (aCons (d2 fdivD (dV 3) (dC (.int 900))) aNil)) aNil)))))
    (sSeq (sSet 6 (dA Fl_good (aCons (d2 fdivD (dV 3) (dC (.int 7))) aNil)))
    (sIf (bOr (bNot (b1 tT (dA Fl_refused (aCons (dV 5) aNil)))) (bNot (b1 tT (dA Fl_alike (aCons (dA Fr_condition (aCons (d2 ixD (dV 6) (dC (.int 0))) aNil)) (aCons (d2 ixD (dV 6) (dC (.int 1))) aNil)))))) (sRet (dC (.bl false))) sNil)))))
noncomputable def g_law (a : Ad) (Fl_cell_at : List D -> R D) (Fl_single : List D -> R D) (Fl_bad_words : List D -> R D) (Fl_bad_terms : List D -> R D) (Fl_compared : List D -> R D) (Fl_within : List D -> R D) (Fl_good : List D -> R D) (Fl_refused : List D -> R D) (Fr_condition : List D -> R D) (Fl_alike : List D -> R D) : Ev -> RT := (sSeq (sSet 1 (dA Fl_single (aCons (dA Fl_cell_at (aCons (dV 0) (aCons (dC (.int 0)) aNil))) aNil)))
    (sSeq (sSet 2 (dA Fl_single (aCons (dA Fl_cell_at (aCons (dV 0) (aCons (dC (.int 1)) aNil))) aNil)))
    (sSeq (sFor (fun ρ => ((d2 addD (asN (fun ρ => ((aCons (dA Fl_cell_at (aCons (dV 0) (aCons (dC (.int 2)) aNil))) aNil) ρ).bind fitL)) (dSl slWD (dV 0) (fun ρ => ((dC (.int 3)) ρ).bind pI) (fun ρ => ((dC (.int 23)) ρ).bind pI))) ρ).bind asI) (gV 3) (b1_law a Fl_cell_at Fl_single Fl_bad_words Fl_bad_terms Fl_compared Fl_within Fl_good Fl_refused Fr_condition Fl_alike))
    (sRet (dC (.bl true))))))
theorem ok_law {a : Ad} (T : Tx K mg a) (F : Fun K "law" "law" s_law f fd)
    (hl_cell_at : Has P w K mg base (CXx P w) 169 "_law_cell_at" ["_law_script", "_law_k"] (spD 2 K Fl_cell_at))
    (hl_single : Has P w K mg base (CXx P w) 169 "_law_single" ["_law_cell"] (spD 1 K Fl_single))
    (hl_bad_words : Has P w K mg base (CXx P w) 169 "_law_bad_words" ["_law_cell", "_law_one", "_law_other"] (spD 3 K Fl_bad_words))
    (hl_bad_terms : Has P w K mg base (CXx P w) 169 "_law_bad_terms" ["_law_cell", "_law_one", "_law_other"] (spD 3 K Fl_bad_terms))
    (hl_compared : Has P w K mg base (CXx P w) 169 "_law_compared" ["_law_cell"] (spD 1 K Fl_compared))
    (hl_within : Has P w K mg base (CXx P w) 169 "_law_within" ["_law_cell", "_law_bad", "_law_good_here"] (spD 3 K Fl_within))
    (hl_good : Has P w K mg base (CXx P w) 169 "_law_good" ["_law_cell"] (spD 1 K Fl_good))
    (hl_refused : Has P w K mg base (CXx P w) 169 "_law_refused" ["_law_text"] (spD 1 K Fl_refused))
    (hr_condition : Has P w K mg base (CXx P w) 169 "read_condition" ["text"] (spD 1 K Fr_condition))
    (hl_alike : Has P w K mg base (CXx P w) 169 "_law_alike" ["_law_found", "_law_due"] (spD 2 K Fl_alike)) :
    FnOk P w K mg base (CXx P w) 170 f fd ["_law_script"] (spD 1 K fun ds => finT (g_law a Fl_cell_at Fl_single Fl_bad_words Fl_bad_terms Fl_compared Fl_within Fl_good Fl_refused Fr_condition Fl_alike (startD 7 ds))) :=
  fn_den F sc_law fun cdv A outer s H E hr => (dss_cons (ds_set 1 sc_law.nd rfl (Or.inl rfl) (de_call hl_single hr rfl passX rfl (da_cons (de_call hl_cell_at hr rfl passX rfl (da_cons (de_var 0) (da_cons de_int da_nil))) da_nil)))
    (dss_cons (ds_set 2 sc_law.nd rfl (Or.inl rfl) (de_call hl_single hr rfl passX rfl (da_cons (de_call hl_cell_at hr rfl passX rfl (da_cons (de_var 0) (da_cons de_int da_nil))) da_nil)))
    (dss_cons (ds_for pass_cx rfl (di_any (de_op op_addD (DN.de (dn_lst (da_cons (de_call hl_cell_at hr rfl passX rfl (da_cons (de_var 0) (da_cons de_int da_nil))) da_nil))) (de_slice sl_WD (de_var 0) (do_some de_int) (do_some de_int)))) (dg_name 3 sc_law.nd rfl (Or.inl rfl)) (dss_cons (ds_set 4 sc_law.nd rfl (Or.inl rfl) (de_call hl_bad_words hr rfl passX rfl (da_cons (de_op op_fdivD (de_var 3) de_int) (da_cons (de_var 1) (da_cons (de_var 2) da_nil)))))
    (dss_cons (ds_if (dt_cmp op_eqSD (de_op op_modD (de_var 3) de_int) de_int) (dss_one (ds_set 4 sc_law.nd rfl (Or.inl rfl) (de_call hl_bad_terms hr rfl passX rfl (da_cons (de_op op_fdivD (de_var 3) de_int) (da_cons (de_var 1) (da_cons (de_var 2) da_nil)))))) dss_nil)
    (dss_cons (ds_set 5 sc_law.nd rfl (Or.inl rfl) (de_call hl_within hr rfl passX rfl (da_cons (de_op op_fdivD (de_var 3) de_int) (da_cons (de_var 4) (da_cons (de_call hl_compared hr rfl passX rfl (da_cons (de_op op_fdivD (de_var 3) de_int) da_nil)) da_nil)))))
    (dss_cons (ds_set 6 sc_law.nd rfl (Or.inl rfl) (de_call hl_good hr rfl passX rfl (da_cons (de_op op_fdivD (de_var 3) de_int) da_nil)))
    (dss_one (ds_if (DW.dt (dw_or (dt_not (dt_truth (de_call hl_refused hr rfl passX rfl (da_cons (de_var 5) da_nil)))) (dw_or1 (dt_not (dt_truth (de_call hl_alike hr rfl passX rfl (da_cons (de_call hr_condition hr rfl passX rfl (da_cons (de_ix ix_D (de_var 6) de_int) da_nil)) (da_cons (de_ix ix_D (de_var 6) de_int) da_nil)))))))) (dss_one (ds_ret de_bl)) dss_nil)))))))
    (dss_one (ds_ret de_bl)))))
end
end W34
namespace FM
noncomputable def g (a b : Int) : Int := (Int.gcd a b : Int)
theorem g_zero {a : Int} (ha : 0 <= a) : g a 0 = a := by
  unfold g; rw [Int.gcd_zero_right]; omega
theorem g_step {a b : Int} (ha : 0 <= a) (hb : 0 < b) : g b (a % b) = g a b := by
  unfold g
  congr 1
  obtain ⟨m, rfl⟩ := Int.eq_ofNat_of_zero_le ha
  obtain ⟨n, rfl⟩ := Int.eq_ofNat_of_zero_le (Int.le_of_lt hb)
  show Nat.gcd n ((m : Int) % (n : Int)).natAbs = Nat.gcd m n
  rw [show ((m : Int) % (n : Int)).natAbs = m % n from by omega]
  rw [Nat.gcd_comm m n, Nat.gcd_rec n m, Nat.gcd_comm]
theorem g_abs (a b : Int) : g (if a < 0 then -a else a) (if b < 0 then -b else b) = g a b := by
  unfold g
  congr 1
  unfold Int.gcd
  congr 1
  · split <;> omega
  · split <;> omega
theorem g_pos {a b : Int} (hb : b ≠ 0) : 0 < g a b := by
  unfold g
  have h := Int.gcd_pos_of_ne_zero_right a hb
  omega
theorem g_dvd1 (a b : Int) : g a b ∣ a := Int.gcd_dvd_left ..
theorem g_dvd2 (a b : Int) : g a b ∣ b := Int.gcd_dvd_right ..
noncomputable def dv (t b : Int) : Int := if b < 0 then -(g t b) else g t b
noncomputable def top (t b : Int) : Int := t.fdiv (dv t b)
noncomputable def bot (t b : Int) : Int := b.fdiv (dv t b)
theorem dv_ne {t b : Int} (hb : b ≠ 0) : dv t b ≠ 0 := by
  have := g_pos (a := t) hb
  unfold dv; split <;> omega
theorem fdiv_of_dvd {a d q : Int} (hd : d ≠ 0) (h : a = d * q) : a.fdiv d = q := by
  subst h
  rw [Int.mul_comm]
  exact Int.mul_fdiv_cancel q hd
theorem split {t b : Int} (hb : b ≠ 0) : t = dv t b * top t b /\ b = dv t b * bot t b := by
  have hd := dv_ne (t := t) hb
  have h1 : dv t b ∣ t := by
    unfold dv; split
    · exact Int.neg_dvd.mpr (g_dvd1 t b)
    · exact g_dvd1 t b
  have h2 : dv t b ∣ b := by
    unfold dv; split
    · exact Int.neg_dvd.mpr (g_dvd2 t b)
    · exact g_dvd2 t b
  obtain ⟨p, hp⟩ := h1
  obtain ⟨q, hq⟩ := h2
  constructor
  · show t = dv t b * t.fdiv (dv t b)
    rw [fdiv_of_dvd hd hp]; exact hp
  · show b = dv t b * b.fdiv (dv t b)
    rw [fdiv_of_dvd hd hq]; exact hq
structure Low (p q : Int) : Prop where
  pos : 0 < q
  one : Int.gcd p q = 1
theorem low_of {t b : Int} (hb : b ≠ 0) : Low (top t b) (bot t b) := by
  obtain ⟨h1, h2⟩ := split (t := t) hb
  have hd := dv_ne (t := t) hb
  have hg := g_pos (a := t) hb
  have hab : (dv t b).natAbs = Int.gcd t b := by
    unfold dv g; split <;> omega
  refine ⟨?_, ?_⟩
  · rcases Int.lt_trichotomy b 0 with h | h | h
    · have e : dv t b = -(g t b) := by unfold dv; rw [if_pos h]
      rw [e] at h2
      refine Int.lt_of_not_ge fun hn => ?_
      have : 0 <= -(g t b) * bot t b := by
        have := Int.mul_nonneg_of_nonpos_of_nonpos (show -(g t b) <= 0 by omega) hn
        exact this
      omega
    · exact absurd h hb
    · have e : dv t b = g t b := by unfold dv; rw [if_neg (by omega)]
      rw [e] at h2
      refine Int.lt_of_not_ge fun hn => ?_
      have : g t b * bot t b <= 0 := Int.mul_nonpos_of_nonneg_of_nonpos (Int.le_of_lt hg) hn
      omega
  · have e : Int.gcd (dv t b * top t b) (dv t b * bot t b) = (dv t b).natAbs * Int.gcd (top t b) (bot t b) := Int.gcd_mul_left ..
    rw [← h1, ← h2, hab] at e
    have hz : 0 < Int.gcd t b := by unfold g at hg; omega
    exact (Nat.eq_of_mul_eq_mul_left hz (by rw [Nat.mul_one]; exact e)).symm
theorem cross {t b : Int} (hb : b ≠ 0) : top t b * b = t * bot t b := by
  obtain ⟨h1, h2⟩ := split (t := t) hb
  have e1 : top t b * b = top t b * (dv t b * bot t b) := by rw [← h2]
  have e2 : t * bot t b = (dv t b * top t b) * bot t b := by rw [← h1]
  rw [e1, e2]
  rw [← Int.mul_assoc, Int.mul_comm (top t b)]
theorem cop {a b c : Int} (h : Int.gcd a b = 1) (d : a ∣ b * c) : a ∣ c := by
  have h' : Nat.Coprime a.natAbs b.natAbs := h
  have d' : a.natAbs ∣ b.natAbs * c.natAbs := by
    rw [← Int.natAbs_mul]; exact Int.natAbs_dvd_natAbs.mpr d
  exact Int.natAbs_dvd_natAbs.mp (h'.dvd_of_dvd_mul_left d')
theorem low_eq {p q p' q' : Int} (a : Low p q) (b : Low p' q') (h : p * q' = p' * q) : p = p' /\ q = q' := by
  obtain ⟨hq, g1⟩ := a
  obtain ⟨hq', g2⟩ := b
  have d1 : q ∣ q' := by
    have : q ∣ p * q' := by rw [h]; exact Int.dvd_mul_left ..
    exact cop (by rw [Int.gcd_comm]; exact g1) this
  have d2 : q' ∣ q := by
    have : q' ∣ p' * q := by rw [← h]; exact Int.dvd_mul_left ..
    exact cop (by rw [Int.gcd_comm]; exact g2) this
  have e : q = q' := Int.dvd_antisymm (Int.le_of_lt hq) (Int.le_of_lt hq') d1 d2
  subst e
  exact ⟨Int.eq_of_mul_eq_mul_right (by omega) h, rfl⟩
theorem scaled {p q k : Int} (L : Low p q) (hk : k ≠ 0) : top (p * k) (q * k) = p /\ bot (p * k) (q * k) = q := by
  have hq : q ≠ 0 := by have := L.pos; omega
  have hb : q * k ≠ 0 := Int.mul_ne_zero hq hk
  refine low_eq (low_of hb) L ?_
  have c := cross (t := p * k) hb
  -- top * (q * k) = (p * k) * bot
  refine Int.eq_of_mul_eq_mul_right hk ?_
  rw [Int.mul_assoc, c, Int.mul_assoc, Int.mul_assoc, Int.mul_comm k]
theorem turned {p q k : Int} (L : Low p q) (hk : k ≠ 0) : top (0 - p * k) (0 - q * k) = p /\ bot (0 - p * k) (0 - q * k) = q := by
  have e1 : 0 - p * k = p * (-k) := by rw [Int.mul_neg]; omega
  have e2 : 0 - q * k = q * (-k) := by rw [Int.mul_neg]; omega
  rw [e1, e2]
  exact scaled L (by omega)
theorem dv_abs (t b : Int) : (dv t b).natAbs = Int.gcd t b := by unfold dv g; split <;> omega
theorem dv_le {t b : Int} (hb : b ≠ 0) : (dv t b).natAbs <= b.natAbs := by
  rw [dv_abs]
  exact Nat.le_of_dvd (by omega) (Nat.gcd_dvd_right ..)
end FM
namespace T2
open PySem PySem.NumText TM
noncomputable def numI (t : Int) : List Nat := if t < 0 then 45 :: num t.natAbs else num t.natAbs
noncomputable def showF (t b : Int) : List Nat := if b = 1 then numI t else numI t ++ 47 :: num b.natAbs
theorem cds_int (t : Int) : cds (Str.ofString (toString t)) = numI t := by
  cases t with
  | ofNat n =>
    unfold numI
    rw [if_neg (by simp)]
    exact cds_num n
  | negSucc n =>
    unfold numI
    rw [if_pos (Int.negSucc_lt_zero n)]
    have e : cds (Str.ofString (toString (Int.negSucc n))) = 45 :: cds (Str.ofString (toString (((n + 1 : Nat)) : Int))) := by
      unfold cds
      rw [PySem.Str.ofString_eq_toList, PySem.Str.ofString_eq_toList]
      show ("-" ++ Nat.repr (n + 1)).toList.map Char.toNat = 45 :: ((Nat.repr (n + 1)).toList.map Char.toNat)
      rw [String.toList_append, List.map_append]
      rfl
    rw [e, cds_num]
    rfl
noncomputable def splitL (c : Nat) : List Nat -> List (List Nat)
  | [] => [[]]
  | x :: r => if x = c then [] :: splitL c r else match splitL c r with
    | p :: ps => (x :: p) :: ps
    | [] => [[x]]
theorem splitL_hit {c : Nat} {r : List Nat} : splitL c (c :: r) = [] :: splitL c r := by
  show (if c = c then [] :: splitL c r else _) = _
  rw [if_pos rfl]
theorem splitL_miss {c x : Nat} {r p : List Nat} {ps : List (List Nat)} (h : x ≠ c) (e : splitL c r = p :: ps) : splitL c (x :: r) = (x :: p) :: ps := by
  show (if x = c then [] :: splitL c r else match splitL c r with | p :: ps => (x :: p) :: ps | [] => [[x]]) = _
  rw [if_neg h, e]
theorem splitL_free {c : Nat} : ∀ {l : List Nat}, c ∉ l -> splitL c l = [l]
  | [], _ => rfl
  | x :: r, h => splitL_miss (fun z => h (by rw [z]; exact List.mem_cons_self ..)) (splitL_free fun z => h (List.mem_cons_of_mem _ z))
theorem splitL_app {c : Nat} {r : List Nat} : ∀ {l : List Nat}, c ∉ l -> splitL c (l ++ c :: r) = l :: splitL c r
  | [], _ => splitL_hit
  | x :: l, h => splitL_miss (fun z => h (by rw [z]; exact List.mem_cons_self ..)) (splitL_app fun z => h (List.mem_cons_of_mem _ z))
noncomputable def joinL (c : Nat) : List (List Nat) -> List Nat
  | [] => []
  | [p] => p
  | p :: q :: r => p ++ c :: joinL c (q :: r)
theorem split_join {c : Nat} : ∀ {ps : List (List Nat)}, ps ≠ [] -> (∀ p ∈ ps, c ∉ p) -> splitL c (joinL c ps) = ps
  | [], h, _ => absurd rfl h
  | [p], _, h => splitL_free (h p (by simp))
  | p :: q :: r, _, h => by
    show splitL c (p ++ c :: joinL c (q :: r)) = _
    rw [splitL_app (h p (by simp)), split_join (by simp) fun x hx => h x (List.mem_cons_of_mem _ hx)]
theorem cds_join (c : Nat) : ∀ l : List Str, cds (Str.join ⟨#[c]⟩ l) = joinL c (l.map cds)
  | [] => rfl
  | [p] => rfl
  | p :: q :: r => by
    show cds (p ++ ⟨#[c]⟩ ++ Str.join ⟨#[c]⟩ (q :: r)) = _
    rw [cds_app, cds_app, cds_join c (q :: r)]
    show cds p ++ [c] ++ _ = cds p ++ c :: _
    simp
theorem split_cds (x : Str) (c : Nat) : (Txt.split x ⟨#[c]⟩).map cds = splitL c (cds x) := by
  have h1 := StrLaws.join_split x ⟨#[c]⟩
  have h2 := StrLaws.split_free x c
  have h3 : Txt.split x ⟨#[c]⟩ ≠ [] := fun z => by
    have h4 := congrArg cds h1
    rw [z] at h4
    unfold Txt.split at z
    split at z
    · cases z
    · split at z
      · cases z
      · rw [StrLaws.partsBetween_eq] at z
        obtain ⟨p, r, e⟩ := StrLaws.partsFrom_ne x (Str.length ⟨#[c]⟩) 0 (Builtin.Str.occurrences x ⟨#[c]⟩ 0 x.length (x.length + 1))
        rw [e] at z; cases z
  have h5 := congrArg cds h1
  rw [cds_join] at h5
  rw [← h5]
  refine (split_join (by simpa using h3) fun p hp => ?_).symm
  obtain ⟨q, hq, rfl⟩ := List.mem_map.mp hp
  exact h2 q hq
noncomputable def dg (c : Nat) : Bool := decide (48 <= c) && decide (c <= 57)
noncomputable def figB (cs : List Nat) : Bool := decide (cs ≠ []) && cs.all dg
noncomputable def numB (cs : List Nat) (k : Nat) : Bool := decide (cs.length <= k) && figB cs && (decide (cs = [48]) || !decide (cs.head? = some 48))
theorem figB_all {cs : List Nat} (h : figB cs = true) : AllDigits cs /\ cs ≠ [] := by
  unfold figB at h
  simp only [Bool.and_eq_true, decide_eq_true_eq] at h
  refine ⟨fun c hc => ?_, h.1⟩
  have := List.all_eq_true.mp h.2 c hc
  unfold dg at this
  simpa using this
theorem numB_all {cs : List Nat} {k : Nat} (h : numB cs k = true) : cs.length <= k /\ figB cs = true := by
  unfold numB at h
  simp only [Bool.and_eq_true, decide_eq_true_eq] at h
  exact h.1
noncomputable def negB (cs : List Nat) : Bool := decide (cs.head? = some 45)
noncomputable def bodyL (cs : List Nat) : List Nat := if negB cs = true then cs.drop 1 else cs
noncomputable def topL (neg : Bool) (ps : List (List Nat)) : Int := if neg = true then -((digitsVal (ps.getD 0 []) : Nat) : Int) else ((digitsVal (ps.getD 0 []) : Nat) : Int)
noncomputable def botL (ps : List (List Nat)) : Int := if ps.length = 2 then ((digitsVal (ps.getD 1 []) : Nat) : Int) else 1
noncomputable def okL (ps : List (List Nat)) : Bool := decide (ps.length <= 2) && ps.all (numB · 60)
noncomputable def readF (cs : List Nat) : Option (Int × Int) :=
  if okL (splitL 47 (bodyL cs)) = true then
    if botL (splitL 47 (bodyL cs)) = 0 then none else
    if showF (FM.top (topL (negB cs) (splitL 47 (bodyL cs))) (botL (splitL 47 (bodyL cs)))) (FM.bot (topL (negB cs) (splitL 47 (bodyL cs))) (botL (splitL 47 (bodyL cs)))) = cs then
      some (FM.top (topL (negB cs) (splitL 47 (bodyL cs))) (botL (splitL 47 (bodyL cs))), FM.bot (topL (negB cs) (splitL 47 (bodyL cs))) (botL (splitL 47 (bodyL cs))))
    else none
  else none
structure Ok (t b : Int) : Prop where
  low : FM.Low t b
  ht : t.natAbs < 10 ^ 60
  hb : b.natAbs < 10 ^ 60
theorem top_le (t : Int) {b : Int} (hb : b ≠ 0) : (FM.top t b).natAbs <= t.natAbs /\ (FM.bot t b).natAbs <= b.natAbs := by
  obtain ⟨h1, h2⟩ := FM.split (t := t) hb
  have hd := FM.dv_ne (t := t) hb
  have hd1 : 1 <= (FM.dv t b).natAbs := by omega
  have e1 : t.natAbs = (FM.dv t b).natAbs * (FM.top t b).natAbs := by rw [← Int.natAbs_mul, ← h1]
  have e2 : b.natAbs = (FM.dv t b).natAbs * (FM.bot t b).natAbs := by rw [← Int.natAbs_mul, ← h2]
  rw [e1, e2]
  exact ⟨Nat.le_mul_of_pos_left _ hd1, Nat.le_mul_of_pos_left _ hd1⟩
theorem val60 {cs : List Nat} (h : numB cs 60 = true) : digitsVal cs < 10 ^ 60 := by
  obtain ⟨h1, h2⟩ := numB_all h
  exact Nat.lt_of_lt_of_le (val_lt _ (figB_all h2).1) (Nat.pow_le_pow_right (by decide) h1)
theorem split_ne (c : Nat) : ∀ l, splitL c l ≠ []
  | [] => by simp [splitL]
  | x :: r => by
    show (if x = c then [] :: splitL c r else match splitL c r with | p :: ps => (x :: p) :: ps | [] => [[x]]) ≠ []
    split
    · simp
    · split <;> simp
theorem tb_lt {cs : List Nat} (h : okL (splitL 47 (bodyL cs)) = true) : (topL (negB cs) (splitL 47 (bodyL cs))).natAbs < 10 ^ 60 /\ (botL (splitL 47 (bodyL cs))).natAbs < 10 ^ 60 /\ 0 <= botL (splitL 47 (bodyL cs)) := by
  generalize hp : splitL 47 (bodyL cs) = ps at h
  have ne : ps ≠ [] := hp ▸ split_ne 47 _
  unfold okL at h
  simp only [Bool.and_eq_true, decide_eq_true_eq, List.all_eq_true] at h
  obtain ⟨hl, ha⟩ := h
  cases ps with
  | nil => exact absurd rfl ne
  | cons p r =>
    have v0 := val60 (ha p (by simp))
    refine ⟨?_, ?_⟩
    · unfold topL
      show (if _ then -((digitsVal p : Nat) : Int) else ((digitsVal p : Nat) : Int)).natAbs < _
      split <;> omega
    · unfold botL
      split
      · rename_i h2
        cases r with
        | nil => simp at h2
        | cons q r =>
          have v1 := val60 (ha q (by simp))
          show ((digitsVal q : Nat) : Int).natAbs < _ /\ 0 <= ((digitsVal q : Nat) : Int)
          omega
      · exact ⟨by decide, by decide⟩
end T2
namespace T4
open PySem PySem.NumText TM
noncomputable def showL (t : Nat) : List Nat := num (t / 1440) ++ 32 :: (two (t % 1440 / 60) ++ 58 :: two (t % 1440 % 60))
theorem len_show {t : Nat} (h : t <= 1000000000) : (showL t).length <= 12 /\ (showL t).length = (num (t / 1440)).length + 6 := by
  have : (num (t / 1440)).length <= 5 + 1 := num_len (by omega)
  unfold showL two
  simp; omega
theorem cut_day (t : Nat) : ((showL t).drop 0).take ((showL t).length - 6 - 0) = num (t / 1440) := by
  have : (showL t).length = (num (t / 1440)).length + 6 := by unfold showL two; simp
  rw [this]
  unfold showL
  simp
theorem cut_hour (t : Nat) : ((showL t).drop ((showL t).length - 5)).take ((showL t).length - 3 - ((showL t).length - 5)) = two (t % 1440 / 60) := by
  have e : (showL t).length = (num (t / 1440)).length + 6 := by unfold showL two; simp
  rw [e, show (num (t / 1440)).length + 6 - 5 = (num (t / 1440)).length + 1 by omega, show (num (t / 1440)).length + 6 - 3 - ((num (t / 1440)).length + 1) = 2 by omega]
  unfold showL two
  have z : List.drop ((num (t / 1440)).length + 1) (num (t / 1440)) = [] := List.drop_of_length_le (by omega)
  simp [List.drop_append, z]
theorem cut_min (t : Nat) : ((showL t).drop ((showL t).length - 2)).take ((showL t).length - ((showL t).length - 2)) = two (t % 1440 % 60) := by
  have e : (showL t).length = (num (t / 1440)).length + 6 := by unfold showL two; simp
  rw [e, show (num (t / 1440)).length + 6 - 2 = (num (t / 1440)).length + 4 by omega, show (num (t / 1440)).length + 6 - ((num (t / 1440)).length + 4) = 2 by omega]
  unfold showL two
  have z : List.drop ((num (t / 1440)).length + 4) (num (t / 1440)) = [] := List.drop_of_length_le (by omega)
  simp [List.drop_append, z]
end T4
namespace TR
open PySem PySem.NumText TM T2
noncomputable def keyL : List (List Nat) := [[109, 97, 114, 107], [102, 105, 108, 108], [104, 101, 114, 101], [98, 97, 99, 107], [111, 110], [97, 116], [97, 103, 111], [117, 110, 116, 105, 108], [97, 98, 115], [97, 110, 100], [111, 114], [110, 111, 116]]
noncomputable def ltr (c : Nat) : Bool := decide (97 <= c) && decide (c <= 122)
noncomputable def wordB (m : List Nat) : Bool := decide (m ≠ []) && decide (m.length <= 8) && m.all ltr && !decide (m ∈ keyL)
structure Ok (m : List Nat) (t u : Nat) (n : Int) : Prop where
  m : wordB m = true
  t : t <= 1000000000
  u : u <= 1000000000
  n : n.natAbs < 10 ^ 60
end TR
set_option exponentiation.threshold 500
local macro_rules | `(tactic| walk_at "den") => `(tactic| try simp (disch := first | assumption | decide | exact Nat.le_of_ble_eq_true rfl) only [P2.q_bind_k,P2.q_bind_x,P2.q_bind_b,P2.q_toS_k,P2.q_toS_x,P2.q_toS_b,P2.q_seq_n,P2.q_seq_r,P2.q_seq_x,P2.q_seq_b,P2.q_turn_n,P2.q_turn_c,P2.q_turn_k,P2.q_turn_r,P2.q_turn_b,P2.q_turn_x,P2.q_fin_r,P2.q_fin_n,P2.q_fin_x,P2.q_noEx_k,P2.q_okO_k,P2.q_ofO_s,P2.q_sSeq_a,P2.q_sNil_a,P2.q_sRet_a,P2.q_sExpr_a,P2.q_sSet_a,P2.q_sIf_a,P2.q_dC_a,P2.q_d1_a,P2.q_d2_a,P2.q_b1B_a,P2.q_b1T_a,P2.q_bAnd_a,P2.q_bOr_a,P2.q_bNot_a,P2.q_dAnd_a,P2.q_dOr_a,P2.q_dNot_a,P2.q_dIf_a,P2.q_dA_a,P2.q_aNil_a,P2.q_aCons_a,P2.q_asN_a,P2.q_dMt_a,P2.q_dSl_a,P2.q_dComp_a,P2.q_sFor_a,P2.q_toO_s,P2.q_gV_a,P2.q_tB_b,P2.q_tT_b,P2.q_tT_i,P2.q_tT_n,P2.q_tT_l,P2.q_tT_t,P2.q_add_i,P2.q_sub_i,P2.q_fdiv_p,P2.q_mod_p,P2.q_lt_i,P2.q_le_i,P2.q_gt_i,P2.q_ge_i,P2.q_neg_i,P2.q_eq_i,P2.q_eq_s,P2.q_eq_b,P2.q_ne_i,P2.q_ne_s,P2.q_in_s,P2.q_ix_l,P2.q_ix_t,P2.q_ix_s,P2.q_sl_l,P2.q_sl_s,P2.q_pI_i,P2.q_len_s,P2.q_len_l,P2.q_len_t,P2.q_abs_i,P2.q_max_i,P2.q_int_s,P2.q_all_l,P2.q_any_l,P2.q_st_s,P2.q_zf_s,P2.q_hs_s,P2.q_fit_p,P2.q_add_sp,P2.q_add_lp,P2.q_mkT_p,P2.q_asI_l,P2.q_asI_t,P2.q_asI_s,P2.q_fmt_s,P2.q_jNil_a,P2.q_jCons_k,P2.q_isX_i,P2.q_isX_b,P2.q_isX_s,P2.q_isX_t,P2.q_isX_l,P2.q_slW_l,P2.q_slW_s,P2.q_is_bb,P2.q_isn_bb,P2.q_is_nn,P2.q_isn_nn,P2.q_is_tn,P2.q_isn_tn,P2.q_v0,P2.q_v1,P2.q_v2,P2.q_v3,P2.q_v4,P2.q_v5,P2.q_v6,P2.q_v7,P2.q_v8,P2.q_v9,P2.q_v10,P2.q_v11,P2.q_v12,P2.q_v13,P2.startD,List.map_cons,List.map_nil,List.length_cons,List.length_nil,Nat.sub_self,Nat.reduceAdd,Nat.reduceSub,List.replicate_zero,List.replicate_succ,List.append_nil,List.nil_append,List.cons_append,List.set_cons_zero,List.set_cons_succ,if_true,if_false,Nat.reduceLT,Nat.zero_lt_succ,Bool.not_true,Bool.not_false,Bool.false_eq_true,reduceIte,decide_true,decide_false,Int.reduceLT,Int.reduceEq,Int.reduceNeg,Int.reducePow,Int.reduceSub,Int.reduceAdd,Int.reduceMul,List.length_set])
namespace WP
open PySem L2 P2 TM T2 PySem.NumText
theorem dg_has (c : Nat) : Txt.contains (Str.ofString "0123456789") ⟨#[c]⟩ = dg c := by
  rw [has_sign]
  have e : cds (Str.ofString "0123456789") = [48, 49, 50, 51, 52, 53, 54, 55, 56, 57] := by decide
  rw [e]
  unfold dg
  rw [Bool.eq_iff_iff]
  simp only [List.mem_cons, List.not_mem_nil, or_false, decide_eq_true_eq, Bool.and_eq_true]
  omega
theorem empty_iff (z : Str) : (z = Str.ofString "") ↔ cds z = [] := by
  constructor
  · rintro rfl; decide
  · intro h; exact ext (by rw [h]; decide)
variable {a : Ad}
theorem m_only (z : Str) (hz : z.length <= 1000000) : finT (g_only_figures a (startD 1 [.str z])) = .ok (.bl (figB (cds z))) := by
  have hc : compO (gV 0) (fun _ => .ok true) (d2 inSD (dV 0) (dC (.str "0123456789"))) (capD 1 [] [.sh (.str z)]) (signs z) = some ((cds z).map fun c => .bl (dg c)) := by
    have := compO_map (a := gV 0) (c := fun _ => .ok true) (e := d2 inSD (dV 0) (dC (.str "0123456789"))) (ρ0 := capD 1 [] [.sh (.str z)]) (fun d => [.sh d]) (fun d => match d with | .str y => .bl (Txt.contains "0123456789" y) | _ => .non) (signs z) fun d hd => by
      obtain ⟨c, _, rfl⟩ := List.mem_map.mp hd
      exact ⟨rfl, rfl, rfl⟩
    rw [this]
    unfold signs
    rw [List.map_map]
    congr 1
    refine List.map_congr_left fun c _ => ?_
    show D.bl (Txt.contains "0123456789" ⟨#[c]⟩) = _
    rw [dg_has]
  have hl : (signs z).length <= sizeLine := by unfold signs; rw [List.length_map]; exact size_of (show (cds z).length <= _ by rw [← len_cds]; exact hz)
  unfold g_only_figures
  walk_at "den"
  simp only [hl, if_true, hc, q_ofO_s, q_bind_k, q_all_l, boolsD_map]
  unfold figB
  by_cases h0 : z = Str.ofString ""
  · have h1 := (empty_iff z).mp h0
    rw [h1]; simp [h0, q_toS_k, q_fin_r]
  · have h1 : cds z ≠ [] := fun w => h0 ((empty_iff z).mpr w)
    simp [h0, h1, q_toS_k, q_fin_r, List.all_map]
    try rfl
theorem m_isnum {F : List D -> R D} (hF : ∀ z : Str, z.length <= 1000000 -> F [.str z] = .ok (.bl (figB (cds z)))) (z : Str) (k : Nat) (hz : z.length <= 1000000) : finT (g_is_number a F (startD 2 [.str z, .int k])) = .ok (.bl (numB (cds z) k)) := by
  unfold g_is_number
  have hs := size_of hz
  walk_at "den"
  simp only [hs, hF z hz, if_true, starts_0, q_bind_k, q_gt_i, q_tB_b, q_tT_b]
  have e0 : decide (z = Str.ofString "0") = decide (cds z = [48]) := by
    rw [Bool.eq_iff_iff]
    simp only [decide_eq_true_eq]
    exact ⟨fun h => by rw [h]; decide, fun h => ext (by rw [h]; decide)⟩
  unfold numB
  have el : z.length = (cds z).length := len_cds z
  by_cases h1 : (k : Int) < z.length
  · have h2 : ¬ (cds z).length <= k := by omega
    simp [h1, h2, q_toS_k, q_seq_r, q_fin_r]
  · have h2 : (cds z).length <= k := by omega
    cases h3 : figB (cds z) <;> by_cases h4 : cds z = [48] <;> simp [h1, h2, h3, h4, e0, q_toS_k, q_seq_r, q_seq_n, q_fin_r, q_sRet_a, q_dOr_a, q_d2_a, q_v0, q_dC_a, q_bind_k, q_eq_s, q_tB_b, q_dNot_a, q_dMt_a, q_hs_s, q_aCons_a, q_aNil_a, q_st_s, starts_0]
    rw [h4] at h2; exact h2
noncomputable def mkS (cs : List Nat) : Str := ⟨cs.toArray⟩
theorem cds_mk (cs : List Nat) : cds (mkS cs) = cs := rfl
theorem mk_cds (z : Str) : mkS (cds z) = z := ext (cds_mk _)
theorem len_mk (cs : List Nat) : (mkS cs).length = cs.length := by rw [len_cds, cds_mk]
theorem m_whole (i : Int) : finT (g_is_whole a (startD 1 [.int i])) = .ok (.bl true) := by
  unfold g_is_whole
  iterate 3 (walk_at "den")
theorem w_gcd : ∀ (n : Nat) (x y : Int) (s2 : Sl), 0 <= x -> 0 <= y -> y < n ->
    ∃ s, whileD (b1 tB (d2 neSD (dV 1) (dC (.int 0)))) (b1_common_divisor a) n [.sh (.int x), .sh (.int y), s2] = .nx [.sh (.int (FM.g x y)), .sh (.int 0), s]
  | 0, x, y, s2, hx, hy, h => by omega
  | n + 1, x, y, s2, hx, hy, h => by
    rw [q_whileD]
    by_cases z : y = 0
    · subst z
      refine ⟨s2, ?_⟩
      walk_at "den"
      rw [FM.g_zero hx]
    · have hp : 0 < y := by omega
      have hm := Int.emod_lt_of_pos x hp
      obtain ⟨s, e⟩ := w_gcd n y (x % y) (.sh (.int (x % y))) hy (Int.emod_nonneg x z) (by omega)
      refine ⟨s, ?_⟩
      unfold b1_common_divisor
      iterate 4 (walk_at "den"; try simp only [z, q_mod_p hp])
      rw [← FM.g_step hx hp]
      exact e
theorem m_gcd (x y : Int) (hx : 0 <= x) (hy : 0 <= y) (h : y.natAbs < 10 ^ 400) : finT (g_common_divisor a (startD 3 [.int x, .int y])) = .ok (.int (FM.g x y)) := by
  obtain ⟨s, e⟩ := w_gcd (a := a) 10000000000000000000000000000000000000000000000000000000000000000000000000000000000000000000000000000000000000000000000000000000000000000000000000000000000000000000000000000000000000000000000000000000000000000000000000000000000000000000000000000000000000000000000000000000000000000000000000000000000000000000000000000000000000000000000000000000000000000000000000000000000000000000000000000000000000000 x y .no hx hy (by omega)
  unfold g_common_divisor
  walk_at "den"
  rw [e]
  walk_at "den"
theorem dv_lt {t b : Int} (hb : b ≠ 0) (h : b.natAbs < 10 ^ 400) : (FM.dv t b).natAbs < 10 ^ 400 := by
  have := FM.dv_le (t := t) (b := b) hb
  omega
noncomputable abbrev fr (t b : Int) : D := .tup [.int (FM.top t b), .int (FM.bot t b)]
theorem m_frac {Fw Fg : List D -> R D} (hw : ∀ i : Int, Fw [.int i] = .ok (.bl true)) (hg : ∀ x y : Int, 0 <= x -> 0 <= y -> y.natAbs < 10 ^ 400 -> Fg [.int x, .int y] = .ok (.int (FM.g x y))) (t b : Int) (hb : b ≠ 0) (h : b.natAbs < 10 ^ 400) :
    finT (g_fraction a Fw Fg (startD 3 [.int t, .int b])) = .ok (fr t b) := by
  have g1 := hg (if t < 0 then -t else t) (if b < 0 then -b else b) (by split <;> omega) (by split <;> omega) (by split <;> omega)
  rw [FM.g_abs t b] at g1
  have d1 := q_fdivU (i := t) (FM.dv_ne (t := t) (b := b) hb) (dv_lt hb h)
  have d2 := q_fdivU (i := b) (FM.dv_ne (t := t) (b := b) hb) (dv_lt hb h)
  unfold g_fraction
  by_cases b1 : b < 0
  · have e : FM.dv t b = -(FM.g t b) := by unfold FM.dv; rw [if_pos b1]
    rw [if_pos b1] at g1
    rw [e] at d1 d2
    iterate 8 (walk_at "den"; try simp only [hw, hb, b1, g1, d1, d2, decide_false, decide_true])
    unfold fr FM.top FM.bot
    rw [e]
  · have e : FM.dv t b = FM.g t b := by unfold FM.dv; rw [if_neg b1]
    rw [if_neg b1] at g1
    rw [e] at d1 d2
    iterate 8 (walk_at "den"; try simp only [hw, hb, b1, g1, d1, d2, decide_false, decide_true])
    unfold fr FM.top FM.bot
    rw [e]
theorem len_numI {t : Int} (h : t.natAbs < 10 ^ 400) : (numI t).length <= 402 := by
  have := num_len (k := 399) (m := t.natAbs) h
  unfold numI
  split
  · rw [List.length_cons]; omega
  · omega
theorem len_str {t : Int} (h : t.natAbs < 10 ^ 400) : (Str.ofString (toString t)).length <= 402 := by rw [len_cds, cds_int]; exact len_numI h
theorem m_showF (t b : Int) (hb : 0 < b) (h1 : t.natAbs < 10 ^ 400) (h2 : b.natAbs < 10 ^ 400) : finT (g_show_fraction a (startD 3 [.tup [.int t, .int b]])) = .ok (.str (mkS (showF t b))) := by
  have i0 : L2.atI [D.int t, D.int b] 0 = some (.int t) := rfl
  have i1 : L2.atI [D.int t, D.int b] 1 = some (.int b) := rfl
  have s1 := q_strU h1
  have f1 := q_fmtU h1
  have f2 := q_fmtU h2
  have l1 := len_str h1
  have l2 := len_str h2
  have e1 := cds_int t
  have e2 := cds_int b
  generalize hx : Str.ofString (toString t) = x at *
  generalize hy : Str.ofString (toString b) = y at *
  have c0 : cds Str.empty = [] := rfl
  have c1 : cds (Str.ofString "/") = [47] := by decide
  have z1 : (Str.empty ++ x).length <= sizeLine := size_of (by rw [len_cds, cds_app, c0, List.nil_append, ← len_cds]; omega)
  have z2 : (Str.empty ++ x ++ Str.ofString "/").length <= sizeLine := size_of (by rw [len_cds, cds_app, cds_app, c0, c1, List.nil_append, List.length_append, ← len_cds, List.length_singleton]; omega)
  have z3 : (Str.empty ++ x ++ Str.ofString "/" ++ y).length <= sizeLine := size_of (by rw [len_cds, cds_app, cds_app, cds_app, c0, c1, List.nil_append, List.length_append, List.length_append, ← len_cds, ← len_cds, List.length_singleton]; omega)
  unfold g_show_fraction
  by_cases hb1 : b = 1
  · have ez : x = mkS (showF t b) := ext (by rw [cds_mk, e1]; unfold showF; rw [if_pos hb1])
    subst hb1
    rw [← ez]
    iterate 6 (walk_at "den"; try simp only [i0, i1, s1, decide_true])
  · have ez : Str.empty ++ x ++ Str.ofString "/" ++ y = mkS (showF t b) := ext (by
      rw [cds_mk]
      simp only [cds_app, c0, c1, e1, e2]
      unfold showF
      rw [if_neg hb1]
      have : numI b = num b.natAbs := by unfold numI; rw [if_neg (by omega)]
      rw [this]
      simp)
    iterate 8 (walk_at "den"; try simp only [i0, i1, hb1, f1, f2, if_pos z1, if_pos z2, if_pos z3, decide_false])
    rw [← ez]
end WP
namespace WP
open PySem L2 P2 TM T2 PySem.NumText
variable {a : Ad}
theorem starts_m (x : Str) : Txt.startswith x (Str.ofString "-") = negB (cds x) := by
  obtain ⟨⟨l⟩⟩ := x
  unfold Txt.startswith Builtin.Str.subAt negB
  cases l with
  | nil => rfl
  | cons c r =>
    have h1 : (Str.ofString "-").length = 1 := by decide
    have h2 : (Str.ofString "-").cps = #[45] := by decide
    rw [h1, h2]
    show (decide (0 + 1 <= (c :: r).length) && ((c :: r).toArray.extract 0 (0 + 1) == #[45])) = _
    have : ((c :: r).toArray.extract 0 (0 + 1)) = #[c] := by simp
    rw [this, Bool.eq_iff_iff]
    simp [cds]
theorem cds_from1 (z : Str) : cds (Txt.slice z (some 1) none) = (cds z).drop 1 := by
  rw [cds_slice]
  have e1 : sx (cds z).length 0 (some 1) = min 1 (cds z).length := rfl
  have e2 : sx (cds z).length (cds z).length none = (cds z).length := rfl
  rw [e1, e2]
  by_cases h : 1 <= (cds z).length
  · rw [Nat.min_eq_left h]
    exact List.take_of_length_le (by rw [List.length_drop]; omega)
  · have : cds z = [] := List.length_eq_zero_iff.mp (by omega)
    rw [this]; rfl
noncomputable def tailR (a : Ad) (F_is_number F_fraction F_show_fraction : List D -> R D) : Ev -> RT :=
    (sSeq (sIf (bOr (b1 tB (d2 gtD (dA lenD (aCons (dV 2) aNil)) (dC (.int 2)))) (bNot (b1 tT (dA allD (aCons (asN (dComp (fun ρ => ((dV 2) ρ).bind asI) 1 [] (gV 0) (fun _ => .ok true) (dA F_is_number (aCons (dV 0) (aCons (dC (.int 60)) aNil))))) aNil))))) (fun ρ => toS ((aCons (dC (.int 1)) aNil) ρ) fun ds => .ex a.NoText ["row"] ds) sNil)
    (sSeq (sSet 3 (dIf (b1 tT (dV 1)) (d1 negD (dA intD (aCons (d2 ixD (dV 2) (dC (.int 0))) aNil))) (dA intD (aCons (d2 ixD (dV 2) (dC (.int 0))) aNil))))
    (sSeq (sSet 4 (dIf (b1 tB (d2 eqSD (dA lenD (aCons (dV 2) aNil)) (dC (.int 2)))) (dA intD (aCons (d2 ixD (dV 2) (dC (.int 1))) aNil)) (dC (.int 1))))
    (sSeq (sIf (b1 tB (d2 eqSD (dV 4) (dC (.int 0)))) (fun ρ => toS ((aCons (dC (.int 1)) aNil) ρ) fun ds => .ex a.NoText ["row"] ds) sNil)
    (sSeq (sSet 5 (dA F_fraction (aCons (dV 3) (aCons (dV 4) aNil))))
    (sSeq (sIf (b1 tB (d2 neSD (dA F_show_fraction (aCons (dV 5) aNil)) (dV 0))) (fun ρ => toS ((aCons (dC (.int 1)) aNil) ρ) fun ds => .ex a.NoText ["row"] ds) sNil)
    (sRet (dV 5))))))))
theorem read_tail {F_is_number F_fraction F_show_fraction : List D -> R D} : gr_fraction a F_is_number F_fraction F_show_fraction = sSeq (sSet 1 (dMt "str" startsD (dV 0) (aCons (dC (.str "-")) aNil)))
    (sSeq (sSet 2 (dIf (b1 tT (dV 1)) (dMt "str" splitD (dSl slWD (dV 0) (fun ρ => ((dC (.int 1)) ρ).bind pI) (fun _ => .ok none)) (aCons (dC (.str "/")) aNil)) (dMt "str" splitD (dV 0) (aCons (dC (.str "/")) aNil))))
    (tailR a F_is_number F_fraction F_show_fraction)) := rfl
noncomputable def outF (a : Ad) (o : Option (Int × Int)) : R D := match o with
  | some (t, b) => .ok (.tup [.int t, .int b])
  | none => .ex a.NoText ["row"] [.int 1]
theorem int_num {p : Str} (h : numB (cds p) 60 = true) : PySem.intText? p = some ((digitsVal (cds p) : Nat) : Int) /\ p.length <= 640 := by
  obtain ⟨h1, h2⟩ := numB_all h
  obtain ⟨h3, h4⟩ := figB_all h2
  have hl : p.length <= 640 := by rw [len_cds]; omega
  exact ⟨intText_of h3 h4 hl, hl⟩
section
variable {Fn Ff Fs : List D -> R D} (hn : ∀ (z : Str) (k : Nat), z.length <= 1000000 -> Fn [.str z, .int k] = .ok (.bl (numB (cds z) k)))
  (hf : ∀ t b : Int, b ≠ 0 -> b.natAbs < 10 ^ 400 -> Ff [.int t, .int b] = .ok (.tup [.int (FM.top t b), .int (FM.bot t b)]))
  (hs : ∀ t b : Int, 0 < b -> t.natAbs < 10 ^ 400 -> b.natAbs < 10 ^ 400 -> Fs [.tup [.int t, .int b]] = .ok (.str (mkS (showF t b))))
include hn hf hs
theorem m_tail (z : Str) (ps : List Str) (hz : z.length <= 1000000) (hl : ∀ p ∈ ps, p.length <= 1000000) (hlen : ps.length <= 1000002) (hp : ps.map cds = splitL 47 (bodyL (cds z))) :
    finT (tailR a Fn Ff Fs [.sh (.str z), .sh (.bl (negB (cds z))), .sh (.lst (ps.map D.str)), .no, .no, .no]) = outF a (readF (cds z)) := by
  have hcomp : compO (gV 0) (fun _ => .ok true) (dA Fn (aCons (dV 0) (aCons (dC (.int 60)) aNil))) (capD 1 [] [.sh (.str z), .sh (.bl (negB (cds z))), .sh (.lst (ps.map D.str)), .no, .no, .no]) (ps.map D.str) = some (ps.map fun p => .bl (numB (cds p) 60)) := by
    have := compO_map (a := gV 0) (c := fun _ => .ok true) (e := dA Fn (aCons (dV 0) (aCons (dC (.int 60)) aNil))) (ρ0 := capD 1 [] [.sh (.str z), .sh (.bl (negB (cds z))), .sh (.lst (ps.map D.str)), .no, .no, .no]) (fun d => [.sh d]) (fun d => match d with | .str y => .bl (numB (cds y) 60) | _ => .non) (ps.map D.str) fun d hd => by
      obtain ⟨p, hp, rfl⟩ := List.mem_map.mp hd
      exact ⟨rfl, rfl, hn p 60 (hl p hp)⟩
    rw [this, List.map_map]
    rfl
  have hsz : (ps.map D.str).length <= sizeLine := by rw [List.length_map]; exact Nat.le_trans hlen (by decide)
  have hall : boolsD (ps.map fun p => D.bl (numB (cds p) 60)) = some (ps.map fun p => numB (cds p) 60) := boolsD_map _ ps
  have hok : okL (splitL 47 (bodyL (cds z))) = (decide (ps.length <= 2) && (ps.map fun p => numB (cds p) 60).all id) := by
    rw [← hp]; unfold okL
    rw [List.length_map]
    congr 1
    simp [List.all_map, Function.comp_def]
  have hlen2 : (decide ((2 : Int) < ((ps.map D.str).length : Nat))) = !decide (ps.length <= 2) := by
    rw [List.length_map, Bool.eq_iff_iff]
    simp only [decide_eq_true_eq, Bool.not_eq_true', decide_eq_false_iff_not]
    omega
  unfold tailR
  cases ok : okL (splitL 47 (bodyL (cds z))) with
  | false =>
    have er : readF (cds z) = none := by unfold readF; rw [if_neg (by rw [ok]; simp)]
    rw [er]
    rw [ok] at hok
    iterate 3 (walk_at "den"; try simp only [hlen2, if_pos hsz, hcomp, hall])
    by_cases h2 : ps.length <= 2
    · have ha : (ps.map fun p => numB (cds p) 60).all id = false := by simpa [h2] using hok.symm
      iterate 4 (walk_at "den"; try simp only [h2, ha])
      rfl
    · iterate 4 (walk_at "den"; try simp only [h2])
      rfl
  | true =>
    rw [ok] at hok
    have h2 : ps.length <= 2 := by
      by_cases h : ps.length <= 2
      · exact h
      · simp [h] at hok
    have ha : (ps.map fun p => numB (cds p) 60).all id = true := by simpa [h2] using hok.symm
    have ne : ps ≠ [] := fun w => by rw [w] at hp; exact split_ne 47 _ hp.symm
    obtain ⟨v1, v2, v3⟩ := tb_lt ok
    have er : ∀ T B, topL (negB (cds z)) (splitL 47 (bodyL (cds z))) = T -> botL (splitL 47 (bodyL (cds z))) = B -> readF (cds z) = if B = 0 then none else if showF (FM.top T B) (FM.bot T B) = cds z then some (FM.top T B, FM.bot T B) else none := by
      intro T B e1 e2
      unfold readF
      rw [if_pos ok, e1, e2]
    -- the end of the road, for a top and a bottom
    have fin : ∀ (T B : Int) (ρ : Ev), topL (negB (cds z)) (splitL 47 (bodyL (cds z))) = T -> botL (splitL 47 (bodyL (cds z))) = B -> ∀ s1 s2,
        finT ((sSeq (sIf (b1 tB (d2 eqSD (dV 4) (dC (.int 0)))) (fun ρ => toS ((aCons (dC (.int 1)) aNil) ρ) fun ds => .ex a.NoText ["row"] ds) sNil)
    (sSeq (sSet 5 (dA Ff (aCons (dV 3) (aCons (dV 4) aNil))))
    (sSeq (sIf (b1 tB (d2 neSD (dA Fs (aCons (dV 5) aNil)) (dV 0))) (fun ρ => toS ((aCons (dC (.int 1)) aNil) ρ) fun ds => .ex a.NoText ["row"] ds) sNil)
    (sRet (dV 5))))) [.sh (.str z), s1, s2, .sh (.int T), .sh (.int B), .no]) = outF a (readF (cds z)) := by
      intro T B ρ e1 e2 s1 s2
      rw [e1] at v1
      rw [e2] at v2 v3
      rw [er T B e1 e2]
      by_cases hB : B = 0
      · subst hB
        iterate 4 (walk_at "den")
        rfl
      · have hB0 : 0 < B := by omega
        have f1 := hf T B hB (by omega)
        obtain ⟨l1, l2⟩ := top_le T hB
        have low := FM.low_of (t := T) hB
        have g1 := hs (FM.top T B) (FM.bot T B) low.pos (by omega) (by omega)
        rw [if_neg hB]
        by_cases e : showF (FM.top T B) (FM.bot T B) = cds z
        · have ez : mkS (showF (FM.top T B) (FM.bot T B)) = z := by rw [e]; exact mk_cds z
          rw [if_pos e]
          rw [ez] at g1
          iterate 8 (walk_at "den"; try simp only [hB, f1, g1, decide_true, decide_false])
          rfl
        · have ez : mkS (showF (FM.top T B) (FM.bot T B)) ≠ z := fun w => e (by rw [← w]; rfl)
          rw [if_neg e]
          iterate 8 (walk_at "den"; try simp only [hB, f1, g1, ez, decide_true, decide_false])
          rfl
    obtain ⟨p, r, hpr⟩ := List.exists_cons_of_ne_nil ne
    have np : numB (cds p) 60 = true := by
      rw [hpr] at ha
      simp only [List.map_cons, List.all_cons, Bool.and_eq_true] at ha
      exact ha.1
    obtain ⟨ip, jp⟩ := int_num np
    have i0 : L2.atI (ps.map D.str) 0 = some (.str p) := by rw [hpr]; exact atI_nat (j := 0) rfl
    have e1 : topL (negB (cds z)) (splitL 47 (bodyL (cds z))) = if negB (cds z) = true then -((digitsVal (cds p) : Nat) : Int) else ((digitsVal (cds p) : Nat) : Int) := by rw [← hp, hpr]; rfl
    have n2 : ¬ (!decide (ps.length <= 2)) = true := by simp [h2]
    by_cases hq : ps.length = 2
    · obtain ⟨q, hr⟩ : ∃ q, r = [q] := by
        cases r with
        | nil => rw [hpr] at hq; simp at hq
        | cons q l => cases l with
          | nil => exact ⟨q, rfl⟩
          | cons _ _ => rw [hpr] at hq; simp at hq
      subst hr
      have nq : numB (cds q) 60 = true := by
        rw [hpr] at ha
        simp only [List.map_cons, List.all_cons, Bool.and_eq_true] at ha
        exact ha.2.1
      obtain ⟨iq, jq⟩ := int_num nq
      have i1 : L2.atI (ps.map D.str) 1 = some (.str q) := by rw [hpr]; exact atI_nat (j := 1) rfl
      have e2 : botL (splitL 47 (bodyL (cds z))) = ((digitsVal (cds q) : Nat) : Int) := by rw [← hp, hpr]; rfl
      have hq2 : (((ps.map D.str).length : Nat) : Int) = 2 := by rw [List.length_map]; omega
      have F := fin _ _ [] e1 e2 (.sh (.bl (negB (cds z)))) (.sh (.lst (ps.map D.str)))
      rw [← F]
      cases hN : negB (cds z) with
      | true =>
        rw [hN] at hcomp
        iterate 10 (walk_at "den"; try simp only [hlen2, if_pos hsz, hcomp, hall, ha, ip, iq, if_pos jp, if_pos jq, i0, i1, n2, hq2])
        try rfl
      | false =>
        rw [hN] at hcomp
        iterate 10 (walk_at "den"; try simp only [hlen2, if_pos hsz, hcomp, hall, ha, ip, iq, if_pos jp, if_pos jq, i0, i1, n2, hq2])
        try rfl
    · have e2 : botL (splitL 47 (bodyL (cds z))) = 1 := by
        unfold botL
        rw [← hp, List.length_map, if_neg hq]
      have hq2 : ¬ (((ps.map D.str).length : Nat) : Int) = 2 := by rw [List.length_map]; omega
      have F := fin _ _ [] e1 e2 (.sh (.bl (negB (cds z)))) (.sh (.lst (ps.map D.str)))
      rw [← F]
      cases hN : negB (cds z) with
      | true =>
        rw [hN] at hcomp
        iterate 10 (walk_at "den"; try simp only [hlen2, if_pos hsz, hcomp, hall, ha, ip, if_pos jp, i0, n2, hq2])
        try rfl
      | false =>
        rw [hN] at hcomp
        iterate 10 (walk_at "den"; try simp only [hlen2, if_pos hsz, hcomp, hall, ha, ip, if_pos jp, i0, n2, hq2])
        try rfl
end
section
variable {Fn Ff Fs : List D -> R D} (hn : ∀ (z : Str) (k : Nat), z.length <= 1000000 -> Fn [.str z, .int k] = .ok (.bl (numB (cds z) k)))
  (hf : ∀ t b : Int, b ≠ 0 -> b.natAbs < 10 ^ 400 -> Ff [.int t, .int b] = .ok (.tup [.int (FM.top t b), .int (FM.bot t b)]))
  (hs : ∀ t b : Int, 0 < b -> t.natAbs < 10 ^ 400 -> b.natAbs < 10 ^ 400 -> Fs [.tup [.int t, .int b]] = .ok (.str (mkS (showF t b))))
include hn hf hs
theorem q_split {z : Str} (hz : z.length <= 1000) : splitD (.str z) [.str "/"] = .ok (.lst ((Txt.split z ⟨#[47]⟩).map D.str)) := by
  show (if ((Str.ofString "/").length == 0) = false /\ z.length + 2 <= sizeLine then R.ok (D.lst ((Txt.split z (Str.ofString "/")).map D.str)) else .bad) = _
  rw [if_pos ⟨by decide, size_of (by omega)⟩]
  rfl
theorem m_readF (z : Str) (hz : z.length <= 1000) : finT (gr_fraction a Fn Ff Fs (startD 6 [.str z])) = outF a (readF (cds z)) := by
  have sz : z.length <= sizeLine := size_of (by omega)
  rw [read_tail]
  have go : ∀ x : Str, x.length <= 1000 -> cds x = bodyL (cds z) -> finT (tailR a Fn Ff Fs [.sh (.str z), .sh (.bl (negB (cds z))), .sh (.lst ((Txt.split x ⟨#[47]⟩).map D.str)), .no, .no, .no]) = outF a (readF (cds z)) := fun x hx e =>
    m_tail hn hf hs z _ (by omega) (fun p hp => Nat.le_trans (PyProof.Rows.part_short hp) (by omega)) (Nat.le_trans (PyProof.Rows.split_le x _) (by omega)) (by rw [split_cds, e])
  have st := starts_m z
  cases hN : negB (cds z) with
  | true =>
    have lx : (Txt.slice z (some 1) none).length <= 1000 := Nat.le_trans (Txt.slice_le z _ _) hz
    have G := go (Txt.slice z (some 1) none) lx (by rw [cds_from1]; unfold bodyL; rw [if_pos hN])
    have sp := q_split hn hf hs lx
    rw [hN] at st G
    iterate 5 (walk_at "den"; try simp only [st, if_pos sz, sp])
    exact G
  | false =>
    have G := go z hz (by unfold bodyL; rw [if_neg (by rw [hN]; simp)])
    have sp := q_split hn hf hs hz
    rw [hN] at st G
    iterate 5 (walk_at "den"; try simp only [st, if_pos sz, sp])
    exact G
end
end WP
namespace WP
open PySem L2 P2 TM T2 PySem.NumText
open T4 (showL len_show cut_day cut_hour cut_min)
variable {a : Ad}
end WP
namespace WP
open PySem L2 P2 TM T2 PySem.NumText
open T4 (showL len_show)
variable {a : Ad}
theorem ltr_has (c : Nat) : Txt.contains (Str.ofString "abcdefghijklmnopqrstuvwxyz") ⟨#[c]⟩ = TR.ltr c := by
  rw [has_sign]
  have e : cds (Str.ofString "abcdefghijklmnopqrstuvwxyz") = [97, 98, 99, 100, 101, 102, 103, 104, 105, 106, 107, 108, 109, 110, 111, 112, 113, 114, 115, 116, 117, 118, 119, 120, 121, 122] := by decide
  rw [e]
  unfold TR.ltr
  rw [Bool.eq_iff_iff]
  simp only [List.mem_cons, List.not_mem_nil, or_false, decide_eq_true_eq, Bool.and_eq_true]
  omega
theorem pyDs_strs : ∀ ks : List Str, pyDs (ks.map D.str) = some (ks.map PyData.str)
  | [] => rfl
  | k :: ks => by
    show ((pyD (.str k)).bind fun p => (pyDs (ks.map D.str)).map (p :: ·)) = _
    rw [pyDs_strs ks]; rfl
theorem lay_strs : ∀ ks : List Str, (∀ k ∈ ks, PyData.strOk k = true) -> PyData.canLayAll0 (ks.map PyData.str) = true
  | [], _ => rfl
  | k :: ks, h => by
    show (PyData.canLay0 (.str k) && PyData.canLayAll0 (ks.map PyData.str)) = true
    rw [lay_strs ks fun x hx => h x (List.mem_cons_of_mem _ hx), Bool.and_true]
    exact h k (List.mem_cons_self ..)
theorem any_strs (z : Str) : ∀ ks : List Str, ((ks.map PyData.str).any fun y => PyData.eqv y (.str z)) = decide (z ∈ ks)
  | [] => by simp
  | k :: ks => by
    rw [List.map_cons, List.any_cons, any_strs z ks, Bool.eq_iff_iff]
    have e : PyData.eqv (.str k) (.str z) = (k == z) := by simp [PyData.eqv]
    rw [e]
    simp only [Bool.or_eq_true, beq_iff_eq, decide_eq_true_eq, List.mem_cons]
    exact ⟨fun h => h.imp Eq.symm id, fun h => h.imp Eq.symm id⟩
theorem hasV_strs {z : Str} {ks : List Str} (hz : PyData.strOk z = true) (hk : ∀ k ∈ ks, PyData.strOk k = true) : hasV (.str z) (ks.map D.str) = some (decide (z ∈ ks)) := by
  show ((some (PyData.str z)).bind fun p => (pyDs (ks.map D.str)).bind fun ps => if (PyData.canLayAll0 ps && PyData.canLay0 p && decide (p.depth <= 63)) = true then some (ps.any fun y => PyData.eqv y p) else none) = _
  rw [pyDs_strs, Option.bind_some, Option.bind_some, lay_strs ks hk, any_strs, if_pos]
  show (true && PyData.strOk z && decide (PyData.depth (.str z) <= 63)) = true
  rw [hz]
  rfl
noncomputable def keyS : List Str := [Str.ofString "mark", Str.ofString "fill", Str.ofString "here", Str.ofString "back", Str.ofString "on", Str.ofString "at", Str.ofString "ago", Str.ofString "until", Str.ofString "abs", Str.ofString "and", Str.ofString "or", Str.ofString "not"]
theorem key_cds : keyS.map cds = TR.keyL := by decide
theorem key_mem (z : Str) : (z ∈ keyS) ↔ cds z ∈ TR.keyL := by
  rw [← key_cds, List.mem_map]
  exact ⟨fun h => ⟨z, h, rfl⟩, fun ⟨y, h, e⟩ => by rw [← ext e]; exact h⟩
theorem m_word (z : Str) (hz : z.length <= 1000000) : finT (g_is_word a (startD 1 [.str z])) = .ok (.bl (TR.wordB (cds z))) := by
  have hs := size_of hz
  have hc : compO (gV 0) (fun _ => .ok true) (d2 inSD (dV 0) (dC (.str "abcdefghijklmnopqrstuvwxyz"))) (capD 1 [] [.sh (.str z)]) (signs z) = some ((cds z).map fun c => .bl (TR.ltr c)) := by
    have := compO_map (a := gV 0) (c := fun _ => .ok true) (e := d2 inSD (dV 0) (dC (.str "abcdefghijklmnopqrstuvwxyz"))) (ρ0 := capD 1 [] [.sh (.str z)]) (fun d => [.sh d]) (fun d => match d with | .str y => .bl (Txt.contains "abcdefghijklmnopqrstuvwxyz" y) | _ => .non) (signs z) fun d hd => by
      obtain ⟨c, _, rfl⟩ := List.mem_map.mp hd
      exact ⟨rfl, rfl, rfl⟩
    rw [this]
    unfold signs
    rw [List.map_map]
    congr 1
    refine List.map_congr_left fun c _ => ?_
    show D.bl (Txt.contains "abcdefghijklmnopqrstuvwxyz" ⟨#[c]⟩) = _
    rw [ltr_has]
  have hl : (signs z).length <= sizeLine := by unfold signs; rw [List.length_map]; exact size_of (show (cds z).length <= _ by rw [← len_cds]; exact hz)
  have el := len_cds z
  have hb := boolsD_map TR.ltr (cds z)
  have hid : (((cds z).map TR.ltr).all id) = (cds z).all TR.ltr := by rw [List.all_map]; rfl
  unfold g_is_word TR.wordB
  by_cases h0 : z = Str.ofString ""
  · have h1 := (empty_iff z).mp h0
    iterate 5 (walk_at "den"; try simp only [h0, h1, decide_true])
    have e0 : cds (Str.ofString "") = [] := by decide
    simp [e0]
  · have h1 : cds z ≠ [] := fun w => h0 ((empty_iff z).mpr w)
    by_cases h8 : z.length <= 8
    · have hg : ¬ ((8 : Int) < ((z.length : Nat) : Int)) := by omega
      have h8' : (cds z).length <= 8 := by omega
      cases hA : (cds z).all TR.ltr with
      | false =>
        iterate 9 (walk_at "den"; try simp only [h0, h1, if_pos hs, hg, if_pos hl, hc, hb, hid, hA, decide_false])
        simp
      | true =>
        have ok : PyData.strOk z = true := by
          unfold PyData.strOk
          rw [← Array.all_toList]
          refine List.all_eq_true.mpr fun c hc => ?_
          have := List.all_eq_true.mp hA c hc
          unfold TR.ltr at this
          simp only [Bool.and_eq_true, decide_eq_true_eq] at this ⊢
          omega
        have kok : ∀ k ∈ keyS, PyData.strOk k = true := by decide +kernel
        have hv := hasV_strs ok kok
        have nin : ninLD (.str z) (.tup [(.str "mark"), (.str "fill"), (.str "here"), (.str "back"), (.str "on"), (.str "at"), (.str "ago"), (.str "until"), (.str "abs"), (.str "and"), (.str "or"), (.str "not")]) = .ok (.bl (!decide (z ∈ keyS))) := by
          show (match hasV (.str z) (keyS.map D.str) with | some b => R.ok (D.bl (!b)) | none => .bad) = _
          rw [hv]
        iterate 9 (walk_at "den"; try simp only [h0, h1, if_pos hs, hg, if_pos hl, hc, hb, hid, hA, nin, decide_false])
        by_cases hk : z ∈ keyS
        · simp [hk, (key_mem z).mp hk]
        · have hk2 : ¬ cds z ∈ TR.keyL := fun w => hk ((key_mem z).mpr w)
          simp [hk, hk2, h8', h1]
    · have hg : (8 : Int) < ((z.length : Nat) : Int) := by omega
      have h8' : ¬ (cds z).length <= 8 := by omega
      iterate 7 (walk_at "den"; try simp only [h0, h1, if_pos hs, hg, decide_true, decide_false])
      simp [h8']
noncomputable def wholeO (cs : List Nat) (lo hi : Nat) : Option Nat := if numB cs (num hi).length = true /\ lo <= digitsVal cs /\ digitsVal cs <= hi then some (digitsVal cs) else none
noncomputable def outN (a : Ad) (o : Option Nat) : R D := match o with
  | some v => .ok (.int (v : Nat))
  | none => .ex a.NoText ["row"] [.int 1]
theorem m_rwhole {Fn : List D -> R D} (hn : ∀ (z : Str) (k : Nat), z.length <= 1000000 -> Fn [.str z, .int k] = .ok (.bl (numB (cds z) k))) (z : Str) (lo hi : Nat) (hz : z.length <= 1000000) (hh : hi < 10 ^ 400) :
    finT (gr_whole a Fn (startD 4 [.str z, .int lo, .int hi])) = outN a (wholeO (cds z) lo hi) := by
  have s1 : strD [.int (hi : Nat)] = .ok (.str (toString ((hi : Nat) : Int))) := q_strU (by omega)
  have c1 := cds_num hi
  have l1 : (num hi).length <= 400 := num_len (k := 399) hh
  generalize hw : Str.ofString (toString ((hi : Nat) : Int)) = w at c1 s1
  have lw : w.length = (num hi).length := by rw [len_cds, c1]
  have lw2 : w.length <= sizeLine := size_of (by omega)
  have n1 := hn z (num hi).length hz
  rw [← lw] at n1
  have n1' : Fn [.str z, .int ((w.length : Nat) : Int)] = .ok (.bl (numB (cds z) (num hi).length)) := by rw [n1, lw]
  unfold gr_whole wholeO
  cases hb : numB (cds z) (num hi).length with
  | false =>
    rw [hb] at n1'
    iterate 6 (walk_at "den"; try simp only [s1, if_pos lw2, n1'])
    simp [outN]
  | true =>
    rw [hb] at n1'
    obtain ⟨k1, k2⟩ := numB_all hb
    obtain ⟨k3, k4⟩ := figB_all k2
    have j1 : z.length <= 640 := by rw [len_cds]; omega
    have i1 : intText? z = some ((digitsVal (cds z) : Nat) : Int) := intText_of k3 k4 j1
    by_cases h1 : digitsVal (cds z) < lo
    · have h1' : ((digitsVal (cds z) : Nat) : Int) < (lo : Int) := by omega
      iterate 8 (walk_at "den"; try simp only [s1, if_pos lw2, n1', i1, if_pos j1, h1', decide_true])
      have : ¬ lo <= digitsVal (cds z) := by omega
      simp [outN, this]
    · have h1' : ¬ ((digitsVal (cds z) : Nat) : Int) < (lo : Int) := by omega
      by_cases h2 : hi < digitsVal (cds z)
      · have h2' : (hi : Int) < ((digitsVal (cds z) : Nat) : Int) := by omega
        iterate 8 (walk_at "den"; try simp only [s1, if_pos lw2, n1', i1, if_pos j1, h1', h2', decide_true, decide_false])
        have : ¬ digitsVal (cds z) <= hi := by omega
        simp [outN, this]
      · have h2' : ¬ (hi : Int) < ((digitsVal (cds z) : Nat) : Int) := by omega
        iterate 9 (walk_at "den"; try simp only [s1, if_pos lw2, n1', i1, if_pos j1, h1', h2', decide_true, decide_false])
        have g1 : lo <= digitsVal (cds z) := by omega
        have g2 : digitsVal (cds z) <= hi := by omega
        simp [g1, g2, outN]
theorem q_split32 {z : Str} (hz : z.length <= 1000) : splitD (.str z) [.str " "] = .ok (.lst ((Txt.split z ⟨#[32]⟩).map D.str)) := by
  show (if ((Str.ofString " ").length == 0) = false /\ z.length + 2 <= sizeLine then R.ok (D.lst ((Txt.split z (Str.ofString " ")).map D.str)) else .bad) = _
  rw [if_pos ⟨by decide, size_of (by omega)⟩]
  rfl
noncomputable def outW (a : Ad) (z : Str) : R D := if TR.wordB (cds z) = true then .ok (.str z) else .ex a.NoText ["row"] [.int 1]
theorem m_rword {Fi : List D -> R D} (hw : ∀ z : Str, z.length <= 1000000 -> Fi [.str z] = .ok (.bl (TR.wordB (cds z)))) (z : Str) (hz : z.length <= 1000000) : finT (gr_word a Fi (startD 1 [.str z])) = outW a z := by
  have h := hw z hz
  unfold gr_word outW
  cases e : TR.wordB (cds z) with
  | false =>
    rw [e] at h
    iterate 5 (walk_at "den"; try simp only [h])
    try rfl
  | true =>
    rw [e] at h
    iterate 5 (walk_at "den"; try simp only [h])
    try rfl
theorem q_jCons_s {f : Ev -> R D} {fj : Str -> Ev -> R D} {x y : Str} {ρ : Ev} (h : f ρ = .ok (.str y)) (hl : (x ++ y).length <= sizeLine) : jCons f fj x ρ = fj (x ++ y) ρ := by
  rw [q_jCons_k, h]
  show (if (x ++ y).length <= sizeLine then fj (x ++ y) ρ else .bad) = _
  rw [if_pos hl]
end WP
namespace WR
open PySem L2 P2 WP TM T2 PySem.NumText
noncomputable abbrev Tk := List Nat
inductive Pr where
  | ok (d : D) (r : List Tk) (k b : Nat) | no | bad
noncomputable abbrev PF := List Tk -> Nat -> Nat -> Pr
noncomputable def eqL : List Nat -> List Nat -> Bool
  | [], [] => true
  | x :: xs, y :: ys => Nat.beq x y && eqL xs ys
  | _, _ => false
theorem eqL_iff : ∀ x y : List Nat, eqL x y = true ↔ x = y
  | [], [] => by simp [eqL]
  | [], _ :: _ => by simp [eqL]
  | _ :: _, [] => by simp [eqL]
  | x :: xs, y :: ys => by
    unfold eqL
    rw [Bool.and_eq_true, eqL_iff xs ys, Nat.beq_eq]
    simp
noncomputable abbrev tS (t : Tk) : D := .str (mkS t)
theorem dec_eqL (t : Tk) (s : Str) : decide (mkS t = s) = eqL t (cds s) := by
  rw [Bool.eq_iff_iff, decide_eq_true_eq, eqL_iff]
  exact ⟨fun h => by rw [← h, cds_mk], fun h => by rw [h, mk_cds]⟩
theorem t_eq (t : Tk) (s : Str) : eqSD (tS t) (.str s) = .ok (.bl (eqL t (cds s))) := by rw [q_eq_s, dec_eqL]
theorem t_ne (t : Tk) (s : Str) : neSD (tS t) (.str s) = .ok (.bl (!eqL t (cds s))) := by rw [q_ne_s, dec_eqL]
theorem dec_any (t : Tk) : ∀ ks : List Str, decide (mkS t ∈ ks) = (ks.map cds).any (eqL t)
  | [] => by simp
  | k :: ks => by
    rw [List.map_cons, List.any_cons, ← dec_any t ks, ← dec_eqL, Bool.eq_iff_iff]
    simp
theorem t_in (t : Tk) (ks : List Str) (h : PyData.strOk (mkS t) = true) (hk : ∀ k ∈ ks, PyData.strOk k = true) : inLD (tS t) (.tup (ks.map D.str)) = .ok (.bl ((ks.map cds).any (eqL t))) := by
  show (match hasV (.str (mkS t)) (ks.map D.str) with | some b => R.ok (D.bl b) | none => .bad) = _
  rw [hasV_strs h hk, dec_any]
theorem t_nin (t : Tk) (ks : List Str) (h : PyData.strOk (mkS t) = true) (hk : ∀ k ∈ ks, PyData.strOk k = true) : ninLD (tS t) (.tup (ks.map D.str)) = .ok (.bl (!(ks.map cds).any (eqL t))) := by
  show (match hasV (.str (mkS t)) (ks.map D.str) with | some b => R.ok (D.bl (!b)) | none => .bad) = _
  rw [hasV_strs h hk, dec_any]
noncomputable def bindP (x : Pr) (f : D -> PF) : Pr := match x with
  | .ok d r k b => f d r k b
  | .no => .no
  | .bad => .bad
noncomputable def mapP (f : D -> D) (x : Pr) : Pr := bindP x fun d r k b => .ok (f d) r k b
noncomputable def nx : List Tk -> Tk
  | [] => []
  | t :: _ => t
noncomputable def tk (r : List Tk) (f : Tk -> List Tk -> Pr) : Pr := match r with
  | [] => .no
  | t :: r => f t r
noncomputable def xp (c : Tk) (r : List Tk) (f : List Tk -> Pr) : Pr := tk r fun x r => bif eqL x c then f r else .no
noncomputable def bg (k : Nat) (f : Nat -> Pr) : Pr := bif Nat.ble k 29 then f (k + 1) else .no
noncomputable def en (t : Tk) (r : List Tk) (b : Nat) (f : List Tk -> Nat -> Pr) : Pr := tk r fun x r => bif eqL x t then (bif Nat.ble b 15 then f r (b + 1) else .no) else .no
noncomputable def lv (t : Tk) (d : D) (r : List Tk) (k b : Nat) : Pr := tk r fun x r => bif eqL x t then (match b with
  | b + 1 => .ok d r k b
  | 0 => .bad) else .no
noncomputable def smallO (t : Tk) : Option (Int × Int) := match readF t with
  | some (p, q) => if p.natAbs < 1000000000 /\ q < 1000000 then some (p, q) else none
  | none => none
noncomputable def opt {α : Type} (o : Option α) (f : α -> Pr) : Pr := match o with
  | some v => f v
  | none => .no
noncomputable def plL : List Tk := [[98, 97, 99, 107], [111, 110], [97, 103, 111], [117, 110, 116, 105, 108]]
noncomputable def prD (v : Int × Int) : D := .tup [.int v.1, .int v.2]
noncomputable def pBrk (ps : PF) : PF := fun r k b => en [40] r b fun r b => bindP (ps r k b) fun d r k b => lv [41] d r k b
noncomputable def pSg (pb : PF) : PF := fun r k b => bif eqL (nx r) [40] then pb r k b else bg k fun k => tk r fun w r =>
    bif eqL w [104, 101, 114, 101] then .ok (.tup [.str "here"]) r k b else
    bif plL.any (eqL w) then tk r fun t r => opt (wholeO t 1 9) fun n => .ok (.tup [tS w, .int (n : Nat)]) r k b else
    bif eqL w [97, 116] then tk r fun t r => (bif TR.wordB t then .ok (.tup [.str "at", tS t]) r k b else .no) else
    bif eqL w [97, 98, 115] then mapP (fun d => .tup [.str "abs", d]) (pb r k b) else
    opt (smallO w) fun v => .ok (.tup [.str "num", prD v]) r k b
noncomputable def pPr (psg : PF) : PF := fun r k b => bif eqL (nx r.tail) [42] then tk r fun f r => opt (smallO f) fun v => xp [42] r fun r => bg k fun k => mapP (fun d => .tup [.str "times", prD v, d]) (psg r k b)
  else psg r k b
noncomputable def pSumL (pp : PF) : Nat -> D -> PF
  | 0, _, _, _, _ => .bad
  | n + 1, d, r, k, b => bif [[43], [45]].any (eqL (nx r)) then tk r fun s r => bg k fun k => bindP (pp r k b) fun e r k b => pSumL pp n (.tup [tS s, d, e]) r k b else .ok d r k b
noncomputable def pSum (pp : PF) : PF := fun r k b => bindP (pp r k b) fun d r k b => pSumL pp 100 d r k b
noncomputable def pCmp (ps : PF) : PF := fun r k b => bg k fun k => bindP (ps r k b) fun d r k b => tk r fun s r => bif [[60], [61]].any (eqL s) then mapP (fun e => .tup [tS s, d, e]) (ps r k b) else .no
noncomputable def pNot (pn po pc : PF) : PF := fun r k b =>
  bif eqL (nx r) [110, 111, 116] then xp [110, 111, 116] r fun r => bg k fun k => mapP (fun d => .tup [.str "not", d]) (pn r k b) else
  bif eqL (nx r) [91] then en [91] r b fun r b => bindP (po r k b) fun d r k b => lv [93] d r k b else pc r k b
noncomputable def pBinL (w : Tk) (s : Str) (pp : PF) : Nat -> D -> PF
  | 0, _, _, _, _ => .bad
  | n + 1, d, r, k, b => bif eqL (nx r) w then xp w r fun r => bg k fun k => bindP (pp r k b) fun e r k b => pBinL w s pp n (.tup [.str s, d, e]) r k b else .ok d r k b
noncomputable def pBin (w : Tk) (s : Str) (pp : PF) : PF := fun r k b => bindP (pp r k b) fun d r k b => pBinL w s pp 100 d r k b
structure Fam0 where
  (su pr sg br : PF)
noncomputable def f0 : Nat -> Fam0
  | 0 => ⟨fun _ _ _ => .bad, fun _ _ _ => .bad, fun _ _ _ => .bad, fun _ _ _ => .bad⟩
  | n + 1 => ⟨pSum (f0 n).pr, pPr (f0 n).sg, pSg (f0 n).br, pBrk (f0 n).su⟩
structure Fam1 where
  (or and not : PF)
noncomputable def f1 : Nat -> Fam1
  | 0 => ⟨fun _ _ _ => .bad, fun _ _ _ => .bad, fun _ _ _ => .bad⟩
  | n + 1 => ⟨pBin [111, 114] "or" (f1 n).and, pBin [97, 110, 100] "and" (f1 n).not, pNot (f1 n).not (f1 n).or (pCmp (f0 75).su)⟩
noncomputable def pEnd (x : Pr) : Pr := bindP x fun d r k b => match r with
  | [] => .ok d r k b
  | _ :: _ => .no
noncomputable def runS (c : Nat) : Bool := (Nat.ble 97 c && Nat.ble c 122) || (Nat.ble 47 c && Nat.ble c 57)
noncomputable def tokL (cs : List Nat) : List Tk := (splitL 32 (cs.flatMap fun c => bif runS c then [c] else [32, c, 32])).filter fun t => !t.isEmpty
noncomputable def parse (cs : List Nat) : Pr := pEnd ((f1 85).or (tokL cs) 0 0)
noncomputable def stT (a : Ad) (T : List Tk) (p k b : Nat) : Sto := [.ob a.Tokens [("tokens", .d (.lst (T.map tS))), ("place", .d (.int p)), ("parts", .d (.int k)), ("brackets", .d (.int b))]]
noncomputable def Rl (a : Ad) (T : List Tk) (x : RX Z) : Pr -> Prop
  | .ok d r k b => ∃ p, T.drop p = r /\ x = .ok (.d d) (stT a T p k b)
  | .no => ∃ S, x = .ex a.NoText ["row"] [.int 1] S
  | .bad => True
noncomputable def Sim (a : Ad) (T : List Tk) (F : List Z -> Sto -> RX Z) (G : PF) : Prop := ∀ p k b, Rl a T (F [.loc 0] (stT a T p k b)) (G (T.drop p) k b)
structure TOk (T : List Tk) : Prop where
  n : ∀ t ∈ T, t ≠ []
  s : ∀ t ∈ T, PyData.strOk (mkS t) = true
  l : T.length <= 100000
section
variable {a : Ad} {T : List Tk} {p k b : Nat} {ρ : ZEv} {α β : Type}
theorem w_toZ_k {x : α} {S : Sto} {f : α -> Sto -> RTZ} : toZ (.ok x S) f = f x S := rfl
theorem w_toZ_x {c : Addr} {ns : List Str} {ds : List D} {S : Sto} {f : α -> Sto -> RTZ} : toZ (.ex c ns ds S) f = .ex c ns ds S := rfl
theorem w_bind_k {x : α} {S : Sto} {f : α -> Sto -> RX β} : (RX.ok x S).bind f = f x S := rfl
theorem w_bind_x {c : Addr} {ns : List Str} {ds : List D} {S : Sto} {f : α -> Sto -> RX β} : (RX.ex c ns ds S).bind f = .ex c ns ds S := rfl
theorem w_seq_n {S : Sto} {f : ZEv -> Sto -> RTZ} : seqZ (.nx ρ S) f = f ρ S := rfl
theorem w_seq_x {c : Addr} {ns : List Str} {ds : List D} {S : Sto} {f : ZEv -> Sto -> RTZ} : seqZ (.ex c ns ds S) f = .ex c ns ds S := rfl
theorem w_seq_r {z : Z} {S : Sto} {f : ZEv -> Sto -> RTZ} : seqZ (.rt z S) f = .rt z S := rfl
theorem w_turn_n {S : Sto} {f : ZEv -> Sto -> RTZ} : turnZ (.nx ρ S) f = f ρ S := rfl
theorem w_turn_x {c : Addr} {ns : List Str} {ds : List D} {S : Sto} {f : ZEv -> Sto -> RTZ} : turnZ (.ex c ns ds S) f = .ex c ns ds S := rfl
theorem w_fin_r {z : Z} {S : Sto} : finZ (.rt z S) = .ok z S := rfl
theorem w_fin_n {S : Sto} : finZ (.nx ρ S) = .ok (.d .non) S := rfl
theorem w_fin_x {c : Addr} {ns : List Str} {ds : List D} {S : Sto} : finZ (.ex c ns ds S) = .ex c ns ds S := rfl
theorem w_up_k {x : α} {S : Sto} : upR (.ok x) S = .ok x S := rfl
theorem w_up_x {c : Addr} {ns : List Str} {ds : List D} {S : Sto} : upR (.ex c ns ds : R α) S = .ex c ns ds S := rfl
theorem w_ySeq {f g : ZEv -> Sto -> RTZ} {S : Sto} : ySeq f g ρ S = seqZ (f ρ S) g := rfl
theorem w_yExpr {f : ZEv -> Sto -> RX Z} {S : Sto} : yExpr f ρ S = toZ (f ρ S) fun _ S1 => .nx ρ S1 := rfl
theorem w_yRet {f : ZEv -> Sto -> RX Z} {S : Sto} : yRet f ρ S = toZ (f ρ S) .rt := rfl
theorem w_ySet1 {f : ZEv -> Sto -> RX Z} {S : Sto} {z y : Option Z} : ySet 1 f (z :: y :: ρ) S = toZ (f (z :: y :: ρ) S) fun x S1 => .nx (z :: some x :: ρ) S1 := by
  unfold ySet
  congr 1
  try funext x S1
  try exact if_pos (by simp)
theorem w_ySet2 {f : ZEv -> Sto -> RX Z} {S : Sto} {z y x : Option Z} : ySet 2 f (z :: y :: x :: ρ) S = toZ (f (z :: y :: x :: ρ) S) fun v S1 => .nx (z :: y :: some v :: ρ) S1 := by
  unfold ySet
  congr 1
  try funext v S1
  try exact if_pos (by simp)
theorem w_yIf {c : ZEv -> Sto -> RX Bool} {f g : ZEv -> Sto -> RTZ} {S : Sto} : yIf c f g ρ S = toZ (c ρ S) fun k S1 => bif k then f ρ S1 else g ρ S1 := by
  unfold yIf
  congr 1
  funext k S1
  cases k <;> rfl
theorem w_yNil {S : Sto} : yNil ρ S = .nx ρ S := rfl
theorem w_zZ {F : List Z -> Sto -> RX Z} {f : ZEv -> Sto -> RX (List Z)} {S : Sto} : zZ F f ρ S = (f ρ S).bind F := rfl
theorem w_zNil {S : Sto} : zNil ρ S = .ok [] S := rfl
theorem w_zCons {f : ZEv -> Sto -> RX Z} {g : ZEv -> Sto -> RX (List Z)} {S : Sto} : zCons f g ρ S = (f ρ S).bind fun x S1 => (g ρ S1).bind fun xs S2 => .ok (x :: xs) S2 := rfl
theorem w_zV0 {z : Z} {S : Sto} : zV 0 (some z :: ρ) S = .ok z S := rfl
theorem w_zV1 {z : Z} {y : Option Z} {S : Sto} : zV 1 (y :: some z :: ρ) S = .ok z S := rfl
theorem w_zD {f : Ev -> R D} {S : Sto} : zD f ρ S = (upR (f (pur ρ)) S).bind fun d S => .ok (.d d) S := rfl
theorem w_zB {f : Ev -> R Bool} {S : Sto} : zB f ρ S = upR (f (pur ρ)) S := rfl
theorem w_z2 {g : D -> D -> R D} {f h : ZEv -> Sto -> RX Z} {S : Sto} : z2 g f h ρ S = (f ρ S).bind fun x S1 => (h ρ S1).bind fun y S2 => match x, y with
  | .d x, .d y => (upR (g x y) S2).bind fun d S => .ok (.d d) S
  | _, _ => .bad := rfl
theorem w_zTst {g : D -> R Bool} {f : ZEv -> Sto -> RX Z} {S : Sto} : zTst g f ρ S = (f ρ S).bind fun x S1 => match x with
  | .d x => upR (g x) S1
  | _ => .bad := rfl
theorem w_zIf {c : ZEv -> Sto -> RX Bool} {f g : ZEv -> Sto -> RX Z} {S : Sto} : zIf c f g ρ S = (c ρ S).bind fun k S1 => bif k then f ρ S1 else g ρ S1 := by
  unfold zIf
  congr 1
  funext k S1
  cases k <;> rfl
theorem w_zF {g : List D -> R D} {f : ZEv -> Sto -> RX (List Z)} {S : Sto} : zF g f ρ S = (f ρ S).bind fun zs S1 => match asDs zs with
  | some ds => (upR (g ds) S1).bind fun d S => .ok (.d d) S
  | none => .bad := rfl
theorem w_as0 : asDs [] = some [] := rfl
theorem w_as1 {x : D} : asDs [.d x] = some [x] := rfl
theorem w_as2 {x y : D} : asDs [.d x, .d y] = some [x, y] := rfl
theorem w_as3 {x y z : D} : asDs [.d x, .d y, .d z] = some [x, y, z] := rfl
theorem w_pur0 : pur [] = [] := rfl
theorem w_purl {n : Nat} : pur (some (.loc n) :: ρ) = .no :: pur ρ := rfl
theorem w_purd {x : D} : pur (some (.d x) :: ρ) = .sh x :: pur ρ := rfl
theorem w_purn : pur (none :: ρ) = .no :: pur ρ := rfl
theorem w_ml1 {d : D} : mkT [d] = .ok (.tup [d]) := q_mkT_p (by simp)
theorem w_ml2 {d e : D} : mkT [d, e] = .ok (.tup [d, e]) := q_mkT_p (by simp)
theorem w_ml3 {d e f : D} : mkT [d, e, f] = .ok (.tup [d, e, f]) := q_mkT_p (by simp)
theorem w_ml4 {d e f g : D} : mkT [d, e, f, g] = .ok (.tup [d, e, f, g]) := q_mkT_p (by simp)
theorem w_raise {S : Sto} : leave ((fun ρ => toS ((aCons (dC (.int 1)) aNil) ρ) fun ds => RT.ex a.NoText ["row"] ds) (pur ρ)) S = .ex a.NoText ["row"] [.int 1] S := rfl
theorem w_raise2 {S : Sto} : leave (toS (R.ok [D.int 1]) fun ds => RT.ex a.NoText ["row"] ds) S = .ex a.NoText ["row"] [.int 1] S := rfl
theorem w_tokens : zFld a.Tokens (zV 0) "tokens" (some (.loc 0) :: ρ) (stT a T p k b) = .ok (.d (.lst (T.map tS))) (stT a T p k b) := by
  unfold zFld stT
  show (if a.Tokens = a.Tokens then _ else _) = _
  rw [if_pos rfl]; rfl
theorem w_place : zFld a.Tokens (zV 0) "place" (some (.loc 0) :: ρ) (stT a T p k b) = .ok (.d (.int p)) (stT a T p k b) := by
  unfold zFld stT
  show (if a.Tokens = a.Tokens then _ else _) = _
  rw [if_pos rfl]; rfl
theorem w_parts : zFld a.Tokens (zV 0) "parts" (some (.loc 0) :: ρ) (stT a T p k b) = .ok (.d (.int k)) (stT a T p k b) := by
  unfold zFld stT
  show (if a.Tokens = a.Tokens then _ else _) = _
  rw [if_pos rfl]; rfl
theorem w_brackets : zFld a.Tokens (zV 0) "brackets" (some (.loc 0) :: ρ) (stT a T p k b) = .ok (.d (.int b)) (stT a T p k b) := by
  unfold zFld stT
  show (if a.Tokens = a.Tokens then _ else _) = _
  rw [if_pos rfl]; rfl
theorem w_place1 : yFldAug a.Tokens (zV 0) "place" (fun i j => i + j) (zD (dC (.int 1))) (some (.loc 0) :: ρ) (stT a T p k b) = .nx (some (.loc 0) :: ρ) (stT a T (p + 1) k b) := by
  unfold yFldAug stT
  show (if a.Tokens = a.Tokens then _ else _) = _
  rw [if_pos rfl]
  show (if a.Tokens = a.Tokens /\ _ then _ else _) = _
  rw [if_pos ⟨rfl, by simp⟩]; rfl
theorem w_parts1 : yFldAug a.Tokens (zV 0) "parts" (fun i j => i + j) (zD (dC (.int 1))) (some (.loc 0) :: ρ) (stT a T p k b) = .nx (some (.loc 0) :: ρ) (stT a T p (k + 1) b) := by
  unfold yFldAug stT
  show (if a.Tokens = a.Tokens then _ else _) = _
  rw [if_pos rfl]
  show (if a.Tokens = a.Tokens /\ _ then _ else _) = _
  rw [if_pos ⟨rfl, by simp⟩]; rfl
theorem w_brackets1 : yFldAug a.Tokens (zV 0) "brackets" (fun i j => i + j) (zD (dC (.int 1))) (some (.loc 0) :: ρ) (stT a T p k b) = .nx (some (.loc 0) :: ρ) (stT a T p k (b + 1)) := by
  unfold yFldAug stT
  show (if a.Tokens = a.Tokens then _ else _) = _
  rw [if_pos rfl]
  show (if a.Tokens = a.Tokens /\ _ then _ else _) = _
  rw [if_pos ⟨rfl, by simp⟩]; rfl
theorem w_bracketsm : yFldAug a.Tokens (zV 0) "brackets" (fun i j => i - j) (zD (dC (.int 1))) (some (.loc 0) :: ρ) (stT a T p k (b + 1)) = .nx (some (.loc 0) :: ρ) (stT a T p k b) := by
  unfold yFldAug stT
  show (if a.Tokens = a.Tokens then _ else _) = _
  rw [if_pos rfl]
  show (if a.Tokens = a.Tokens /\ _ then _ else _) = _
  rw [if_pos ⟨rfl, by simp⟩]
  have e : (((b + 1 : Nat) : Int) - 1) = (b : Nat) := by omega
  show RTZ.nx _ [Cell.ob a.Tokens [("tokens", .d (.lst (T.map tS))), ("place", .d (.int p)), ("parts", .d (.int k)), ("brackets", .d (.int (((b + 1 : Nat) : Int) - 1)))]] = _
  rw [e]
theorem w_meth {m : Str} {F : List Z -> Sto -> RX Z} {dz : List D} {fs : ZEv -> Sto -> RX (List Z)} {zs : List Z} (hm : (m == "tokens") = false /\ (m == "place") = false /\ (m == "parts") = false /\ (m == "brackets") = false) (h : fs (some (.loc 0) :: ρ) (stT a T p k b) = .ok zs (stT a T p k b)) :
    zMeth a.Tokens m F dz (zV 0) fs (some (.loc 0) :: ρ) (stT a T p k b) = F (.loc 0 :: (zs ++ dz.map .d)) (stT a T p k b) := by
  unfold zMeth
  obtain ⟨h1, h2, h3, h4⟩ := hm
  show (if a.Tokens = a.Tokens /\ List.lookup m [("tokens", Z.d (.lst (T.map tS))), ("place", .d (.int p)), ("parts", .d (.int k)), ("brackets", .d (.int b))] = none then _ else _) = _
  rw [if_pos ⟨rfl, by rw [List.lookup_cons, h1, List.lookup_cons, h2, List.lookup_cons, h3, List.lookup_cons, h4]; rfl⟩, h]
  rfl
end
end WR
namespace WR
open PySem L2 P2 WP TM T2 PySem.NumText
local macro_rules | `(tactic| walk_at "zw") => `(tactic| simp only [w_toZ_k, w_toZ_x, w_bind_k, w_bind_x, w_seq_n, w_seq_x, w_seq_r, w_turn_n, w_turn_x, w_fin_r, w_fin_n, w_fin_x, w_up_k, w_up_x, w_ySeq, w_yExpr, w_yRet, w_ySet1, w_ySet2, w_yIf, w_yNil, w_zZ, w_zNil, w_zCons, w_zV0, w_zV1, w_zD, w_zB, w_z2, w_zTst, w_zIf, w_zF, w_as0, w_as1, w_as2, w_as3, w_pur0, w_purl, w_purd, w_purn, w_ml1, w_ml2, w_ml3, w_ml4, w_raise, w_raise2, w_tokens, w_place, w_parts, w_brackets, w_place1, w_parts1, w_brackets1, w_bracketsm, q_dC_a, q_d1_a, q_d2_a, q_b1B_a, q_dA_a, q_aNil_a, q_aCons_a, q_bind_k, q_bind_x, q_tB_b, q_add_i, q_lt_i, q_gt_i, q_len_l, q_v0, q_v1, q_v2, t_eq, t_ne, cond_true, cond_false, Bool.not_true, Bool.not_false, List.length_map])
noncomputable abbrev Za (a : Ad) : List Z -> Sto -> RX Z := fun zs S => finZ (gt_ahead a S.length (startZ 3 zs) S)
noncomputable abbrev Zt (a : Ad) : List Z -> Sto -> RX Z := fun zs S => finZ (gt_take a (Za a) S.length (startZ 2 zs) S)
noncomputable abbrev Ze (a : Ad) : List Z -> Sto -> RX Z := fun zs S => finZ (gt_expect a (Zt a) S.length (startZ 2 zs) S)
noncomputable abbrev Zx (a : Ad) : List Z -> Sto -> RX Z := fun zs S => finZ (gt_expect_end a (Za a) S.length (startZ 1 zs) S)
noncomputable abbrev Zb (a : Ad) : List Z -> Sto -> RX Z := fun zs S => finZ (gt_begin_part a S.length (startZ 1 zs) S)
noncomputable abbrev Zn (a : Ad) : List Z -> Sto -> RX Z := fun zs S => finZ (gt_enter a (Ze a) S.length (startZ 2 zs) S)
noncomputable abbrev Zl (a : Ad) : List Z -> Sto -> RX Z := fun zs S => finZ (gt_leave a (Ze a) S.length (startZ 2 zs) S)
theorem c_empty : cds (Str.ofString "") = [] := by decide
theorem emp : (.str (Str.ofString "") : D) = tS [] := congrArg D.str (ext (by decide))
section
variable {a : Ad} {T : List Tk} {p k b : Nat} {ρ : ZEv}
theorem m_ahead (j : Nat) : Za a [.loc 0, .d (.int (j : Nat))] (stT a T p k b) = .ok (.d (tS (nx (T.drop (p + j))))) (stT a T p k b) := by
  show finZ (gt_ahead a 1 [some (.loc 0), some (.d (.int (j : Nat))), none] (stT a T p k b)) = _
  unfold gt_ahead
  by_cases h : p + j < T.length
  · have h1 : ((p : Nat) : Int) + ((j : Nat) : Int) < ((T.length : Nat) : Int) := by omega
    have h2 : L2.atI (T.map tS) (((p : Nat) : Int) + ((j : Nat) : Int)) = some (tS (nx (T.drop (p + j)))) := by
      rw [← Int.natCast_add]
      refine atI_nat ?_
      rw [List.getElem?_map, List.getElem?_eq_getElem h, List.drop_eq_getElem_cons h]
      rfl
    (repeat (first | walk_at "zw" | simp only [decide_eq_true h1, q_ix_l, h2]))
  · have h1 : ¬ ((p : Nat) : Int) + ((j : Nat) : Int) < ((T.length : Nat) : Int) := by omega
    have h2 : T.drop (p + j) = [] := List.drop_eq_nil_of_le (by omega)
    (repeat (first | walk_at "zw" | simp only [decide_eq_false h1, h2, emp]))
    rfl
theorem w_ahead : zMeth a.Tokens "ahead" (Za a) [.int 0] (zV 0) zNil (some (.loc 0) :: ρ) (stT a T p k b) = .ok (.d (tS (nx (T.drop p)))) (stT a T p k b) := by
  rw [w_meth (by decide) w_zNil]
  exact m_ahead 0
theorem w_ahead1 : zMeth a.Tokens "ahead" (Za a) [] (zV 0) (zCons (zD (dC (.int 1))) zNil) (some (.loc 0) :: ρ) (stT a T p k b) = .ok (.d (tS (nx (T.drop p).tail))) (stT a T p k b) := by
  rw [w_meth (zs := [.d (.int 1)]) (by decide) rfl]
  have := m_ahead (a := a) (T := T) (p := p) (k := k) (b := b) 1
  rw [List.tail_drop]
  exact this
theorem eq_nil {t : Tk} (h : t ≠ []) : eqL t [] = false := by
  cases t with
  | nil => exact absurd rfl h
  | cons => rfl
theorem drop1 {t : Tk} {r : List Tk} (h : T.drop p = t :: r) : T.drop (p + 1) = r := by
  rw [← List.tail_drop, h]; rfl
theorem mem_of {t : Tk} {r : List Tk} (h : T.drop p = t :: r) : t ∈ T := List.mem_of_mem_drop (by rw [h]; exact List.mem_cons_self ..)
theorem m_take_n (h : T.drop p = []) : Zt a [.loc 0] (stT a T p k b) = .ex a.NoText ["row"] [.int 1] (stT a T p k b) := by
  show finZ (gt_take a (Za a) 1 [some (.loc 0), none] (stT a T p k b)) = _
  unfold gt_take
  (repeat (first | walk_at "zw" | simp only [w_ahead, c_empty, h, nx, eqL]))
theorem m_take_c {t : Tk} {r : List Tk} (O : TOk T) (h : T.drop p = t :: r) : Zt a [.loc 0] (stT a T p k b) = .ok (.d (tS t)) (stT a T (p + 1) k b) := by
  show finZ (gt_take a (Za a) 1 [some (.loc 0), none] (stT a T p k b)) = _
  unfold gt_take
  have e := eq_nil (O.n t (mem_of h))
  (repeat (first | walk_at "zw" | simp only [w_ahead, c_empty, h, nx, e]))
theorem w_take : zMeth a.Tokens "take" (Zt a) [] (zV 0) zNil (some (.loc 0) :: ρ) (stT a T p k b) = Zt a [.loc 0] (stT a T p k b) := w_meth (m := "take") (by decide) w_zNil
theorem m_exp_n {s : Str} (h : T.drop p = []) : Ze a [.loc 0, .d (.str s)] (stT a T p k b) = .ex a.NoText ["row"] [.int 1] (stT a T p k b) := by
  show finZ (gt_expect a (Zt a) 1 [some (.loc 0), some (.d (.str s))] (stT a T p k b)) = _
  unfold gt_expect
  simp only [w_yIf, w_zTst, w_z2, w_take]
  rw [m_take_n h]
  rfl
theorem m_exp_c {s : Str} {t : Tk} {r : List Tk} (O : TOk T) (h : T.drop p = t :: r) : Ze a [.loc 0, .d (.str s)] (stT a T p k b) = bif eqL t (cds s) then .ok (.d .non) (stT a T (p + 1) k b) else .ex a.NoText ["row"] [.int 1] (stT a T (p + 1) k b) := by
  show finZ (gt_expect a (Zt a) 1 [some (.loc 0), some (.d (.str s))] (stT a T p k b)) = _
  unfold gt_expect
  simp only [w_yIf, w_zTst, w_z2, w_take]
  rw [m_take_c O h]
  cases e : eqL t (cds s) <;> (repeat (first | walk_at "zw" | simp only [e]))
theorem w_exp {s : Str} : zMeth a.Tokens "expect" (Ze a) [] (zV 0) (zCons (zD (dC (.str s))) zNil) (some (.loc 0) :: ρ) (stT a T p k b) = Ze a [.loc 0, .d (.str s)] (stT a T p k b) := w_meth (m := "expect") (zs := [.d (.str s)]) (by decide) rfl
theorem w_exp1 {s : Str} : zMeth a.Tokens "expect" (Ze a) [] (zV 0) (zCons (zD (dV 1)) zNil) (some (.loc 0) :: some (.d (.str s)) :: ρ) (stT a T p k b) = Ze a [.loc 0, .d (.str s)] (stT a T p k b) := w_meth (m := "expect") (zs := [.d (.str s)]) (by decide) rfl
theorem m_end : Zx a [.loc 0] (stT a T p k b) = bif eqL (nx (T.drop p)) [] then .ok (.d .non) (stT a T p k b) else .ex a.NoText ["row"] [.int 1] (stT a T p k b) := by
  show finZ (gt_expect_end a (Za a) 1 [some (.loc 0)] (stT a T p k b)) = _
  unfold gt_expect_end
  cases e : eqL (nx (T.drop p)) [] <;> (repeat (first | walk_at "zw" | simp only [w_ahead, c_empty, e]))
theorem m_beg : Zb a [.loc 0] (stT a T p k b) = bif Nat.ble k 29 then .ok (.d .non) (stT a T p (k + 1) b) else .ex a.NoText ["row"] [.int 1] (stT a T p (k + 1) b) := by
  show finZ (gt_begin_part a 1 [some (.loc 0)] (stT a T p k b)) = _
  unfold gt_begin_part
  cases e : Nat.ble k 29 with
  | true =>
    have h : ¬ (30 : Int) < (((k + 1 : Nat) : Nat) : Int) := by have := Nat.le_of_ble_eq_true e; omega
    (repeat (first | walk_at "zw" | simp only [decide_eq_false h]))
  | false =>
    have h : (30 : Int) < (((k + 1 : Nat) : Nat) : Int) := by
      have : ¬ k <= 29 := fun z => by rw [Nat.ble_eq_true_of_le z] at e; cases e
      omega
    (repeat (first | walk_at "zw" | simp only [decide_eq_true h]))
noncomputable def Rt (a : Ad) (T : List Tk) (x : RTZ) : Pr -> Prop
  | .ok d r k b => ∃ p, T.drop p = r /\ x = .rt (.d d) (stT a T p k b)
  | .no => ∃ S, x = .ex a.NoText ["row"] [.int 1] S
  | .bad => True
theorem Rt.fin {x : RTZ} {P : Pr} (h : Rt a T x P) : Rl a T (finZ x) P := by
  cases P with
  | ok d r k b => obtain ⟨p, e, h⟩ := h; exact ⟨p, e, by rw [h]; rfl⟩
  | no => obtain ⟨S, h⟩ := h; exact ⟨S, by rw [h]; rfl⟩
  | bad => trivial
theorem Rt.seq {x : RTZ} {P : Pr} {f : ZEv -> Sto -> RTZ} (h : Rt a T x P) : Rt a T (seqZ x f) P := by
  cases P with
  | ok d r k b => obtain ⟨p, e, h⟩ := h; exact ⟨p, e, by rw [h]; rfl⟩
  | no => obtain ⟨S, h⟩ := h; exact ⟨S, by rw [h]; rfl⟩
  | bad => trivial
theorem go_bg {f : Nat -> Pr} {rest : ZEv -> Sto -> RTZ} (H : Rt a T (rest (some (.loc 0) :: ρ) (stT a T p (k + 1) b)) (f (k + 1))) :
    Rt a T (ySeq (yExpr (zMeth a.Tokens "begin_part" (Zb a) [] (zV 0) zNil)) rest (some (.loc 0) :: ρ) (stT a T p k b)) (bg k f) := by
  rw [w_ySeq, w_yExpr, w_meth (by decide) w_zNil]
  show Rt a T (seqZ (toZ (Zb a [.loc 0] (stT a T p k b)) _) _) _
  rw [m_beg]
  unfold bg
  cases Nat.ble k 29 with
  | true => exact H
  | false => exact ⟨_, rfl⟩
theorem go_xp {f : List Tk -> Pr} {s : Str} {c : Tk} {rest : ZEv -> Sto -> RTZ} (O : TOk T) (hc : cds s = c) (H : Rt a T (rest (some (.loc 0) :: ρ) (stT a T (p + 1) k b)) (f (T.drop (p + 1)))) :
    Rt a T (ySeq (yExpr (zMeth a.Tokens "expect" (Ze a) [] (zV 0) (zCons (zD (dC (.str s))) zNil))) rest (some (.loc 0) :: ρ) (stT a T p k b)) (xp c (T.drop p) f) := by
  rw [w_ySeq, w_yExpr, w_exp]
  subst hc
  unfold xp tk
  cases h : T.drop p with
  | nil => rw [m_exp_n h]; exact ⟨_, rfl⟩
  | cons t r =>
    rw [m_exp_c O h]
    rw [drop1 h] at H
    dsimp only
    cases eqL t (cds s) with
    | true => exact H
    | false => exact ⟨_, rfl⟩
theorem m_enter {s : Str} {rest : ZEv -> Sto -> RTZ} {f : List Tk -> Nat -> Pr} {c : Tk} (O : TOk T) (hc : cds s = c) (H : Rt a T (rest (some (.loc 0) :: ρ) (stT a T (p + 1) k (b + 1))) (f (T.drop (p + 1)) (b + 1))) :
    Rt a T (ySeq (yExpr (zMeth a.Tokens "enter" (Zn a) [] (zV 0) (zCons (zD (dC (.str s))) zNil))) rest (some (.loc 0) :: ρ) (stT a T p k b)) (en c (T.drop p) b f) := by
  rw [w_ySeq, w_yExpr, w_meth (zs := [.d (.str s)]) (by decide) rfl]
  show Rt a T (seqZ (toZ (finZ (gt_enter a (Ze a) 1 [some (.loc 0), some (.d (.str s))] (stT a T p k b))) _) _) _
  unfold gt_enter
  rw [w_ySeq, w_yExpr, w_exp1]
  subst hc
  unfold en tk
  cases h : T.drop p with
  | nil => rw [m_exp_n h]; exact ⟨_, rfl⟩
  | cons t r =>
    rw [m_exp_c O h]
    rw [drop1 h] at H
    dsimp only
    cases eqL t (cds s) with
    | false => exact ⟨_, rfl⟩
    | true =>
      cases e : Nat.ble b 15 with
      | true =>
        have h : ¬ (16 : Int) < (((b + 1 : Nat) : Nat) : Int) := by have := Nat.le_of_ble_eq_true e; omega
        (repeat (first | walk_at "zw" | simp only [decide_eq_false h]))
        exact H
      | false =>
        have h : (16 : Int) < (((b + 1 : Nat) : Nat) : Int) := by
          have : ¬ b <= 15 := fun z => by rw [Nat.ble_eq_true_of_le z] at e; cases e
          omega
        (repeat (first | walk_at "zw" | simp only [decide_eq_true h]))
        exact ⟨_, rfl⟩
theorem go_lv {s : Str} {d : D} {c : Tk} (O : TOk T) (hc : cds s = c) :
    Rt a T (ySeq (yExpr (zMeth a.Tokens "leave" (Zl a) [] (zV 0) (zCons (zD (dC (.str s))) zNil))) (yRet (zD (dV 1))) (some (.loc 0) :: some (.d d) :: ρ) (stT a T p k b)) (lv c d (T.drop p) k b) := by
  rw [w_ySeq, w_yExpr, w_meth (zs := [.d (.str s)]) (by decide) rfl]
  show Rt a T (seqZ (toZ (finZ (gt_leave a (Ze a) 1 [some (.loc 0), some (.d (.str s))] (stT a T p k b))) _) _) _
  unfold gt_leave
  rw [w_ySeq, w_yExpr, w_exp1]
  subst hc
  unfold lv tk
  cases h : T.drop p with
  | nil => rw [m_exp_n h]; exact ⟨_, rfl⟩
  | cons t r =>
    rw [m_exp_c O h]
    dsimp only
    cases eqL t (cds s) with
    | false => exact ⟨_, rfl⟩
    | true =>
      cases b with
      | zero => trivial
      | succ b =>
        refine ⟨p + 1, drop1 h, ?_⟩
        walk_at "zw"
theorem go_call {F : List Z -> Sto -> RX Z} {G : PF} (hF : Sim a T F G) {f : D -> PF} {y : Option Z} {rest : ZEv -> Sto -> RTZ} (H : ∀ d p k b, Rt a T (rest (some (.loc 0) :: some (.d d) :: ρ) (stT a T p k b)) (f d (T.drop p) k b)) :
    Rt a T (ySeq (ySet 1 (zZ F (zCons (zV 0) zNil))) rest (some (.loc 0) :: y :: ρ) (stT a T p k b)) (bindP (G (T.drop p) k b) f) := by
  have h := hF p k b
  simp only [w_ySeq, w_ySet1, w_zZ, w_zCons, w_zV0, w_zNil, w_bind_k]
  cases e : G (T.drop p) k b with
  | bad => trivial
  | no => rw [e] at h; obtain ⟨S, h⟩ := h; rw [h]; exact ⟨_, rfl⟩
  | ok d r k' b' => rw [e] at h; obtain ⟨p', e', h⟩ := h; rw [h]; subst e'; exact H _ _ _ _
theorem go_take1 {f : Tk -> List Tk -> Pr} (O : TOk T) {y : Option Z} {rest : ZEv -> Sto -> RTZ} (H : ∀ t r, T.drop p = t :: r -> Rt a T (rest (some (.loc 0) :: some (.d (tS t)) :: ρ) (stT a T (p + 1) k b)) (f t (T.drop (p + 1)))) :
    Rt a T (ySeq (ySet 1 (zMeth a.Tokens "take" (Zt a) [] (zV 0) zNil)) rest (some (.loc 0) :: y :: ρ) (stT a T p k b)) (tk (T.drop p) f) := by
  simp only [w_ySeq, w_ySet1, w_take]
  unfold tk
  cases h : T.drop p with
  | nil => rw [m_take_n h]; exact ⟨_, rfl⟩
  | cons t r =>
    rw [m_take_c O h]
    have := H t r h
    rw [drop1 h] at this
    exact this
theorem go_take2 {f : Tk -> List Tk -> Pr} (O : TOk T) {y z : Option Z} {rest : ZEv -> Sto -> RTZ} (H : ∀ t r, T.drop p = t :: r -> Rt a T (rest (some (.loc 0) :: y :: some (.d (tS t)) :: ρ) (stT a T (p + 1) k b)) (f t (T.drop (p + 1)))) :
    Rt a T (ySeq (ySet 2 (zMeth a.Tokens "take" (Zt a) [] (zV 0) zNil)) rest (some (.loc 0) :: y :: z :: ρ) (stT a T p k b)) (tk (T.drop p) f) := by
  simp only [w_ySeq, w_ySet2, w_take]
  unfold tk
  cases h : T.drop p with
  | nil => rw [m_take_n h]; exact ⟨_, rfl⟩
  | cons t r =>
    rw [m_take_c O h]
    have := H t r h
    rw [drop1 h] at this
    exact this
theorem go_ifa {s : Str} {c : Tk} {A rest : ZEv -> Sto -> RTZ} {P Q : Pr} (hc : cds s = c) (h1 : Rt a T (A (some (.loc 0) :: ρ) (stT a T p k b)) P) (h2 : Rt a T (rest (some (.loc 0) :: ρ) (stT a T p k b)) Q) :
    Rt a T (ySeq (yIf (zTst tB (z2 eqSD (zMeth a.Tokens "ahead" (Za a) [.int 0] (zV 0) zNil) (zD (dC (.str s))))) A yNil) rest (some (.loc 0) :: ρ) (stT a T p k b)) (bif eqL (nx (T.drop p)) c then P else Q) := by
  subst hc
  cases e : eqL (nx (T.drop p)) (cds s) with
  | true => (repeat (first | walk_at "zw" | simp only [w_ahead, e])); exact h1.seq
  | false => (repeat (first | walk_at "zw" | simp only [w_ahead, e])); exact h2
theorem go_if1 {s : Str} {t c : Tk} {A rest : ZEv -> Sto -> RTZ} {P Q : Pr} (hc : cds s = c) (h1 : Rt a T (A (some (.loc 0) :: some (.d (tS t)) :: ρ) (stT a T p k b)) P) (h2 : Rt a T (rest (some (.loc 0) :: some (.d (tS t)) :: ρ) (stT a T p k b)) Q) :
    Rt a T (ySeq (yIf (zB (b1 tB (d2 eqSD (dV 1) (dC (.str s))))) A yNil) rest (some (.loc 0) :: some (.d (tS t)) :: ρ) (stT a T p k b)) (bif eqL t c then P else Q) := by
  subst hc
  cases e : eqL t (cds s) with
  | true => (repeat (first | walk_at "zw" | simp only [e])); exact h1.seq
  | false => (repeat (first | walk_at "zw" | simp only [e])); exact h2
theorem rt_call {F : List Z -> Sto -> RX Z} {G : PF} (hF : Sim a T F G) : Rt a T (yRet (zZ F (zCons (zV 0) zNil)) (some (.loc 0) :: ρ) (stT a T p k b)) (G (T.drop p) k b) := by
  have h := hF p k b
  simp only [w_yRet, w_zZ, w_zCons, w_zV0, w_zNil, w_bind_k]
  cases e : G (T.drop p) k b with
  | bad => trivial
  | no => rw [e] at h; obtain ⟨S, h⟩ := h; rw [h]; exact ⟨_, rfl⟩
  | ok d r k' b' => rw [e] at h; obtain ⟨p', e', h⟩ := h; rw [h]; exact ⟨p', e', rfl⟩
theorem rt_two {F : List Z -> Sto -> RX Z} {G : PF} (hF : Sim a T F G) {x : Ev -> R D} {d0 : D} (h0 : x (pur (some (.loc 0) :: ρ)) = .ok d0) :
    Rt a T (yRet (zF mkT (zCons (zD x) (zCons (zZ F (zCons (zV 0) zNil)) zNil))) (some (.loc 0) :: ρ) (stT a T p k b)) (mapP (fun d => .tup [d0, d]) (G (T.drop p) k b)) := by
  have h := hF p k b
  simp only [w_yRet, w_zF, w_zD, h0, w_up_k, w_zZ, w_zCons, w_zV0, w_zNil, w_bind_k]
  unfold mapP bindP
  cases e : G (T.drop p) k b with
  | bad => trivial
  | no => rw [e] at h; obtain ⟨S, h⟩ := h; rw [h]; exact ⟨_, rfl⟩
  | ok d r k' b' => rw [e] at h; obtain ⟨p', e', h⟩ := h; rw [h]; refine ⟨p', e', ?_⟩; walk_at "zw"
theorem rt_three {F : List Z -> Sto -> RX Z} {G : PF} (hF : Sim a T F G) {x y : Ev -> R D} {d0 d1 : D} (h0 : x (pur (some (.loc 0) :: ρ)) = .ok d0) (h1 : y (pur (some (.loc 0) :: ρ)) = .ok d1) :
    Rt a T (yRet (zF mkT (zCons (zD x) (zCons (zD y) (zCons (zZ F (zCons (zV 0) zNil)) zNil)))) (some (.loc 0) :: ρ) (stT a T p k b)) (mapP (fun d => .tup [d0, d1, d]) (G (T.drop p) k b)) := by
  have h := hF p k b
  simp only [w_yRet, w_zF, w_zD, h0, h1, w_up_k, w_zZ, w_zCons, w_zV0, w_zNil, w_bind_k]
  unfold mapP bindP
  cases e : G (T.drop p) k b with
  | bad => trivial
  | no => rw [e] at h; obtain ⟨S, h⟩ := h; rw [h]; exact ⟨_, rfl⟩
  | ok d r k' b' => rw [e] at h; obtain ⟨p', e', h⟩ := h; rw [h]; refine ⟨p', e', ?_⟩; walk_at "zw"
theorem s_brk (O : TOk T) {F : List Z -> Sto -> RX Z} {G : PF} (hF : Sim a T F G) : Sim a T (fun zs S => finZ (gr_bracketed a (Zn a) F (Zl a) S.length (startZ 2 zs) S)) (pBrk G) := by
  intro p k b
  refine Rt.fin ?_
  show Rt a T (gr_bracketed a (Zn a) F (Zl a) 1 [some (.loc 0), none] (stT a T p k b)) _
  unfold gr_bracketed pBrk
  refine m_enter O (by decide) ?_
  refine go_call hF fun d p k b => ?_
  exact go_lv O (by decide)
end
end WR
namespace WR
open PySem L2 P2 WP TM T2 PySem.NumText
local macro_rules | `(tactic| walk_at "zw") => `(tactic| simp only [w_toZ_k, w_toZ_x, w_bind_k, w_bind_x, w_seq_n, w_seq_x, w_seq_r, w_turn_n, w_turn_x, w_fin_r, w_fin_n, w_fin_x, w_up_k, w_up_x, w_ySeq, w_yExpr, w_yRet, w_ySet1, w_ySet2, w_yIf, w_yNil, w_zZ, w_zNil, w_zCons, w_zV0, w_zV1, w_zD, w_zB, w_z2, w_zTst, w_zIf, w_zF, w_as0, w_as1, w_as2, w_as3, w_pur0, w_purl, w_purd, w_purn, w_ml1, w_ml2, w_ml3, w_ml4, w_raise, w_raise2, w_tokens, w_place, w_parts, w_brackets, w_place1, w_parts1, w_brackets1, w_bracketsm, q_dC_a, q_d1_a, q_d2_a, q_b1B_a, q_dA_a, q_aNil_a, q_aCons_a, q_bind_k, q_bind_x, q_tB_b, q_add_i, q_lt_i, q_gt_i, q_len_l, q_v0, q_v1, q_v2, t_eq, t_ne, cond_true, cond_false, Bool.not_true, Bool.not_false, List.length_map])
section
variable {a : Ad} {T : List Tk} {p k b : Nat} {ρ : ZEv}
theorem go_in1 {ks : List Str} {cs : List Tk} {t : Tk} {fx : Ev -> R D} {A rest : ZEv -> Sto -> RTZ} {P Q : Pr} (hx : ∀ e, fx e = .ok (.tup (ks.map D.str))) (hs : PyData.strOk (mkS t) = true) (hk : ∀ k ∈ ks, PyData.strOk k = true) (hc : ks.map cds = cs)
    (h1 : Rt a T (A (some (.loc 0) :: some (.d (tS t)) :: ρ) (stT a T p k b)) P) (h2 : Rt a T (rest (some (.loc 0) :: some (.d (tS t)) :: ρ) (stT a T p k b)) Q) :
    Rt a T (ySeq (yIf (zB (b1 tB (d2 inLD (dV 1) fx))) A yNil) rest (some (.loc 0) :: some (.d (tS t)) :: ρ) (stT a T p k b)) (bif cs.any (eqL t) then P else Q) := by
  subst hc
  have e0 := t_in t ks hs hk
  cases e : (ks.map cds).any (eqL t) with
  | true => rw [e] at e0; (repeat (first | walk_at "zw" | simp only [hx, e0])); exact h1.seq
  | false => rw [e] at e0; (repeat (first | walk_at "zw" | simp only [hx, e0])); exact h2
theorem go_nin2 {ks : List Str} {cs : List Tk} {t : Tk} {y : Option Z} {fx : Ev -> R D} {rest : ZEv -> Sto -> RTZ} {P : Pr} (hx : ∀ e, fx e = .ok (.tup (ks.map D.str))) (hs : PyData.strOk (mkS t) = true) (hk : ∀ k ∈ ks, PyData.strOk k = true) (hc : ks.map cds = cs)
    (h1 : Rt a T (rest (some (.loc 0) :: y :: some (.d (tS t)) :: ρ) (stT a T p k b)) P) (hy : ∃ d, y = some (.d d)) :
    Rt a T (ySeq (yIf (zB (b1 tB (d2 ninLD (dV 2) fx))) (fun ρ S => leave ((fun ρ => toS ((aCons (dC (.int 1)) aNil) ρ) fun ds => .ex a.NoText ["row"] ds) (pur ρ)) S) yNil) rest (some (.loc 0) :: y :: some (.d (tS t)) :: ρ) (stT a T p k b)) (bif cs.any (eqL t) then P else .no) := by
  subst hc
  obtain ⟨d, rfl⟩ := hy
  have e0 := t_nin t ks hs hk
  cases e : (ks.map cds).any (eqL t) with
  | true => rw [e] at e0; (repeat (first | walk_at "zw" | simp only [hx, e0])); exact h1
  | false => rw [e] at e0; (repeat (first | walk_at "zw" | simp only [hx, e0])); exact ⟨_, rfl⟩
theorem go_nea {s : Str} {c : Tk} {A rest : ZEv -> Sto -> RTZ} {P Q : Pr} (hc : cds s = c) (h1 : Rt a T (A (some (.loc 0) :: ρ) (stT a T p k b)) P) (h2 : Rt a T (rest (some (.loc 0) :: ρ) (stT a T p k b)) Q) :
    Rt a T (ySeq (yIf (zTst tB (z2 neSD (zMeth a.Tokens "ahead" (Za a) [] (zV 0) (zCons (zD (dC (.int 1))) zNil)) (zD (dC (.str s))))) A yNil) rest (some (.loc 0) :: ρ) (stT a T p k b)) (bif eqL (nx (T.drop p).tail) c then Q else P) := by
  subst hc
  cases e : eqL (nx (T.drop p).tail) (cds s) with
  | true => simp only [w_ySeq, w_yIf, w_zTst, w_z2, w_ahead1]; (repeat (first | walk_at "zw" | simp only [e])); exact h2
  | false => simp only [w_ySeq, w_yIf, w_zTst, w_z2, w_ahead1]; (repeat (first | walk_at "zw" | simp only [e])); exact h1.seq
theorem str4 (e : Ev) : (dA mkT (aCons (dC (.str "back")) (aCons (dC (.str "on")) (aCons (dC (.str "ago")) (aCons (dC (.str "until")) aNil))))) e = .ok (.tup (([Str.ofString "back", Str.ofString "on", Str.ofString "ago", Str.ofString "until"] : List Str).map D.str)) := by
  simp only [q_dA_a, q_aCons_a, q_aNil_a, q_dC_a, q_bind_k, w_ml4]; rfl
theorem str2 (x y : Str) (e : Ev) : (dA mkT (aCons (dC (.str x)) (aCons (dC (.str y)) aNil))) e = .ok (.tup (([x, y] : List Str).map D.str)) := by
  simp only [q_dA_a, q_aCons_a, q_aNil_a, q_dC_a, q_bind_k, w_ml2]; rfl
theorem ok_nx (O : TOk T) : PyData.strOk (mkS (nx (T.drop p))) = true := by
  cases h : T.drop p with
  | nil => decide +kernel
  | cons t r => exact O.s t (mem_of h)
theorem s_sg (O : TOk T) {Fw Fo Fs : List D -> R D} (hW : ∀ t ∈ T, Fw [tS t, .int 1, .int 9] = outN a (wholeO t 1 9)) (hO : ∀ t ∈ T, Fo [tS t] = outW a (mkS t)) (hS : ∀ t ∈ T, Fs [tS t] = outF a (smallO t)) {F : List Z -> Sto -> RX Z} {G : PF} (hF : Sim a T F G) :
    Sim a T (fun zs S => finZ (gr_single a Fw Fo Fs (Za a) F (Zb a) (Zt a) S.length (startZ 2 zs) S)) (pSg G) := by
  intro p k b
  refine Rt.fin ?_
  show Rt a T (gr_single a Fw Fo Fs (Za a) F (Zb a) (Zt a) 1 [some (.loc 0), none] (stT a T p k b)) _
  unfold gr_single pSg
  refine go_ifa (by decide) (rt_call hF) ?_
  refine go_bg ?_
  refine go_take1 O fun w r h => ?_
  have hw := mem_of h
  refine go_if1 (by decide) ⟨_, rfl, by walk_at "zw"⟩ ?_
  refine go_in1 str4 (O.s w hw) (by decide +kernel) (by decide) ?_ ?_
  · unfold tk
    cases h2 : T.drop (p + 1) with
    | nil =>
      simp only [w_yRet, w_zF, w_zCons, w_zD, w_purl, w_purd, w_pur0, q_v1, w_up_k, w_bind_k, w_take]
      rw [m_take_n h2]
      exact ⟨_, rfl⟩
    | cons t r2 =>
      simp only [w_yRet, w_zF, w_zCons, w_zD, w_purl, w_purd, w_pur0, q_v1, w_up_k, w_bind_k, w_take]
      rw [m_take_c O h2]
      have e := hW t (mem_of h2)
      unfold opt
      cases e2 : wholeO t 1 9 with
      | none => rw [e2] at e; unfold outN at e; (repeat (first | walk_at "zw" | simp only [e])); exact ⟨_, rfl⟩
      | some v => rw [e2] at e; unfold outN at e; (repeat (first | walk_at "zw" | simp only [e])); exact ⟨_, drop1 h2, rfl⟩
  refine go_if1 (by decide) ?_ ?_
  · unfold tk
    cases h2 : T.drop (p + 1) with
    | nil =>
      simp only [w_yRet, w_zF, w_zCons, w_zD, q_dC_a, w_up_k, w_bind_k, w_take]
      rw [m_take_n h2]
      exact ⟨_, rfl⟩
    | cons t r2 =>
      simp only [w_yRet, w_zF, w_zCons, w_zD, q_dC_a, w_up_k, w_bind_k, w_take]
      rw [m_take_c O h2]
      have e := hO t (mem_of h2)
      unfold outW at e
      rw [cds_mk] at e
      try dsimp only
      cases e2 : TR.wordB t with
      | false => rw [e2, if_neg (by simp)] at e; (repeat (first | walk_at "zw" | simp only [e])); exact ⟨_, rfl⟩
      | true => rw [e2, if_pos rfl] at e; (repeat (first | walk_at "zw" | simp only [e])); exact ⟨_, drop1 h2, rfl⟩
  refine go_if1 (by decide) (rt_two hF rfl) ?_
  have e := hS w hw
  unfold opt
  cases e2 : smallO w with
  | none => rw [e2] at e; unfold outF at e; (repeat (first | walk_at "zw" | simp only [e])); exact ⟨_, rfl⟩
  | some v => rw [e2] at e; unfold outF at e; (repeat (first | walk_at "zw" | simp only [e])); exact ⟨_, rfl, rfl⟩
theorem s_pr (O : TOk T) {Fs : List D -> R D} (hS : ∀ t ∈ T, Fs [tS t] = outF a (smallO t)) {F : List Z -> Sto -> RX Z} {G : PF} (hF : Sim a T F G) :
    Sim a T (fun zs S => finZ (gr_product a Fs (Za a) F (Zt a) (Ze a) (Zb a) S.length (startZ 2 zs) S)) (pPr G) := by
  intro p k b
  refine Rt.fin ?_
  show Rt a T (gr_product a Fs (Za a) F (Zt a) (Ze a) (Zb a) 1 [some (.loc 0), none] (stT a T p k b)) _
  unfold gr_product pPr
  refine go_nea (by decide) (rt_call hF) ?_
  unfold tk
  cases h : T.drop p with
  | nil =>
    rw [w_ySeq]
    simp only [w_ySet1, w_zF, w_zCons, w_take]
    rw [m_take_n h]
    exact ⟨_, rfl⟩
  | cons t r =>
    rw [w_ySeq]
    simp only [w_ySet1, w_zF, w_zCons, w_take]
    rw [m_take_c O h]
    have e := hS t (mem_of h)
    unfold opt
    cases e2 : smallO t with
    | none => rw [e2] at e; unfold outF at e; simp only [w_bind_k, w_zNil, w_as1, e, w_up_x, w_bind_x, w_toZ_x, w_seq_x]; exact ⟨_, rfl⟩
    | some v =>
      rw [e2] at e; unfold outF at e
      simp only [w_bind_k, w_zNil, w_as1, e, w_up_k, w_toZ_k, w_seq_n]
      try dsimp only
      rw [← drop1 h]
      refine go_xp O (by decide) ?_
      refine go_bg ?_
      exact rt_three hF rfl rfl
theorem turn_e {f : ZEv -> Sto -> RX Z} {B K R : ZEv -> Sto -> RTZ} {S : Sto} : seqZ (turnZ (ySeq (yExpr f) B ρ S) K) R = ySeq (yExpr f) (fun ρ S => seqZ (turnZ (B ρ S) K) R) ρ S := by
  rw [w_ySeq, w_ySeq, w_yExpr]
  cases f ρ S <;> rfl
theorem turn_2 {f : ZEv -> Sto -> RX Z} {B K R : ZEv -> Sto -> RTZ} {S : Sto} {x y z : Option Z} : seqZ (turnZ (ySeq (ySet 2 f) B (x :: y :: z :: ρ) S) K) R = ySeq (ySet 2 f) (fun ρ S => seqZ (turnZ (B ρ S) K) R) (x :: y :: z :: ρ) S := by
  rw [w_ySeq, w_ySeq, w_ySet2]
  cases f (x :: y :: z :: ρ) S <;> rfl
theorem turn_1 {f : ZEv -> Sto -> RX Z} {K R : ZEv -> Sto -> RTZ} {S : Sto} {x y : Option Z} : seqZ (turnZ (ySet 1 f (x :: y :: ρ) S) K) R = ySeq (ySet 1 f) (fun ρ S => seqZ (K ρ S) R) (x :: y :: ρ) S := by
  rw [w_ySeq, w_ySet1]
  cases f (x :: y :: ρ) S <;> rfl
theorem go_mk3 {F : List Z -> Sto -> RX Z} {G : PF} (hF : Sim a T F G) {f : D -> PF} {y0 : Option Z} {x y : Ev -> R D} {d0 d1 : D} (h0 : x (pur (some (.loc 0) :: y0 :: ρ)) = .ok d0) (h1 : y (pur (some (.loc 0) :: y0 :: ρ)) = .ok d1) {rest : ZEv -> Sto -> RTZ}
    (H : ∀ d p k b, Rt a T (rest (some (.loc 0) :: some (.d (.tup [d0, d1, d])) :: ρ) (stT a T p k b)) (f d (T.drop p) k b)) :
    Rt a T (ySeq (ySet 1 (zF mkT (zCons (zD x) (zCons (zD y) (zCons (zZ F (zCons (zV 0) zNil)) zNil))))) rest (some (.loc 0) :: y0 :: ρ) (stT a T p k b)) (bindP (G (T.drop p) k b) f) := by
  have h := hF p k b
  simp only [w_ySeq, w_ySet1, w_zF, w_zD, h0, h1, w_up_k, w_zZ, w_zCons, w_zV0, w_zNil, w_bind_k]
  unfold bindP
  cases e : G (T.drop p) k b with
  | bad => trivial
  | no => rw [e] at h; obtain ⟨S, h⟩ := h; rw [h]; exact ⟨_, rfl⟩
  | ok d r k' b' =>
    rw [e] at h
    obtain ⟨p', e', h⟩ := h
    rw [h]
    subst e'
    simp only [w_bind_k, w_as3, w_ml3, w_up_k, w_toZ_k, w_seq_n]
    exact H _ _ _ _
theorem l_sum (O : TOk T) {F : List Z -> Sto -> RX Z} {G : PF} (hF : Sim a T F G) : ∀ (n : Nat) (d : D) (x : Option Z) (p k b : Nat),
    Rt a T (seqZ (whileZ (zTst tB (z2 inLD (zMeth a.Tokens "ahead" (Za a) [.int 0] (zV 0) zNil) (zD (dA mkT (aCons (dC (.str "+")) (aCons (dC (.str "-")) aNil)))))) (b1r_sum a F (Za a) (Zt a) (Zb a)) n [some (.loc 0), some (.d d), x] (stT a T p k b)) (yRet (zD (dV 1)))) (pSumL G n d (T.drop p) k b)
  | 0, _, _, _, _, _ => trivial
  | n + 1, d, x, p, k, b => by
    have e0 := t_in (nx (T.drop p)) [Str.ofString "+", Str.ofString "-"] (ok_nx O) (by decide +kernel)
    rw [show ([Str.ofString "+", Str.ofString "-"] : List Str).map cds = [[43], [45]] by decide] at e0
    unfold whileZ pSumL
    simp only [w_zTst, w_z2, w_ahead, w_zD, str2, w_bind_k, w_up_k, e0, q_tB_b, w_toZ_k]
    cases e : [[43], [45]].any (eqL (nx (T.drop p))) with
    | false =>
      rw [if_neg (by simp)]
      cases x with
      | none => exact ⟨_, rfl, by walk_at "zw"⟩
      | some x => cases x <;> exact ⟨_, rfl, by walk_at "zw"⟩
    | true =>
      rw [if_pos rfl, cond_true]
      unfold b1r_sum
      rw [turn_2]
      refine go_take2 O fun t r h => ?_
      try dsimp only
      rw [turn_e]
      refine go_bg ?_
      try dsimp only
      rw [turn_1]
      refine go_mk3 hF rfl rfl fun e p k b => ?_
      exact l_sum O hF n _ _ p k b
theorem s_sum (O : TOk T) {F : List Z -> Sto -> RX Z} {G : PF} (hF : Sim a T F G) : Sim a T (fun zs S => finZ (gr_sum a F (Za a) (Zt a) (Zb a) S.length (startZ 3 zs) S)) (pSum G) := by
  intro p k b
  refine Rt.fin ?_
  show Rt a T (gr_sum a F (Za a) (Zt a) (Zb a) 1 [some (.loc 0), none, none] (stT a T p k b)) _
  unfold gr_sum pSum
  refine go_call hF fun d p k b => ?_
  rw [w_ySeq]
  exact l_sum O hF 100 d none p k b
theorem s_cmp (O : TOk T) {F : List Z -> Sto -> RX Z} {G : PF} (hF : Sim a T F G) : Sim a T (fun zs S => finZ (gr_comparison a (Zb a) F (Zt a) S.length (startZ 3 zs) S)) (pCmp G) := by
  intro p k b
  refine Rt.fin ?_
  show Rt a T (gr_comparison a (Zb a) F (Zt a) 1 [some (.loc 0), none, none] (stT a T p k b)) _
  unfold gr_comparison pCmp
  refine go_bg ?_
  refine go_call hF fun d p k b => ?_
  refine go_take2 O fun t r h => ?_
  refine go_nin2 (str2 _ _) (O.s t (mem_of h)) (by decide +kernel) (by decide) ?_ ⟨_, rfl⟩
  exact rt_three hF rfl rfl
theorem l_bin (O : TOk T) {s : Str} {c : Tk} (hc : cds s = c) {F : List Z -> Sto -> RX Z} {G : PF} (hF : Sim a T F G) : ∀ (n : Nat) (d : D) (p k b : Nat),
    Rt a T (seqZ (whileZ (zTst tB (z2 eqSD (zMeth a.Tokens "ahead" (Za a) [.int 0] (zV 0) zNil) (zD (dC (.str s))))) (ySeq (yExpr (zMeth a.Tokens "expect" (Ze a) [] (zV 0) (zCons (zD (dC (.str s))) zNil))) (ySeq (yExpr (zMeth a.Tokens "begin_part" (Zb a) [] (zV 0) zNil)) (ySet 1 (zF mkT (zCons (zD (dC (.str s))) (zCons (zD (dV 1)) (zCons (zZ F (zCons (zV 0) zNil)) zNil))))))) n [some (.loc 0), some (.d d)] (stT a T p k b)) (yRet (zD (dV 1)))) (pBinL c s G n d (T.drop p) k b)
  | 0, _, _, _, _ => trivial
  | n + 1, d, p, k, b => by
    unfold whileZ pBinL
    simp only [w_zTst, w_z2, w_ahead, w_zD, q_dC_a, w_bind_k, w_up_k, t_eq, hc, q_tB_b, w_toZ_k]
    cases e : eqL (nx (T.drop p)) c with
    | false =>
      rw [if_neg (by simp)]
      exact ⟨_, rfl, by walk_at "zw"⟩
    | true =>
      rw [if_pos rfl, cond_true]
      rw [turn_e]
      refine go_xp O hc ?_
      try dsimp only
      rw [turn_e]
      refine go_bg ?_
      try dsimp only
      rw [turn_1]
      refine go_mk3 hF rfl rfl fun e p k b => ?_
      exact l_bin O hc hF n _ p k b
theorem s_and (O : TOk T) {F : List Z -> Sto -> RX Z} {G : PF} (hF : Sim a T F G) : Sim a T (fun zs S => finZ (gr_and a F (Za a) (Ze a) (Zb a) S.length (startZ 2 zs) S)) (pBin [97, 110, 100] "and" G) := by
  intro p k b
  refine Rt.fin ?_
  show Rt a T (gr_and a F (Za a) (Ze a) (Zb a) 1 [some (.loc 0), none] (stT a T p k b)) _
  unfold gr_and pBin b1r_and
  refine go_call hF fun d p k b => ?_
  rw [w_ySeq]
  exact l_bin O (by decide) hF 100 d p k b
theorem s_or (O : TOk T) {F : List Z -> Sto -> RX Z} {G : PF} (hF : Sim a T F G) : Sim a T (fun zs S => finZ (gr_or a F (Za a) (Ze a) (Zb a) S.length (startZ 2 zs) S)) (pBin [111, 114] "or" G) := by
  intro p k b
  refine Rt.fin ?_
  show Rt a T (gr_or a F (Za a) (Ze a) (Zb a) 1 [some (.loc 0), none] (stT a T p k b)) _
  unfold gr_or pBin b1r_or
  refine go_call hF fun d p k b => ?_
  rw [w_ySeq]
  exact l_bin O (by decide) hF 100 d p k b
theorem s_not (O : TOk T) {Fn Fo Fc : List Z -> Sto -> RX Z} {Gn Go Gc : PF} (hn : Sim a T Fn Gn) (ho : Sim a T Fo Go) (hc : Sim a T Fc Gc) : Sim a T (fun zs S => finZ (gr_not a (Za a) (Ze a) (Zb a) Fn (Zn a) Fo (Zl a) Fc S.length (startZ 2 zs) S)) (pNot Gn Go Gc) := by
  intro p k b
  refine Rt.fin ?_
  show Rt a T (gr_not a (Za a) (Ze a) (Zb a) Fn (Zn a) Fo (Zl a) Fc 1 [some (.loc 0), none] (stT a T p k b)) _
  unfold gr_not pNot
  refine go_ifa (by decide) ?_ ?_
  · refine go_xp O (by decide) ?_
    refine go_bg ?_
    exact rt_two hn rfl
  refine go_ifa (by decide) ?_ ?_
  · refine m_enter O (by decide) ?_
    refine go_call ho fun d p k b => ?_
    exact go_lv O (by decide)
  exact rt_call hc
theorem s_end (O : TOk T) {F : List Z -> Sto -> RX Z} {G : PF} (hF : Sim a T F G) : Sim a T (fun zs S => finZ (gr_to_end a F (Zx a) S.length (startZ 2 zs) S)) (fun r k b => pEnd (G r k b)) := by
  intro p k b
  refine Rt.fin ?_
  show Rt a T (gr_to_end a F (Zx a) 1 [some (.loc 0), none] (stT a T p k b)) _
  unfold gr_to_end pEnd
  refine go_call hF fun d p k b => ?_
  rw [w_ySeq, w_yExpr, w_meth (by decide) w_zNil]
  show Rt a T (seqZ (toZ (Zx a [.loc 0] (stT a T p k b)) _) _) _
  rw [m_end]
  cases h : T.drop p with
  | nil => exact ⟨p, h, rfl⟩
  | cons t r =>
    have : eqL (nx (t :: r)) [] = false := eq_nil (O.n t (mem_of h))
    rw [this]
    exact ⟨_, rfl⟩
theorem m_init {Fp : List D -> R D} {s : Str} (h : Fp [.str s] = .ok (.lst (T.map tS))) : finZ (gt___init a Fp 1 [some (.loc 0), some (.d (.str s))] [.ob a.Tokens []]) = .ok (.d .non) (stT a T 0 0 0) := by
  unfold gt___init
  have f0 : ∀ (f : Str) (v : D) (fs : List (Str × Z)) (ρ : ZEv), fs.length < 1000 -> yFld a.Tokens (zV 0) f (zD (dC v)) (some (.loc 0) :: ρ) [.ob a.Tokens fs] = .nx (some (.loc 0) :: ρ) [.ob a.Tokens (putFZ f (.d v) fs)] := fun f v fs ρ hl => by
    unfold yFld
    show (if a.Tokens = a.Tokens /\ fs.length < 1000 then _ else _) = _
    rw [if_pos ⟨rfl, hl⟩]
    rfl
  have f1 : yFld a.Tokens (zV 0) "tokens" (zD (dA Fp (aCons (dV 1) aNil))) [some (.loc 0), some (.d (.str s))] [.ob a.Tokens []] = .nx [some (.loc 0), some (.d (.str s))] [.ob a.Tokens (putFZ "tokens" (.d (.lst (T.map tS))) [])] := by
    unfold yFld
    simp only [w_zD, w_purl, w_purd, w_pur0, q_dA_a, q_aCons_a, q_aNil_a, q_v1, q_bind_k, h, w_up_k, w_bind_k, w_toZ_k, w_zV0]
    show (if a.Tokens = a.Tokens /\ (0 < 1000) then _ else _) = _
    rw [if_pos ⟨rfl, by decide⟩]
    rfl
  rw [w_ySeq, f1, w_seq_n, w_ySeq, f0 _ _ _ _ (Nat.le_of_ble_eq_true rfl), w_seq_n, w_ySeq, f0 _ _ _ _ (Nat.le_of_ble_eq_true rfl), w_seq_n, f0 _ _ _ _ (Nat.le_of_ble_eq_true rfl), w_fin_n]
  rfl
noncomputable def outC (a : Ad) : Pr -> R D -> Prop
  | .ok d _ _ _, x => x = .ok d
  | .no, x => x = .ex a.NoText ["row"] [.int 1]
  | .bad, _ => True
theorem m_cond {Fp : List D -> R D} {s : Str} (h : Fp [.str s] = .ok (.lst (T.map tS))) {F : List Z -> Sto -> RX Z} {G : PF} (hF : Sim a T F G) :
    outC a (G T 0 0) (clo (finZ (gr_condition a (fun zs S => finZ (gt___init a Fp S.length (startZ 2 zs) S)) F ([] : Sto).length (startZ 1 ([D.str s].map .d)) []))) := by
  have e : finZ (gr_condition a (fun zs S => finZ (gt___init a Fp S.length (startZ 2 zs) S)) F ([] : Sto).length (startZ 1 ([D.str s].map .d)) []) = finZ (toZ (F [.loc 0] (stT a T 0 0 0)) .rt) := by
    unfold gr_condition
    show finZ (toZ (zZ F (zCons (zMake a.Tokens _ (zCons (zD (dV 0)) zNil)) zNil) [some (.d (.str s))] []) .rt) = _
    rw [w_zZ, w_zCons]
    have e1 : zMake a.Tokens (fun zs S => finZ (gt___init a Fp S.length (startZ 2 zs) S)) (zCons (zD (dV 0)) zNil) [some (.d (.str s))] [] = .ok (.loc 0) (stT a T 0 0 0) := by
      unfold zMake
      show (match finZ (gt___init a Fp 1 [some (.loc 0), some (.d (.str s))] [.ob a.Tokens []]) with
        | .ok (.d .non) S2 => RX.ok (Z.loc 0) S2
        | .ex c ns ds S2 => .ex c ns ds S2
        | _ => .bad) = _
      rw [m_init h]
    rw [e1]
    rfl
  rw [e]
  have q := hF 0 0 0
  rw [List.drop_zero] at q
  cases z : G T 0 0 with
  | bad => trivial
  | no => rw [z] at q; obtain ⟨S, q⟩ := q; rw [q]; rfl
  | ok d r k b => rw [z] at q; obtain ⟨p, e', q⟩ := q; rw [q]; rfl
end
end WR
namespace WR
open PySem L2 P2 WP TM T2 PySem.NumText
variable {a : Ad}
theorem m_small {Fr : List D -> R D} (hr : ∀ z : Str, z.length <= 1000 -> Fr [.str z] = outF a (readF (cds z))) (t : Tk) (ht : t.length <= 1000) : finT (gr_small_fraction a Fr (startD 2 [tS t])) = outF a (smallO t) := by
  have h := hr (mkS t) (by rw [len_mk]; exact ht)
  rw [cds_mk] at h
  unfold gr_small_fraction smallO
  cases e : readF t with
  | none =>
    rw [e] at h
    unfold outF at h
    iterate 4 (walk_at "den"; try simp only [h])
    rfl
  | some v =>
    obtain ⟨p, q⟩ := v
    rw [e] at h
    unfold outF at h
    dsimp only at h
    have i0 : ixD (.tup [D.int p, D.int q]) (.int 0) = .ok (.int p) := rfl
    have i1 : ixD (.tup [D.int p, D.int q]) (.int 1) = .ok (.int q) := rfl
    have ap : absD [.int p] = .ok (.int (p.natAbs : Nat)) := by
      rw [q_abs_i]
      congr 2
      split <;> omega
    generalize hw : D.tup [D.int p, D.int q] = w at h i0 i1
    have ha : (if p < 0 then -p else p) = ((p.natAbs : Nat) : Int) := by split <;> omega
    by_cases h1 : p.natAbs < 1000000000
    · have h1' : ¬ (1000000000 : Int) <= ((p.natAbs : Nat) : Int) := by omega
      by_cases h2 : q < 1000000
      · have h2' : ¬ (1000000 : Int) <= q := by omega
        iterate 7 (walk_at "den"; try simp only [h, i0, i1, ha, h1', h2', decide_false])
        rw [if_pos ⟨h1, h2⟩]
        unfold outF
        rw [← hw]
      · have h2' : (1000000 : Int) <= q := by omega
        iterate 7 (walk_at "den"; try simp only [h, i0, i1, ha, h1', h2', decide_false, decide_true])
        rw [if_neg fun z => h2 z.2]
        rfl
    · have h1' : (1000000000 : Int) <= ((p.natAbs : Nat) : Int) := by omega
      iterate 7 (walk_at "den"; try simp only [h, i0, i1, ha, h1', decide_true])
      rw [if_neg fun z => h1 z.1]
      rfl
theorem run_has (c : Nat) : Txt.contains (Str.ofString "abcdefghijklmnopqrstuvwxyz0123456789/") ⟨#[c]⟩ = runS c := by
  rw [has_sign]
  have e : cds (Str.ofString "abcdefghijklmnopqrstuvwxyz0123456789/") = [97, 98, 99, 100, 101, 102, 103, 104, 105, 106, 107, 108, 109, 110, 111, 112, 113, 114, 115, 116, 117, 118, 119, 120, 121, 122, 48, 49, 50, 51, 52, 53, 54, 55, 56, 57, 47] := by decide
  rw [e]
  unfold runS
  rw [Bool.eq_iff_iff]
  simp only [List.mem_cons, List.not_mem_nil, or_false, decide_eq_true_eq, Bool.and_eq_true, Bool.or_eq_true, Nat.ble_eq]
  omega
noncomputable def ptL (c : Nat) : List Nat := bif runS c then [c] else [32, c, 32]
theorem pt_sign (c : Nat) : (dIf (b1 tB (d2 inSD (dV 0) (dC (.str "abcdefghijklmnopqrstuvwxyz0123456789/")))) (dV 0) ((jCons (dC (.str " ")) (jCons (d1 fmtD (dV 0)) (jCons (dC (.str " ")) jNil))) Str.empty)) [.sh (.str ⟨#[c]⟩)] = .ok (tS (ptL c)) := by
  have h := run_has c
  unfold ptL
  have f1 : d1 fmtD (dV 0) [.sh (.str ⟨#[c]⟩)] = .ok (.str ⟨#[c]⟩) := by
    rw [q_d1_a, q_v0, q_bind_k, q_fmt_s, if_pos (by show 1 <= sizeLine; decide)]
  cases e : runS c with
  | true =>
    rw [e] at h
    iterate 3 (walk_at "den"; try simp only [h])
    try rfl
  | false =>
    rw [e] at h
    have L : ∀ z : Str, (cds z).length <= 1000 -> z.length <= sizeLine := fun z hz => size_of (by rw [len_cds]; omega)
    have s1 : ∀ ρ : Ev, dC (.str " ") ρ = .ok (.str (Str.ofString " ")) := fun _ => rfl
    have e0 : b1 tB (d2 inSD (dV 0) (dC (.str "abcdefghijklmnopqrstuvwxyz0123456789/"))) [.sh (.str ⟨#[c]⟩)] = .ok false := by
      rw [q_b1B_a, q_d2_a, q_v0, q_bind_k, q_dC_a, q_bind_k, q_in_s, h]; rfl
    rw [q_dIf_a, e0, q_bind_k, if_neg (by simp)]
    rw [q_jCons_s (s1 _) (L _ (by rw [cds_app]; decide)), q_jCons_s f1 (L _ (by rw [cds_app, cds_app]; exact Nat.le_of_ble_eq_true rfl)), q_jCons_s (s1 _) (L _ (by rw [cds_app, cds_app, cds_app]; exact Nat.le_of_ble_eq_true rfl)), q_jNil_a, if_pos (L _ (by rw [cds_app, cds_app, cds_app]; exact Nat.le_of_ble_eq_true rfl))]
    exact congrArg (fun z => R.ok (D.str z)) (ext (by rw [cds_app, cds_app, cds_app]; rfl))
theorem cds_join0 : ∀ l : List Str, cds (Str.join (Str.ofString "") l) = (l.map cds).flatten
  | [] => rfl
  | [p] => by simp [Str.join]
  | p :: q :: r => by
    show cds (p ++ Str.ofString "" ++ Str.join (Str.ofString "") (q :: r)) = _
    rw [cds_app, cds_app, cds_join0 (q :: r), c_empty, List.append_nil]
    rfl
theorem joinOk0 {l : List Str} (h : (l.map (·.length)).sum <= 1000) : JoinOk (Str.ofString "") l = true := PyProof.Rows.joinOk_of (by
  have : (Str.ofString "").length = 0 := by decide
  rw [this]
  omega)
theorem strs_map {α : Type} (f : α -> Tk) : ∀ l : List α, strsD (l.map fun c => tS (f c)) = some (l.map fun c => mkS (f c))
  | [] => rfl
  | x :: r => by
    show (strsD (r.map fun c => tS (f c))).map (mkS (f x) :: ·) = _
    rw [strs_map f r]; rfl
theorem comp_f (ρ0 : Ev) (h0 : ∀ d, gV 0 d ρ0 = some [.sh d]) : ∀ L : List Tk, compO (gV 0) (b1 tB (d2 neSD (dV 0) (dC (.str "")))) (dV 0) ρ0 (L.map tS) = some ((L.filter fun t => !t.isEmpty).map tS)
  | [] => rfl
  | t :: r => by
    have e : (b1 tB (d2 neSD (dV 0) (dC (.str "")))) [.sh (tS t)] = .ok (!t.isEmpty) := by
      rw [q_b1B_a, q_d2_a, q_v0, q_bind_k, q_dC_a, q_bind_k, t_ne, c_empty]
      cases t <;> rfl
    rw [List.map_cons]
    unfold compO
    rw [h0, Option.bind_some, e, comp_f ρ0 h0 r]
    cases t <;> rfl
theorem len_pt : ∀ cs : List Nat, (cs.map fun c => (mkS (ptL c)).length).sum <= 3 * cs.length
  | [] => by simp
  | c :: r => by
    have := len_pt r
    have l : (mkS (ptL c)).length <= 3 := by rw [len_mk]; unfold ptL; cases runS c <;> simp
    rw [List.map_cons, List.sum_cons, List.length_cons]
    omega
theorem len_fl : ∀ cs : List Nat, (cs.flatMap ptL).length <= 3 * cs.length
  | [] => by simp
  | c :: r => by
    have := len_fl r
    have l : (ptL c).length <= 3 := by unfold ptL; cases runS c <;> simp
    rw [List.flatMap_cons, List.length_append, List.length_cons]
    omega
theorem len_split (c : Nat) : ∀ l : List Nat, (splitL c l).length <= l.length + 1
  | [] => by simp [splitL]
  | x :: r => by
    have := len_split c r
    by_cases e : x = c
    · subst e; rw [splitL_hit, List.length_cons, List.length_cons]; omega
    · cases q : splitL c r with
      | nil => exact absurd q (split_ne c r)
      | cons p ps => rw [q] at this; rw [splitL_miss e q]; simp only [List.length_cons] at this ⊢; omega
theorem m_split (cs : List Nat) (hl : cs.length <= 330) : finT (g_split_row a (startD 2 [.str (mkS cs)])) = .ok (.lst ((tokL cs).map tS)) := by
  have hc1 : compO (gV 0) (fun _ => .ok true) (dIf (b1 tB (d2 inSD (dV 0) (dC (.str "abcdefghijklmnopqrstuvwxyz0123456789/")))) (dV 0) ((jCons (dC (.str " ")) (jCons (d1 fmtD (dV 0)) (jCons (dC (.str " ")) jNil))) Str.empty)) (capD 1 [] [.sh (.str (mkS cs)), .no]) (signs (mkS cs)) = some (cs.map fun c => tS (ptL c)) := by
    have := compO_map (a := gV 0) (c := fun _ => .ok true) (e := dIf (b1 tB (d2 inSD (dV 0) (dC (.str "abcdefghijklmnopqrstuvwxyz0123456789/")))) (dV 0) ((jCons (dC (.str " ")) (jCons (d1 fmtD (dV 0)) (jCons (dC (.str " ")) jNil))) Str.empty)) (ρ0 := capD 1 [] [.sh (.str (mkS cs)), .no]) (fun d => [.sh d]) (fun d => match d with | .str ⟨y⟩ => tS (ptL (y.toList.headD 0)) | _ => .non) (signs (mkS cs)) fun d hd => by
      obtain ⟨c, _, rfl⟩ := List.mem_map.mp hd
      exact ⟨rfl, rfl, pt_sign c⟩
    rw [this]
    unfold signs
    rw [List.map_map]
    congr 1
  have l1 : (signs (mkS cs)).length <= sizeLine := by unfold signs; rw [List.length_map]; exact size_of (show (cds (mkS cs)).length <= _ by rw [cds_mk]; omega)
  have j1 : joinD (.str "") [.lst (cs.map fun c => tS (ptL c))] = .ok (.str (mkS (cs.flatMap ptL))) := by
    show (match strsD (cs.map fun c => tS (ptL c)) with
      | some xs => if JoinOk "" xs = true then R.ok (D.str (Txt.join "" xs)) else .bad
      | none => .bad) = _
    rw [strs_map]
    dsimp only
    rw [if_pos (joinOk0 (by rw [List.map_map]; exact Nat.le_trans (len_pt cs) (by omega)))]
    congr 2
    refine ext ?_
    rw [cds_mk]
    show cds (Builtin.Str.glued _ _) = _
    rw [StrLaws.glued_eq_join, cds_join0, List.map_map]
    rfl
  have l2 : (mkS (cs.flatMap ptL)).length <= 1000 := by rw [len_mk]; exact Nat.le_trans (len_fl cs) (by omega)
  have p1 := q_split32 l2
  have p2 : (Txt.split (mkS (cs.flatMap ptL)) ⟨#[32]⟩).map D.str = (splitL 32 (cs.flatMap ptL)).map tS := by
    have := split_cds (mkS (cs.flatMap ptL)) 32
    rw [cds_mk] at this
    rw [← this, List.map_map]
    refine List.map_congr_left fun z _ => ?_
    show D.str z = D.str (mkS (cds z))
    rw [mk_cds]
  rw [p2] at p1
  have hc2 := comp_f (capD 1 [] [.sh (.str (mkS cs)), .sh (.lst (cs.map fun c => tS (ptL c)))]) (fun _ => rfl) (splitL 32 (cs.flatMap ptL))
  have l3 : ((splitL 32 (cs.flatMap ptL)).map tS).length <= sizeLine := by
    rw [List.length_map]
    have := len_split 32 (cs.flatMap ptL)
    have := len_fl cs
    exact size_of (by omega)
  unfold g_split_row
  iterate 7 (walk_at "den"; try simp only [if_pos l1, hc1, j1, p1, if_pos l3, hc2])
  try rfl
theorem mem_split {c : Nat} : ∀ {l t : List Nat}, t ∈ splitL c l -> (∀ x ∈ t, x ∈ l) /\ t.length <= l.length
  | [], t, h => by
    rw [show splitL c [] = [[]] from rfl, List.mem_singleton] at h
    subst h
    simp
  | x :: r, t, h => by
    by_cases e : x = c
    · subst e
      rw [splitL_hit, List.mem_cons] at h
      rcases h with rfl | h
      · simp
      · obtain ⟨h1, h2⟩ := mem_split h
        exact ⟨fun y hy => List.mem_cons_of_mem _ (h1 y hy), by rw [List.length_cons]; omega⟩
    · cases q : splitL c r with
      | nil => exact absurd q (split_ne c r)
      | cons p ps =>
        rw [splitL_miss e q, List.mem_cons] at h
        have hp := mem_split (c := c) (l := r) (t := p) (by rw [q]; exact List.mem_cons_self ..)
        rcases h with rfl | h
        · refine ⟨fun y hy => ?_, by rw [List.length_cons, List.length_cons]; omega⟩
          rcases List.mem_cons.mp hy with rfl | hy
          · exact List.mem_cons_self ..
          · exact List.mem_cons_of_mem _ (hp.1 y hy)
        · obtain ⟨h1, h2⟩ := mem_split (c := c) (l := r) (t := t) (by rw [q]; exact List.mem_cons_of_mem _ h)
          exact ⟨fun y hy => List.mem_cons_of_mem _ (h1 y hy), by rw [List.length_cons]; omega⟩
theorem tok_ok {cs : List Nat} (h1 : cs.length <= 330) (h2 : ∀ c ∈ cs, c <= 127) : TOk (tokL cs) /\ ∀ t ∈ tokL cs, t.length <= 1000 := by
  have h3 : ∀ c ∈ cs.flatMap ptL, c <= 127 := fun c hc => by
    obtain ⟨d, hd, hc⟩ := List.mem_flatMap.mp hc
    have := h2 d hd
    unfold ptL at hc
    cases e : runS d <;> rw [e] at hc <;> simp at hc <;> omega
  have h4 := len_fl cs
  have hm : ∀ t ∈ tokL cs, t ∈ splitL 32 (cs.flatMap ptL) /\ t ≠ [] := fun t ht => by
    have := List.mem_filter.mp (show t ∈ (splitL 32 (cs.flatMap ptL)).filter fun t => !t.isEmpty from ht)
    refine ⟨this.1, fun e => ?_⟩
    rw [e] at this
    exact absurd this.2 (by simp)
  refine ⟨⟨fun t ht => (hm t ht).2, fun t ht => ?_, ?_⟩, fun t ht => ?_⟩
  · unfold PyData.strOk
    rw [← Array.all_toList]
    refine List.all_eq_true.mpr fun c hc => ?_
    have := h3 c ((mem_split (hm t ht).1).1 c hc)
    simp only [decide_eq_true_eq]
    omega
  · have l1 := List.length_filter_le (fun t : Tk => !t.isEmpty) (splitL 32 (cs.flatMap ptL))
    have l2 := len_split 32 (cs.flatMap ptL)
    exact Nat.le_trans l1 (by omega)
  · have := (mem_split (hm t ht).1).2
    omega
end WR
namespace W34
open PySem L2 P2 WP WR TM T2 PySem.NumText
noncomputable def onesL : List Tk := [[104,101,114,101], [98,97,99,107,32,57], [55,47,51], [48], [117,110,116,105,108,32,49], [97,116,32,104,105,108,108], [97,98,115,40,104,101,114,101,32,45,32,49,41], [40,111,110,32,50,32,43,32,49,41], [97,103,111,32,51], [57,57,57,57,57,57,57,57,57]]
noncomputable def compL : List Tk := [[104,101,114,101,32,60,32,51], [98,97,99,107,32,49,32,61,32,104,101,114,101], [91,111,110,32,49,32,60,32,50,93], [110,111,116,32,50,32,42,32,104,101,114,101,32,60,32,53], [97,98,115,40,104,101,114,101,41,32,61,32,49,47,50], [97,116,32,113,32,45,32,49,32,60,32,97,103,111,32,49,32,43,32,50]]
noncomputable def wd0 : List Tk := [[], [32,32]]
noncomputable def wd1 (o : Tk) : List Tk := [o]
noncomputable def wd2 (o : Tk) (p : Tk) : List Tk := [(((([40] ++ o) ++ [32,60,32]) ++ p) ++ [41])]
noncomputable def wd3 (o : Tk) : List Tk := [([110,111,116,32] ++ o)]
noncomputable def wd4 : List Tk := [[97,110,100], [110,111,116], [91,104,101,114,101,32,60,32,49], [104,101,114,101,32,60,32,49,93], [91,93]]
noncomputable def wL0 (o p : Tk) : List Tk := wd0 ++ (wd1 o ++ (wd2 o p ++ (wd3 o ++ (wd4))))
noncomputable def wd5 : List Tk := [[98,97,99,107,32,48,32,60,32,49], [98,97,99,107,32,49,48,32,60,32,49], [98,97,99,107,32,60,32,49], [98,97,99,107,32,104,101,114,101,32,60,32,49], [111,110,32,45,49,32,60,32,49], [117,110,116,105,108,32,49,47,50,32,60,32,49], [97,103,111,32,120,32,60,32,49]]
noncomputable def wL1 (o p : Tk) : List Tk := wd5
noncomputable def wd6 : List Tk := [[97,116,32,60,32,49], [97,116,32,55,32,60,32,49], [97,116,32,111,110,32,60,32,49], [97,116,32,104,105,108,108,104,105,108,108,115,32,60,32,49], [97,116,32,72,105,108,108,32,60,32,49], [104,105,108,108,32,60,32,49], [104,101,114,101,32,49,32,60,32,49]]
noncomputable def wL2 (o p : Tk) : List Tk := wd6
noncomputable def wd7 : List Tk := [[50,47,52,32,60,32,104,101,114,101], [49,47,49,32,60,32,104,101,114,101], [51,47,48,32,60,32,104,101,114,101], [48,49,32,60,32,104,101,114,101], [49,47,48,50,32,60,32,104,101,114,101], [49,32,47,32,50,32,60,32,104,101,114,101], [49,46,53,32,60,32,104,101,114,101]]
noncomputable def wL3 (o p : Tk) : List Tk := wd7
noncomputable def wd8 : List Tk := [[49,48,48,48,48,48,48,48,48,48,32,60,32,104,101,114,101], [49,47,49,48,48,48,48,48,48,32,60,32,104,101,114,101]]
noncomputable def wd9 (o : Tk) : List Tk := [(o ++ [32,62,32,49]), (o ++ [32,60,61,32,49]), (o ++ [32,60,62,32,49]), (o ++ [32,61,61,32,49])]
noncomputable def wL4 (o p : Tk) : List Tk := wd8 ++ (wd9 o)
noncomputable def wd10 : List Tk := [[104,101,114,101,32,60,32,49,32,97,110,100], [111,114,32,104,101,114,101,32,60,32,49], [104,101,114,101,32,60,32,49,32,97,110,100,32,111,114,32,104,101,114,101,32,60,32,50], [104,101,114,101,32,60,32,49,32,104,101,114,101,32,60,32,50], [98,97,99,107,49,32,60,32,49]]
noncomputable def wL5 (o p : Tk) : List Tk := wd10
noncomputable def wd11 : List Tk := [[104,101,114,101,60,49,97,110,100,32,104,101,114,101,60,50], [97,98,115,40,104,101,114,101,44,32,49,41,32,60,32,50], [104,101,114,101,32,60,32,49,9], [104,101,114,101,32,60,32,49,10], [123,104,101,114,101,32,60,32,49,125]]
noncomputable def wL6 (o p : Tk) : List Tk := wd11
noncomputable def wd12 : List Tk := [[104,101,114,101,32,43,32,104,101,114,101,32,43,32,104,101,114,101,32,43,32,104,101,114,101,32,43,32,104,101,114,101,32,43,32,104,101,114,101,32,43,32,104,101,114,101,32,43,32,104,101,114,101,32,43,32,104,101,114,101,32,43,32,104,101,114,101,32,43,32,104,101,114,101,32,43,32,104,101,114,101,32,43,32,104,101,114,101,32,43,32,104,101,114,101,32,43,32,104,101,114,101,32,60,32,49], [110,111,116,32,110,111,116,32,110,111,116,32,110,111,116,32,110,111,116,32,110,111,116,32,110,111,116,32,110,111,116,32,110,111,116,32,110,111,116,32,110,111,116,32,110,111,116,32,110,111,116,32,110,111,116,32,110,111,116,32,110,111,116,32,110,111,116,32,110,111,116,32,110,111,116,32,110,111,116,32,110,111,116,32,110,111,116,32,110,111,116,32,110,111,116,32,110,111,116,32,110,111,116,32,110,111,116,32,110,111,116,32,104,101,114,101,32,60,32,49], [40,40,40,40,40,40,40,40,40,40,40,40,40,40,40,40,40,104,101,114,101,41,41,41,41,41,41,41,41,41,41,41,41,41,41,41,41,41,32,60,32,49]]
noncomputable def wL7 (o p : Tk) : List Tk := wd12
noncomputable def wd13 : List Tk := [[91,91,91,91,91,91,91,91,91,91,91,91,91,91,91,91,91,104,101,114,101,32,60,32,49,93,93,93,93,93,93,93,93,93,93,93,93,93,93,93,93,93], [91,91,91,91,91,91,91,91,91,40,40,40,40,40,40,40,40,104,101,114,101,41,41,41,41,41,41,41,41,32,60,32,49,93,93,93,93,93,93,93,93,93]]
noncomputable def wL8 (o p : Tk) : List Tk := wd13
noncomputable def wd14 : List Tk := [[97,98,115,40,97,98,115,40,97,98,115,40,97,98,115,40,97,98,115,40,97,98,115,40,97,98,115,40,97,98,115,40,97,98,115,40,97,98,115,40,97,98,115,40,97,98,115,40,97,98,115,40,97,98,115,40,97,98,115,40,97,98,115,40,97,98,115,40,104,101,114,101,41,41,41,41,41,41,41,41,41,41,41,41,41,41,41,41,41,32,60,32,49], [104,101,114,101,32,60,32,49,32,97,110,100,32,104,101,114,101,32,60,32,49,32,97,110,100,32,104,101,114,101,32,60,32,49,32,97,110,100,32,104,101,114,101,32,60,32,49,32,97,110,100,32,104,101,114,101,32,60,32,49,32,97,110,100,32,104,101,114,101,32,60,32,49,32,97,110,100,32,104,101,114,101,32,60,32,49,32,97,110,100,32,104,101,114,101,32,60,32,49]]
noncomputable def wL9 (o p : Tk) : List Tk := wd14
noncomputable def wd15 : List Tk := [[50,32,42,32,104,101,114,101,32,43,32,50,32,42,32,104,101,114,101,32,43,32,50,32,42,32,104,101,114,101,32,43,32,50,32,42,32,104,101,114,101,32,43,32,50,32,42,32,104,101,114,101,32,43,32,50,32,42,32,104,101,114,101,32,43,32,50,32,42,32,104,101,114,101,32,43,32,50,32,42,32,104,101,114,101,32,43,32,50,32,42,32,104,101,114,101,32,43,32,50,32,42,32,104,101,114,101,32,60,32,49], [97,98,115,40,104,101,114,101,41,32,43,32,97,98,115,40,104,101,114,101,41,32,43,32,97,98,115,40,104,101,114,101,41,32,43,32,97,98,115,40,104,101,114,101,41,32,43,32,97,98,115,40,104,101,114,101,41,32,43,32,97,98,115,40,104,101,114,101,41,32,43,32,97,98,115,40,104,101,114,101,41,32,43,32,97,98,115,40,104,101,114,101,41,32,43,32,97,98,115,40,104,101,114,101,41,32,43,32,97,98,115,40,104,101,114,101,41,32,60,32,49]]
noncomputable def wL10 (o p : Tk) : List Tk := wd15
noncomputable def tm0 (o : Tk) (p : Tk) : List Tk := [(((o ++ [32]) ++ p) ++ [32,60,32,49])]
noncomputable def tm1 (o : Tk) : List Tk := [(o ++ [32,43,32,60,32,49]), (([43,32] ++ o) ++ [32,60,32,49]), (([45,32] ++ o) ++ [32,60,32,49]), (o ++ [32,60,32])]
noncomputable def tL0 (o p : Tk) : List Tk := tm0 o p ++ (tm1 o)
noncomputable def tm2 (o : Tk) : List Tk := [([60,32] ++ o)]
noncomputable def tL1 (o p : Tk) : List Tk := tm2 o
noncomputable def tm3 (o : Tk) (p : Tk) : List Tk := [((((o ++ [32,60,32]) ++ p) ++ [32,60,32]) ++ o), (((o ++ [32,61,32]) ++ p) ++ [32,61,32,49]), (((o ++ [32,45,32,45,32]) ++ p) ++ [32,60,32,49])]
noncomputable def tL2 (o p : Tk) : List Tk := tm3 o p
noncomputable def tm4 (o : Tk) : List Tk := [(o ++ [32,42,32,50,32,42,32,104,101,114,101,32,60,32,49]), (([50,32,42,32,51,32,42,32] ++ o) ++ [32,60,32,49]), (([104,101,114,101,32,42,32] ++ o) ++ [32,60,32,49])]
noncomputable def tm5 : List Tk := [[50,32,42,32,60,32,49]]
noncomputable def tL3 (o p : Tk) : List Tk := tm4 o ++ (tm5)
noncomputable def tm6 (o : Tk) : List Tk := [(([40] ++ o) ++ [32,60,32,49]), (o ++ [41,32,60,32,49])]
noncomputable def tm7 : List Tk := [[40,41,32,60,32,49]]
noncomputable def tm8 (o : Tk) : List Tk := [(([40] ++ o) ++ [93,32,60,32,49]), (([91] ++ o) ++ [41,32,60,32,49])]
noncomputable def tL4 (o p : Tk) : List Tk := tm6 o ++ (tm7 ++ (tm8 o))
noncomputable def tm9 (o : Tk) : List Tk := [(([91] ++ o) ++ [93,32,60,32,49])]
noncomputable def tm10 : List Tk := [[97,98,115,32,104,101,114,101,32,60,32,49]]
noncomputable def tL5 (o p : Tk) : List Tk := tm9 o ++ (tm10)
noncomputable def badW (o p : Tk) : List Tk := ((((((((((wL0 o p) ++ wL1 o p) ++ wL2 o p) ++ wL3 o p) ++ wL4 o p) ++ wL5 o p) ++ wL6 o p) ++ wL7 o p) ++ wL8 o p) ++ wL9 o p) ++ wL10 o p
noncomputable def badT (o p : Tk) : List Tk := (((((tL0 o p) ++ tL1 o p) ++ tL2 o p) ++ tL3 o p) ++ tL4 o p) ++ tL5 o p
noncomputable def ctxL (t g : Tk) : List Tk := [t, ((g ++ [32,111,114,32]) ++ t), (([91] ++ t) ++ [93]), (([110,111,116,32,91] ++ t) ++ [93]), ((t ++ [32,97,110,100,32]) ++ g), t]
variable {a : Ad}
theorem l_0 : (D.str (Str.ofString "")) = tS [] := congrArg D.str (ext (by decide))
theorem l_1 : (D.str (Str.ofString " ")) = tS [32] := congrArg D.str (ext (by decide))
theorem l_2 : (D.str (Str.ofString "  ")) = tS [32,32] := congrArg D.str (ext (by decide))
theorem l_3 : (D.str (Str.ofString " * 2 * here < 1")) = tS [32,42,32,50,32,42,32,104,101,114,101,32,60,32,49] := congrArg D.str (ext (by decide))
theorem l_4 : (D.str (Str.ofString " + < 1")) = tS [32,43,32,60,32,49] := congrArg D.str (ext (by decide))
theorem l_5 : (D.str (Str.ofString " - - ")) = tS [32,45,32,45,32] := congrArg D.str (ext (by decide))
theorem l_6 : (D.str (Str.ofString " < ")) = tS [32,60,32] := congrArg D.str (ext (by decide))
theorem l_7 : (D.str (Str.ofString " < 1")) = tS [32,60,32,49] := congrArg D.str (ext (by decide))
theorem l_8 : (D.str (Str.ofString " <= 1")) = tS [32,60,61,32,49] := congrArg D.str (ext (by decide))
theorem l_9 : (D.str (Str.ofString " <> 1")) = tS [32,60,62,32,49] := congrArg D.str (ext (by decide))
theorem l_10 : (D.str (Str.ofString " = ")) = tS [32,61,32] := congrArg D.str (ext (by decide))
theorem l_11 : (D.str (Str.ofString " = 1")) = tS [32,61,32,49] := congrArg D.str (ext (by decide))
theorem l_12 : (D.str (Str.ofString " == 1")) = tS [32,61,61,32,49] := congrArg D.str (ext (by decide))
theorem l_13 : (D.str (Str.ofString " > 1")) = tS [32,62,32,49] := congrArg D.str (ext (by decide))
theorem l_14 : (D.str (Str.ofString " and ")) = tS [32,97,110,100,32] := congrArg D.str (ext (by decide))
theorem l_15 : (D.str (Str.ofString " or ")) = tS [32,111,114,32] := congrArg D.str (ext (by decide))
theorem l_16 : (D.str (Str.ofString "(")) = tS [40] := congrArg D.str (ext (by decide))
theorem l_17 : (D.str (Str.ofString "() < 1")) = tS [40,41,32,60,32,49] := congrArg D.str (ext (by decide))
theorem l_18 : (D.str (Str.ofString "(on 2 + 1)")) = tS [40,111,110,32,50,32,43,32,49,41] := congrArg D.str (ext (by decide))
theorem l_19 : (D.str (Str.ofString ")")) = tS [41] := congrArg D.str (ext (by decide))
theorem l_20 : (D.str (Str.ofString ") < 1")) = tS [41,32,60,32,49] := congrArg D.str (ext (by decide))
theorem l_21 : (D.str (Str.ofString "+ ")) = tS [43,32] := congrArg D.str (ext (by decide))
theorem l_22 : (D.str (Str.ofString "- ")) = tS [45,32] := congrArg D.str (ext (by decide))
theorem l_23 : (D.str (Str.ofString "0")) = tS [48] := congrArg D.str (ext (by decide))
theorem l_24 : (D.str (Str.ofString "1/1000000 < here")) = tS [49,47,49,48,48,48,48,48,48,32,60,32,104,101,114,101] := congrArg D.str (ext (by decide))
theorem l_25 : (D.str (Str.ofString "1000000000 < here")) = tS [49,48,48,48,48,48,48,48,48,48,32,60,32,104,101,114,101] := congrArg D.str (ext (by decide))
theorem l_26 : (D.str (Str.ofString "2 * 3 * ")) = tS [50,32,42,32,51,32,42,32] := congrArg D.str (ext (by decide))
theorem l_27 : (D.str (Str.ofString "2 * < 1")) = tS [50,32,42,32,60,32,49] := congrArg D.str (ext (by decide))
theorem l_28 : (D.str (Str.ofString "7/3")) = tS [55,47,51] := congrArg D.str (ext (by decide))
theorem l_29 : (D.str (Str.ofString "999999999")) = tS [57,57,57,57,57,57,57,57,57] := congrArg D.str (ext (by decide))
theorem l_30 : (D.str (Str.ofString "< ")) = tS [60,32] := congrArg D.str (ext (by decide))
theorem l_31 : (D.str (Str.ofString "[")) = tS [91] := congrArg D.str (ext (by decide))
theorem l_32 : (D.str (Str.ofString "[]")) = tS [91,93] := congrArg D.str (ext (by decide))
theorem l_33 : (D.str (Str.ofString "[here < 1")) = tS [91,104,101,114,101,32,60,32,49] := congrArg D.str (ext (by decide))
theorem l_34 : (D.str (Str.ofString "[on 1 < 2]")) = tS [91,111,110,32,49,32,60,32,50,93] := congrArg D.str (ext (by decide))
theorem l_35 : (D.str (Str.ofString "]")) = tS [93] := congrArg D.str (ext (by decide))
theorem l_36 : (D.str (Str.ofString "] < 1")) = tS [93,32,60,32,49] := congrArg D.str (ext (by decide))
theorem l_37 : (D.str (Str.ofString "abs here < 1")) = tS [97,98,115,32,104,101,114,101,32,60,32,49] := congrArg D.str (ext (by decide))
theorem l_38 : (D.str (Str.ofString "abs(here - 1)")) = tS [97,98,115,40,104,101,114,101,32,45,32,49,41] := congrArg D.str (ext (by decide))
theorem l_39 : (D.str (Str.ofString "abs(here) = 1/2")) = tS [97,98,115,40,104,101,114,101,41,32,61,32,49,47,50] := congrArg D.str (ext (by decide))
theorem l_40 : (D.str (Str.ofString "ago 3")) = tS [97,103,111,32,51] := congrArg D.str (ext (by decide))
theorem l_41 : (D.str (Str.ofString "and")) = tS [97,110,100] := congrArg D.str (ext (by decide))
theorem l_42 : (D.str (Str.ofString "at hill")) = tS [97,116,32,104,105,108,108] := congrArg D.str (ext (by decide))
theorem l_43 : (D.str (Str.ofString "at q - 1 < ago 1 + 2")) = tS [97,116,32,113,32,45,32,49,32,60,32,97,103,111,32,49,32,43,32,50] := congrArg D.str (ext (by decide))
theorem l_44 : (D.str (Str.ofString "back 1 = here")) = tS [98,97,99,107,32,49,32,61,32,104,101,114,101] := congrArg D.str (ext (by decide))
theorem l_45 : (D.str (Str.ofString "back 9")) = tS [98,97,99,107,32,57] := congrArg D.str (ext (by decide))
theorem l_46 : (D.str (Str.ofString "here")) = tS [104,101,114,101] := congrArg D.str (ext (by decide))
theorem l_47 : (D.str (Str.ofString "here * ")) = tS [104,101,114,101,32,42,32] := congrArg D.str (ext (by decide))
theorem l_48 : (D.str (Str.ofString "here < 1]")) = tS [104,101,114,101,32,60,32,49,93] := congrArg D.str (ext (by decide))
theorem l_49 : (D.str (Str.ofString "here < 3")) = tS [104,101,114,101,32,60,32,51] := congrArg D.str (ext (by decide))
theorem l_50 : (D.str (Str.ofString "not")) = tS [110,111,116] := congrArg D.str (ext (by decide))
theorem l_51 : (D.str (Str.ofString "not ")) = tS [110,111,116,32] := congrArg D.str (ext (by decide))
theorem l_52 : (D.str (Str.ofString "not 2 * here < 5")) = tS [110,111,116,32,50,32,42,32,104,101,114,101,32,60,32,53] := congrArg D.str (ext (by decide))
theorem l_53 : (D.str (Str.ofString "not [")) = tS [110,111,116,32,91] := congrArg D.str (ext (by decide))
theorem l_54 : (D.str (Str.ofString "until 1")) = tS [117,110,116,105,108,32,49] := congrArg D.str (ext (by decide))
theorem q_addM {x y : List Nat} (h : x.length + y.length <= 1000000) : addD (tS x) (tS y) = .ok (tS (x ++ y)) := by
  rw [q_add_s, len_mk, len_mk, if_pos (size_of h)]
  congr 2
  exact ext (by rw [cds_app, cds_mk, cds_mk, cds_mk])
theorem atI_ex {L : List Tk} {n : Nat} (hn : L.length = n) (h0 : 0 < n) (c : Int) : ∃ t ∈ L, L2.atI (L.map tS) (c % (n : Int)) = some (tS t) := by
  have h1 : 0 <= c % (n : Int) := Int.emod_nonneg _ (by omega)
  have h2 : c % (n : Int) < n := Int.emod_lt_of_pos _ (by omega)
  have h3 : (c % (n : Int)).toNat < L.length := by omega
  obtain ⟨j, hj⟩ := Int.eq_ofNat_of_zero_le h1
  rw [hj] at h3 ⊢
  refine ⟨L[j]'(by simpa using h3), List.getElem_mem _, ?_⟩
  refine atI_nat ?_
  rw [List.getElem?_map, List.getElem?_eq_getElem (by simpa using h3)]
  rfl
theorem fin_ix {o : Option D} {d : D} (e : o = some d) : finT (toS (match o with | some d => R.ok d | none => R.bad) RT.rt) = .ok d := by rw [e]; rfl
theorem m_single (c : Int) : ∃ t ∈ onesL, finT (gl_single a (startD 2 [.int c])) = .ok (tS t) := by
  obtain ⟨t, ht, e⟩ := atI_ex (L := onesL) (n := 10) rfl (by decide) c
  refine ⟨t, ht, ?_⟩
  unfold gl_single
  iterate 3 (walk_at "den"; try simp only [l_0, l_1, l_2, l_3, l_4, l_5, l_6, l_7, l_8, l_9, l_10, l_11, l_12, l_13, l_14, l_15, l_16, l_17, l_18, l_19, l_20, l_21, l_22, l_23, l_24, l_25, l_26, l_27, l_28, l_29, l_30, l_31, l_32, l_33, l_34, l_35, l_36, l_37, l_38, l_39, l_40, l_41, l_42, l_43, l_44, l_45, l_46, l_47, l_48, l_49, l_50, l_51, l_52, l_53, l_54])
  exact fin_ix e
theorem m_compared (c : Int) : ∃ t ∈ compL, finT (gl_compared a (startD 2 [.int c])) = .ok (tS t) := by
  obtain ⟨t, ht, e⟩ := atI_ex (L := compL) (n := 6) rfl (by decide) c
  refine ⟨t, ht, ?_⟩
  unfold gl_compared
  iterate 3 (walk_at "den"; try simp only [l_0, l_1, l_2, l_3, l_4, l_5, l_6, l_7, l_8, l_9, l_10, l_11, l_12, l_13, l_14, l_15, l_16, l_17, l_18, l_19, l_20, l_21, l_22, l_23, l_24, l_25, l_26, l_27, l_28, l_29, l_30, l_31, l_32, l_33, l_34, l_35, l_36, l_37, l_38, l_39, l_40, l_41, l_42, l_43, l_44, l_45, l_46, l_47, l_48, l_49, l_50, l_51, l_52, l_53, l_54])
  exact fin_ix e
theorem m_within {t g : Tk} (ht : t.length <= 1000) (hg : g.length <= 1000) (c : Int) : ∃ x ∈ ctxL t g, finT (gl_within a (startD 4 [.int c, tS t, tS g])) = .ok (tS x) := by
  obtain ⟨x, hx, e⟩ := atI_ex (L := ctxL t g) (n := 6) rfl (by decide) c
  refine ⟨x, hx, ?_⟩
  unfold gl_within
  iterate 4 (walk_at "den"; try simp (disch := (simp only [List.length_append, List.length_cons, List.length_nil]; omega)) only [l_0, l_1, l_2, l_3, l_4, l_5, l_6, l_7, l_8, l_9, l_10, l_11, l_12, l_13, l_14, l_15, l_16, l_17, l_18, l_19, l_20, l_21, l_22, l_23, l_24, l_25, l_26, l_27, l_28, l_29, l_30, l_31, l_32, l_33, l_34, l_35, l_36, l_37, l_38, l_39, l_40, l_41, l_42, l_43, l_44, l_45, l_46, l_47, l_48, l_49, l_50, l_51, l_52, l_53, l_54, q_addM])
  exact fin_ix e
end W34
namespace W34
open PySem L2 P2 WP WR TM T2 PySem.NumText
noncomputable def refd (y : Tk) : Bool := Nat.ble y.length 330 && (y.all fun c => Nat.ble c 127) && (match parse y with
  | .no => true
  | _ => false)
noncomputable def okQ (x : Tk) : Bool := Nat.ble x.length 300 && refd x && refd (([91] ++ x) ++ [93]) && refd (([110, 111, 116, 32, 91] ++ x) ++ [93]) && compL.all fun g => refd ((g ++ [32, 111, 114, 32]) ++ x) && refd ((x ++ [32, 97, 110, 100, 32]) ++ g)
theorem k_wd0 : ((wd0).all okQ) = true := by decide +kernel
theorem k_wd1 : (onesL.all fun o => (wd1 o).all okQ) = true := by decide +kernel
theorem k_wd2 : (onesL.all fun o => onesL.all fun p => (wd2 o p).all okQ) = true := by decide +kernel
theorem k_wd3 : (onesL.all fun o => (wd3 o).all okQ) = true := by decide +kernel
theorem k_wd4 : ((wd4).all okQ) = true := by decide +kernel
theorem k_wd5 : ((wd5).all okQ) = true := by decide +kernel
theorem k_wd6 : ((wd6).all okQ) = true := by decide +kernel
theorem k_wd7 : ((wd7).all okQ) = true := by decide +kernel
theorem k_wd8 : ((wd8).all okQ) = true := by decide +kernel
theorem k_wd9 : (onesL.all fun o => (wd9 o).all okQ) = true := by decide +kernel
theorem k_wd10 : ((wd10).all okQ) = true := by decide +kernel
theorem k_wd11 : ((wd11).all okQ) = true := by decide +kernel
theorem k_wd12 : ((wd12).all okQ) = true := by decide +kernel
theorem k_wd13 : ((wd13).all okQ) = true := by decide +kernel
theorem k_wd14 : ((wd14).all okQ) = true := by decide +kernel
theorem k_wd15 : ((wd15).all okQ) = true := by decide +kernel
theorem k_tm0 : (onesL.all fun o => onesL.all fun p => (tm0 o p).all okQ) = true := by decide +kernel
theorem k_tm1 : (onesL.all fun o => (tm1 o).all okQ) = true := by decide +kernel
theorem k_tm2 : (onesL.all fun o => (tm2 o).all okQ) = true := by decide +kernel
theorem k_tm3 : (onesL.all fun o => onesL.all fun p => (tm3 o p).all okQ) = true := by decide +kernel
theorem k_tm4 : (onesL.all fun o => (tm4 o).all okQ) = true := by decide +kernel
theorem k_tm5 : ((tm5).all okQ) = true := by decide +kernel
theorem k_tm6 : (onesL.all fun o => (tm6 o).all okQ) = true := by decide +kernel
theorem k_tm7 : ((tm7).all okQ) = true := by decide +kernel
theorem k_tm8 : (onesL.all fun o => (tm8 o).all okQ) = true := by decide +kernel
theorem k_tm9 : (onesL.all fun o => (tm9 o).all okQ) = true := by decide +kernel
theorem k_tm10 : ((tm10).all okQ) = true := by decide +kernel
theorem q_badW {o p x : Tk} (ho : o ∈ onesL) (hp : p ∈ onesL) (h : x ∈ badW o p) : okQ x = true := by
  simp only [badW, wL0, wL1, wL2, wL3, wL4, wL5, wL6, wL7, wL8, wL9, wL10, List.mem_append] at h
  have A : ∀ {l : List Tk}, l.all okQ = true -> x ∈ l -> okQ x = true := fun k h => List.all_eq_true.mp k x h
  rcases h with (((((((((((h | (h | (h | (h | h)))) | h) | h) | h) | (h | h)) | h) | h) | h) | h) | h) | h)
  · exact A k_wd0 h
  · exact A (List.all_eq_true.mp k_wd1 o ho) h
  · exact A (List.all_eq_true.mp (List.all_eq_true.mp k_wd2 o ho) p hp) h
  · exact A (List.all_eq_true.mp k_wd3 o ho) h
  · exact A k_wd4 h
  · exact A k_wd5 h
  · exact A k_wd6 h
  · exact A k_wd7 h
  · exact A k_wd8 h
  · exact A (List.all_eq_true.mp k_wd9 o ho) h
  · exact A k_wd10 h
  · exact A k_wd11 h
  · exact A k_wd12 h
  · exact A k_wd13 h
  · exact A k_wd14 h
  · exact A k_wd15 h
theorem q_badT {o p x : Tk} (ho : o ∈ onesL) (hp : p ∈ onesL) (h : x ∈ badT o p) : okQ x = true := by
  simp only [badT, tL0, tL1, tL2, tL3, tL4, tL5, List.mem_append] at h
  have A : ∀ {l : List Tk}, l.all okQ = true -> x ∈ l -> okQ x = true := fun k h => List.all_eq_true.mp k x h
  rcases h with ((((((h | h) | h) | h) | (h | h)) | (h | (h | h))) | (h | h))
  · exact A (List.all_eq_true.mp (List.all_eq_true.mp k_tm0 o ho) p hp) h
  · exact A (List.all_eq_true.mp k_tm1 o ho) h
  · exact A (List.all_eq_true.mp k_tm2 o ho) h
  · exact A (List.all_eq_true.mp (List.all_eq_true.mp k_tm3 o ho) p hp) h
  · exact A (List.all_eq_true.mp k_tm4 o ho) h
  · exact A k_tm5 h
  · exact A (List.all_eq_true.mp k_tm6 o ho) h
  · exact A k_tm7 h
  · exact A (List.all_eq_true.mp k_tm8 o ho) h
  · exact A (List.all_eq_true.mp k_tm9 o ho) h
  · exact A k_tm10 h
theorem q_ctx {x g y : Tk} (h : okQ x = true) (hg : g ∈ compL) (hy : y ∈ ctxL x g) : refd y = true := by
  unfold okQ at h
  simp only [Bool.and_eq_true, List.all_eq_true] at h
  obtain ⟨⟨⟨⟨_, h1⟩, h2⟩, h3⟩, h4⟩ := h
  obtain ⟨h5, h6⟩ := h4 g hg
  unfold ctxL at hy
  simp only [List.mem_cons, List.not_mem_nil, or_false] at hy
  rcases hy with rfl | rfl | rfl | rfl | rfl | rfl <;> assumption
theorem q_len {x : Tk} (h : okQ x = true) : x.length <= 300 := by
  unfold okQ at h
  simp only [Bool.and_eq_true] at h
  exact Nat.le_of_ble_eq_true h.1.1.1.1
noncomputable def hereD : D := .tup [.str "here"]
noncomputable def oneD : D := .tup [.str "num", .tup [.int 1, .int 1]]
noncomputable def sumD : Nat -> D
  | 0 => hereD
  | n + 1 => .tup [.str "+", sumD n, hereD]
noncomputable def cmp1 (d : D) : D := .tup [.str "<", d, oneD]
noncomputable def notsD : Nat -> D
  | 0 => cmp1 hereD
  | n + 1 => .tup [.str "not", notsD n]
noncomputable def andsD : Nat -> D
  | 0 => notsD 3
  | n + 1 => .tup [.str "and", andsD n, notsD 0]
noncomputable def timD (n : Int) (d : D) : D := .tup [.str "times", .tup [.int n, .int 1], d]
noncomputable def binD (s : Str) (x y : D) : D := .tup [.str s, x, y]
noncomputable def gT0 : Tk := [104,101,114,101,32,43,32,104,101,114,101,32,43,32,104,101,114,101,32,43,32,104,101,114,101,32,43,32,104,101,114,101,32,43,32,104,101,114,101,32,43,32,104,101,114,101,32,43,32,104,101,114,101,32,43,32,104,101,114,101,32,43,32,104,101,114,101,32,43,32,104,101,114,101,32,43,32,104,101,114,101,32,43,32,104,101,114,101,32,43,32,104,101,114,101,32,60,32,49]
noncomputable def gD0 : D := cmp1 (sumD 13)
noncomputable def gT1 : Tk := [110,111,116,32,110,111,116,32,110,111,116,32,110,111,116,32,110,111,116,32,110,111,116,32,110,111,116,32,110,111,116,32,110,111,116,32,110,111,116,32,110,111,116,32,110,111,116,32,110,111,116,32,110,111,116,32,110,111,116,32,110,111,116,32,110,111,116,32,110,111,116,32,110,111,116,32,110,111,116,32,110,111,116,32,110,111,116,32,110,111,116,32,110,111,116,32,110,111,116,32,110,111,116,32,110,111,116,32,104,101,114,101,32,60,32,49]
noncomputable def gD1 : D := notsD 27
noncomputable def gT2 : Tk := [40,40,40,40,40,40,40,40,40,40,40,40,40,40,40,40,104,101,114,101,41,41,41,41,41,41,41,41,41,41,41,41,41,41,41,41,60,49]
noncomputable def gD2 : D := cmp1 hereD
noncomputable def gT3 : Tk := [91,91,91,91,91,91,91,91,91,91,91,91,91,91,91,91,104,101,114,101,32,60,32,49,93,93,93,93,93,93,93,93,93,93,93,93,93,93,93,93]
noncomputable def gD3 : D := cmp1 hereD
noncomputable def gT4 : Tk := [57,57,57,57,57,57,57,57,57,47,57,57,57,57,57,56,32,60,32,104,101,114,101]
noncomputable def gD4 : D := binD "<" (.tup [.str "num", .tup [.int 999999999, .int 999998]]) hereD
noncomputable def gT5 : Tk := [97,116,32,97,98,99,100,101,102,103,104,61,98,97,99,107,32,57]
noncomputable def gD5 : D := binD "=" (.tup [.str "at", .str "abcdefgh"]) (.tup [.str "back", .int 9])
noncomputable def gT6 : Tk := [40,40,104,101,114,101,41,41,32,43,32,40,40,104,101,114,101,41,41,32,43,32,40,40,104,101,114,101,41,41,32,43,32,40,40,104,101,114,101,41,41,32,43,32,40,40,104,101,114,101,41,41,32,43,32,40,40,104,101,114,101,41,41,32,43,32,40,40,104,101,114,101,41,41,32,43,32,40,40,104,101,114,101,41,41,32,43,32,40,40,104,101,114,101,41,41,32,60,32,49]
noncomputable def gD6 : D := cmp1 (sumD 8)
noncomputable def gT7 : Tk := [110,111,116,32,110,111,116,91,104,101,114,101,60,49,93,97,110,100,32,104,101,114,101,60,49]
noncomputable def gD7 : D := binD "and" (notsD 2) (notsD 0)
noncomputable def gT8 : Tk := [91,91,91,91,91,91,91,91,40,40,40,40,40,40,40,40,104,101,114,101,41,41,41,41,41,41,41,41,60,49,93,93,93,93,93,93,93,93]
noncomputable def gD8 : D := cmp1 hereD
noncomputable def gT9 : Tk := [50,42,104,101,114,101,45,49,43,98,97,99,107,32,49,60,51,42,40,104,101,114,101,45,49,41]
noncomputable def gD9 : D := binD "<" (binD "+" (binD "-" (timD 2 hereD) oneD) (.tup [.str "back", .int 1])) (timD 3 (binD "-" hereD oneD))
noncomputable def gT10 : Tk := [110,111,116,32,110,111,116,32,110,111,116,32,104,101,114,101,60,49,32,97,110,100,32,104,101,114,101,60,49,32,97,110,100,32,104,101,114,101,60,49,32,97,110,100,32,104,101,114,101,60,49,32,97,110,100,32,104,101,114,101,60,49,32,97,110,100,32,104,101,114,101,60,49,32,97,110,100,32,104,101,114,101,60,49]
noncomputable def gD10 : D := andsD 6
noncomputable def goodsL : List (Tk × D) := [(gT0, gD0), (gT1, gD1), (gT2, gD2), (gT3, gD3), (gT4, gD4), (gT5, gD5), (gT6, gD6), (gT7, gD7), (gT8, gD8), (gT9, gD9), (gT10, gD10)]
noncomputable def okD : Pr -> Option D
  | .ok d _ _ _ => some d
  | _ => none
noncomputable def plB : Nat -> D -> Bool
  | 0, _ => false
  | n + 1, .tup ds => Nat.ble ds.length 1000 && ds.all (plB n)
  | _ + 1, .str _ => true
  | _ + 1, .int _ => true
  | _ + 1, _ => false
theorem gd_0 : okD (parse gT0) = some gD0 := by kernel_rfl
theorem pl_0 : plB 60 gD0 = true := by kernel_rfl
theorem gd_1 : okD (parse gT1) = some gD1 := by kernel_rfl
theorem pl_1 : plB 60 gD1 = true := by kernel_rfl
theorem gd_2 : okD (parse gT2) = some gD2 := by kernel_rfl
theorem pl_2 : plB 60 gD2 = true := by kernel_rfl
theorem gd_3 : okD (parse gT3) = some gD3 := by kernel_rfl
theorem pl_3 : plB 60 gD3 = true := by kernel_rfl
theorem gd_4 : okD (parse gT4) = some gD4 := by kernel_rfl
theorem pl_4 : plB 60 gD4 = true := by kernel_rfl
theorem gd_5 : okD (parse gT5) = some gD5 := by kernel_rfl
theorem pl_5 : plB 60 gD5 = true := by kernel_rfl
theorem gd_6 : okD (parse gT6) = some gD6 := by kernel_rfl
theorem pl_6 : plB 60 gD6 = true := by kernel_rfl
theorem gd_7 : okD (parse gT7) = some gD7 := by kernel_rfl
theorem pl_7 : plB 60 gD7 = true := by kernel_rfl
theorem gd_8 : okD (parse gT8) = some gD8 := by kernel_rfl
theorem pl_8 : plB 60 gD8 = true := by kernel_rfl
theorem gd_9 : okD (parse gT9) = some gD9 := by kernel_rfl
theorem pl_9 : plB 60 gD9 = true := by kernel_rfl
theorem gd_10 : okD (parse gT10) = some gD10 := by kernel_rfl
theorem pl_10 : plB 60 gD10 = true := by kernel_rfl
theorem goods_ok {x : Tk × D} (h : x ∈ goodsL) : okD (parse x.1) = some x.2 /\ plB 60 x.2 = true /\ x.1.length <= 330 /\ (x.1.all fun c => Nat.ble c 127) = true := by
  unfold goodsL at h
  simp only [List.mem_cons, List.not_mem_nil, or_false] at h
  rcases h with rfl | rfl | rfl | rfl | rfl | rfl | rfl | rfl | rfl | rfl | rfl
  · exact ⟨gd_0, pl_0, by decide, by decide⟩
  · exact ⟨gd_1, pl_1, by decide, by decide⟩
  · exact ⟨gd_2, pl_2, by decide, by decide⟩
  · exact ⟨gd_3, pl_3, by decide, by decide⟩
  · exact ⟨gd_4, pl_4, by decide, by decide⟩
  · exact ⟨gd_5, pl_5, by decide, by decide⟩
  · exact ⟨gd_6, pl_6, by decide, by decide⟩
  · exact ⟨gd_7, pl_7, by decide, by decide⟩
  · exact ⟨gd_8, pl_8, by decide, by decide⟩
  · exact ⟨gd_9, pl_9, by decide, by decide⟩
  · exact ⟨gd_10, pl_10, by decide, by decide⟩
end W34
namespace W34
open PySem L2 P2 WP WR TM T2 PySem.NumText
variable {a : Ad}
theorem set_first {x0 x1 x2 s3 : Sl} {V : Ev -> R D} {R' : Ev -> RT} {ys : List Tk} (h : ∀ s3, V [x0, x1, x2, s3] = .ok (.lst (ys.map tS))) : sSeq (sSet 3 V) R' [x0, x1, x2, s3] = R' [x0, x1, x2, .sh (.lst (ys.map tS))] := by
  rw [q_sSeq_a, q_sSet_a, h, q_toS_k]
  rfl
theorem set_app {x0 x1 x2 : Sl} {V : Ev -> R D} {R' : Ev -> RT} {xs ys : List Tk} (hx : xs.length <= 1000) (hy : ys.length <= 1000) (h : ∀ s3, V [x0, x1, x2, s3] = .ok (.lst (ys.map tS))) : sSeq (sSet 3 (d2 addD (dV 3) V)) R' [x0, x1, x2, .sh (.lst (xs.map tS))] = R' [x0, x1, x2, .sh (.lst ((xs ++ ys).map tS))] := by
  rw [q_sSeq_a, q_sSet_a, q_d2_a, q_v3, q_bind_k, h, q_bind_k, q_add_lp (by rw [List.length_map]; exact hx) (by rw [List.length_map]; exact hy), q_toS_k, List.map_append]
  rfl
theorem wV0 {o p : Tk} (ho : o.length <= 100) (hp : p.length <= 100) (c : Int) (s3 : Sl) : (asN (fun ρ => ((aCons (dC (.str "")) (aCons (dC (.str "  ")) (aCons (dV 1) (aCons (d2 addD (d2 addD (d2 addD (d2 addD (dC (.str "(")) (dV 1)) (dC (.str " < "))) (dV 2)) (dC (.str ")"))) (aCons (d2 addD (dC (.str "not ")) (dV 1)) (aCons (dC (.str "and")) (aCons (dC (.str "not")) (aCons (dC (.str "[here < 1")) (aCons (dC (.str "here < 1]")) (aCons (dC (.str "[]")) aNil)))))))))) ρ).bind fitL)) [.sh (.int c), .sh (tS o), .sh (tS p), s3] = .ok (.lst ((wL0 o p).map tS)) := by
  simp (disch := first | decide | (simp only [List.length_append, List.length_cons, List.length_nil]; omega)) only [q_asN_a, q_aCons_a, q_aNil_a, q_d2_a, q_v1, q_v2, q_dC_a, q_bind_k, q_fit_p, q_addM, l_0, l_1, l_2, l_3, l_4, l_5, l_6, l_7, l_8, l_9, l_10, l_11, l_12, l_13, l_14, l_15, l_16, l_17, l_18, l_19, l_20, l_21, l_22, l_23, l_24, l_25, l_26, l_27, l_28, l_29, l_30, l_31, l_32, l_33, l_34, l_35, l_36, l_37, l_38, l_39, l_40, l_41, l_42, l_43, l_44, l_45, l_46, l_47, l_48, l_49, l_50, l_51, l_52, l_53, l_54]
  rfl
theorem wV1 {o p : Tk} (ho : o.length <= 100) (hp : p.length <= 100) (c : Int) (s3 : Sl) : (asN (fun ρ => ((aCons (dC (.str "back 0 < 1")) (aCons (dC (.str "back 10 < 1")) (aCons (dC (.str "back < 1")) (aCons (dC (.str "back here < 1")) (aCons (dC (.str "on -1 < 1")) (aCons (dC (.str "until 1/2 < 1")) (aCons (dC (.str "ago x < 1")) aNil))))))) ρ).bind fitL)) [.sh (.int c), .sh (tS o), .sh (tS p), s3] = .ok (.lst ((wL1 o p).map tS)) := by
  kernel_rfl
theorem wV2 {o p : Tk} (ho : o.length <= 100) (hp : p.length <= 100) (c : Int) (s3 : Sl) : (asN (fun ρ => ((aCons (dC (.str "at < 1")) (aCons (dC (.str "at 7 < 1")) (aCons (dC (.str "at on < 1")) (aCons (dC (.str "at hillhills < 1")) (aCons (dC (.str "at Hill < 1")) (aCons (dC (.str "hill < 1")) (aCons (dC (.str "here 1 < 1")) aNil))))))) ρ).bind fitL)) [.sh (.int c), .sh (tS o), .sh (tS p), s3] = .ok (.lst ((wL2 o p).map tS)) := by
  kernel_rfl
theorem wV3 {o p : Tk} (ho : o.length <= 100) (hp : p.length <= 100) (c : Int) (s3 : Sl) : (asN (fun ρ => ((aCons (dC (.str "2/4 < here")) (aCons (dC (.str "1/1 < here")) (aCons (dC (.str "3/0 < here")) (aCons (dC (.str "01 < here")) (aCons (dC (.str "1/02 < here")) (aCons (dC (.str "1 / 2 < here")) (aCons (dC (.str "1.5 < here")) aNil))))))) ρ).bind fitL)) [.sh (.int c), .sh (tS o), .sh (tS p), s3] = .ok (.lst ((wL3 o p).map tS)) := by
  kernel_rfl
theorem wV4 {o p : Tk} (ho : o.length <= 100) (hp : p.length <= 100) (c : Int) (s3 : Sl) : (asN (fun ρ => ((aCons (dC (.str "1000000000 < here")) (aCons (dC (.str "1/1000000 < here")) (aCons (d2 addD (dV 1) (dC (.str " > 1"))) (aCons (d2 addD (dV 1) (dC (.str " <= 1"))) (aCons (d2 addD (dV 1) (dC (.str " <> 1"))) (aCons (d2 addD (dV 1) (dC (.str " == 1"))) aNil)))))) ρ).bind fitL)) [.sh (.int c), .sh (tS o), .sh (tS p), s3] = .ok (.lst ((wL4 o p).map tS)) := by
  simp (disch := first | decide | (simp only [List.length_append, List.length_cons, List.length_nil]; omega)) only [q_asN_a, q_aCons_a, q_aNil_a, q_d2_a, q_v1, q_v2, q_dC_a, q_bind_k, q_fit_p, q_addM, l_0, l_1, l_2, l_3, l_4, l_5, l_6, l_7, l_8, l_9, l_10, l_11, l_12, l_13, l_14, l_15, l_16, l_17, l_18, l_19, l_20, l_21, l_22, l_23, l_24, l_25, l_26, l_27, l_28, l_29, l_30, l_31, l_32, l_33, l_34, l_35, l_36, l_37, l_38, l_39, l_40, l_41, l_42, l_43, l_44, l_45, l_46, l_47, l_48, l_49, l_50, l_51, l_52, l_53, l_54]
  rfl
theorem wV5 {o p : Tk} (ho : o.length <= 100) (hp : p.length <= 100) (c : Int) (s3 : Sl) : (asN (fun ρ => ((aCons (dC (.str "here < 1 and")) (aCons (dC (.str "or here < 1")) (aCons (dC (.str "here < 1 and or here < 2")) (aCons (dC (.str "here < 1 here < 2")) (aCons (dC (.str "back1 < 1")) aNil))))) ρ).bind fitL)) [.sh (.int c), .sh (tS o), .sh (tS p), s3] = .ok (.lst ((wL5 o p).map tS)) := by
  kernel_rfl
theorem wV6 {o p : Tk} (ho : o.length <= 100) (hp : p.length <= 100) (c : Int) (s3 : Sl) : (asN (fun ρ => ((aCons (dC (.str "here<1and here<2")) (aCons (dC (.str "abs(here, 1) < 2")) (aCons (dC (.str "here < 1\t")) (aCons (dC (.str "here < 1\n")) (aCons (dC (.str "{here < 1}")) aNil))))) ρ).bind fitL)) [.sh (.int c), .sh (tS o), .sh (tS p), s3] = .ok (.lst ((wL6 o p).map tS)) := by
  kernel_rfl
theorem wV7 {o p : Tk} (ho : o.length <= 100) (hp : p.length <= 100) (c : Int) (s3 : Sl) : (asN (fun ρ => ((aCons (d2 addD (dMt "str" joinD (dC (.str " + ")) (aCons (d2 mulLD (asN (fun ρ => ((aCons (dC (.str "here")) aNil) ρ).bind fitL)) (dC (.int 15))) aNil)) (dC (.str " < 1"))) (aCons (d2 addD (d2 mulLD (dC (.str "not ")) (dC (.int 28))) (dC (.str "here < 1"))) (aCons (d2 addD (d2 addD (d2 addD (d2 mulLD (dC (.str "(")) (dC (.int 17))) (dC (.str "here"))) (d2 mulLD (dC (.str ")")) (dC (.int 17)))) (dC (.str " < 1"))) aNil))) ρ).bind fitL)) [.sh (.int c), .sh (tS o), .sh (tS p), s3] = .ok (.lst ((wL7 o p).map tS)) := by
  kernel_rfl
theorem wV8 {o p : Tk} (ho : o.length <= 100) (hp : p.length <= 100) (c : Int) (s3 : Sl) : (asN (fun ρ => ((aCons (d2 addD (d2 addD (d2 mulLD (dC (.str "[")) (dC (.int 17))) (dC (.str "here < 1"))) (d2 mulLD (dC (.str "]")) (dC (.int 17)))) (aCons (d2 addD (d2 addD (d2 addD (d2 addD (d2 addD (d2 mulLD (dC (.str "[")) (dC (.int 9))) (d2 mulLD (dC (.str "(")) (dC (.int 8)))) (dC (.str "here"))) (d2 mulLD (dC (.str ")")) (dC (.int 8)))) (dC (.str " < 1"))) (d2 mulLD (dC (.str "]")) (dC (.int 9)))) aNil)) ρ).bind fitL)) [.sh (.int c), .sh (tS o), .sh (tS p), s3] = .ok (.lst ((wL8 o p).map tS)) := by
  kernel_rfl
theorem wV9 {o p : Tk} (ho : o.length <= 100) (hp : p.length <= 100) (c : Int) (s3 : Sl) : (asN (fun ρ => ((aCons (d2 addD (d2 addD (d2 addD (d2 mulLD (dC (.str "abs(")) (dC (.int 17))) (dC (.str "here"))) (d2 mulLD (dC (.str ")")) (dC (.int 17)))) (dC (.str " < 1"))) (aCons (dMt "str" joinD (dC (.str " and ")) (aCons (d2 mulLD (asN (fun ρ => ((aCons (dC (.str "here < 1")) aNil) ρ).bind fitL)) (dC (.int 8))) aNil)) aNil)) ρ).bind fitL)) [.sh (.int c), .sh (tS o), .sh (tS p), s3] = .ok (.lst ((wL9 o p).map tS)) := by
  kernel_rfl
theorem wV10 {o p : Tk} (ho : o.length <= 100) (hp : p.length <= 100) (c : Int) (s3 : Sl) : (asN (fun ρ => ((aCons (d2 addD (dMt "str" joinD (dC (.str " + ")) (aCons (d2 mulLD (asN (fun ρ => ((aCons (dC (.str "2 * here")) aNil) ρ).bind fitL)) (dC (.int 10))) aNil)) (dC (.str " < 1"))) (aCons (d2 addD (dMt "str" joinD (dC (.str " + ")) (aCons (d2 mulLD (asN (fun ρ => ((aCons (dC (.str "abs(here)")) aNil) ρ).bind fitL)) (dC (.int 10))) aNil)) (dC (.str " < 1"))) aNil)) ρ).bind fitL)) [.sh (.int c), .sh (tS o), .sh (tS p), s3] = .ok (.lst ((wL10 o p).map tS)) := by
  kernel_rfl
theorem m_words {o p : Tk} (ho : o.length <= 100) (hp : p.length <= 100) (c : Int) : ∃ x ∈ badW o p, finT (gl_bad_words a (startD 4 [.int c, tS o, tS p])) = .ok (tS x) := by
  obtain ⟨x, hx, e⟩ := atI_ex (L := badW o p) (n := 56) rfl (by decide) c
  refine ⟨x, hx, ?_⟩
  show finT (gl_bad_words a [.sh (.int c), .sh (tS o), .sh (tS p), .no]) = _
  unfold gl_bad_words
  rw [set_first (wV0 ho hp c), set_app (Nat.le_of_ble_eq_true rfl) (Nat.le_of_ble_eq_true rfl) (wV1 ho hp c), set_app (Nat.le_of_ble_eq_true rfl) (Nat.le_of_ble_eq_true rfl) (wV2 ho hp c), set_app (Nat.le_of_ble_eq_true rfl) (Nat.le_of_ble_eq_true rfl) (wV3 ho hp c), set_app (Nat.le_of_ble_eq_true rfl) (Nat.le_of_ble_eq_true rfl) (wV4 ho hp c), set_app (Nat.le_of_ble_eq_true rfl) (Nat.le_of_ble_eq_true rfl) (wV5 ho hp c), set_app (Nat.le_of_ble_eq_true rfl) (Nat.le_of_ble_eq_true rfl) (wV6 ho hp c), set_app (Nat.le_of_ble_eq_true rfl) (Nat.le_of_ble_eq_true rfl) (wV7 ho hp c), set_app (Nat.le_of_ble_eq_true rfl) (Nat.le_of_ble_eq_true rfl) (wV8 ho hp c), set_app (Nat.le_of_ble_eq_true rfl) (Nat.le_of_ble_eq_true rfl) (wV9 ho hp c), set_app (Nat.le_of_ble_eq_true rfl) (Nat.le_of_ble_eq_true rfl) (wV10 ho hp c)]
  rw [q_sRet_a, q_d2_a, q_v3, q_bind_k, q_d2_a, q_v0, q_bind_k, q_dC_a, q_bind_k, q_mod_p (by decide), q_bind_k, q_ix_l]
  exact fin_ix e
theorem tV0 {o p : Tk} (ho : o.length <= 100) (hp : p.length <= 100) (c : Int) (s3 : Sl) : (asN (fun ρ => ((aCons (d2 addD (d2 addD (d2 addD (dV 1) (dC (.str " "))) (dV 2)) (dC (.str " < 1"))) (aCons (d2 addD (dV 1) (dC (.str " + < 1"))) (aCons (d2 addD (d2 addD (dC (.str "+ ")) (dV 1)) (dC (.str " < 1"))) (aCons (d2 addD (d2 addD (dC (.str "- ")) (dV 1)) (dC (.str " < 1"))) (aCons (d2 addD (dV 1) (dC (.str " < "))) aNil))))) ρ).bind fitL)) [.sh (.int c), .sh (tS o), .sh (tS p), s3] = .ok (.lst ((tL0 o p).map tS)) := by
  simp (disch := first | decide | (simp only [List.length_append, List.length_cons, List.length_nil]; omega)) only [q_asN_a, q_aCons_a, q_aNil_a, q_d2_a, q_v1, q_v2, q_dC_a, q_bind_k, q_fit_p, q_addM, l_0, l_1, l_2, l_3, l_4, l_5, l_6, l_7, l_8, l_9, l_10, l_11, l_12, l_13, l_14, l_15, l_16, l_17, l_18, l_19, l_20, l_21, l_22, l_23, l_24, l_25, l_26, l_27, l_28, l_29, l_30, l_31, l_32, l_33, l_34, l_35, l_36, l_37, l_38, l_39, l_40, l_41, l_42, l_43, l_44, l_45, l_46, l_47, l_48, l_49, l_50, l_51, l_52, l_53, l_54]
  rfl
theorem tV1 {o p : Tk} (ho : o.length <= 100) (hp : p.length <= 100) (c : Int) (s3 : Sl) : (asN (fun ρ => ((aCons (d2 addD (dC (.str "< ")) (dV 1)) aNil) ρ).bind fitL)) [.sh (.int c), .sh (tS o), .sh (tS p), s3] = .ok (.lst ((tL1 o p).map tS)) := by
  simp (disch := first | decide | (simp only [List.length_append, List.length_cons, List.length_nil]; omega)) only [q_asN_a, q_aCons_a, q_aNil_a, q_d2_a, q_v1, q_v2, q_dC_a, q_bind_k, q_fit_p, q_addM, l_0, l_1, l_2, l_3, l_4, l_5, l_6, l_7, l_8, l_9, l_10, l_11, l_12, l_13, l_14, l_15, l_16, l_17, l_18, l_19, l_20, l_21, l_22, l_23, l_24, l_25, l_26, l_27, l_28, l_29, l_30, l_31, l_32, l_33, l_34, l_35, l_36, l_37, l_38, l_39, l_40, l_41, l_42, l_43, l_44, l_45, l_46, l_47, l_48, l_49, l_50, l_51, l_52, l_53, l_54]
  rfl
theorem tV2 {o p : Tk} (ho : o.length <= 100) (hp : p.length <= 100) (c : Int) (s3 : Sl) : (asN (fun ρ => ((aCons (d2 addD (d2 addD (d2 addD (d2 addD (dV 1) (dC (.str " < "))) (dV 2)) (dC (.str " < "))) (dV 1)) (aCons (d2 addD (d2 addD (d2 addD (dV 1) (dC (.str " = "))) (dV 2)) (dC (.str " = 1"))) (aCons (d2 addD (d2 addD (d2 addD (dV 1) (dC (.str " - - "))) (dV 2)) (dC (.str " < 1"))) aNil))) ρ).bind fitL)) [.sh (.int c), .sh (tS o), .sh (tS p), s3] = .ok (.lst ((tL2 o p).map tS)) := by
  simp (disch := first | decide | (simp only [List.length_append, List.length_cons, List.length_nil]; omega)) only [q_asN_a, q_aCons_a, q_aNil_a, q_d2_a, q_v1, q_v2, q_dC_a, q_bind_k, q_fit_p, q_addM, l_0, l_1, l_2, l_3, l_4, l_5, l_6, l_7, l_8, l_9, l_10, l_11, l_12, l_13, l_14, l_15, l_16, l_17, l_18, l_19, l_20, l_21, l_22, l_23, l_24, l_25, l_26, l_27, l_28, l_29, l_30, l_31, l_32, l_33, l_34, l_35, l_36, l_37, l_38, l_39, l_40, l_41, l_42, l_43, l_44, l_45, l_46, l_47, l_48, l_49, l_50, l_51, l_52, l_53, l_54]
  rfl
theorem tV3 {o p : Tk} (ho : o.length <= 100) (hp : p.length <= 100) (c : Int) (s3 : Sl) : (asN (fun ρ => ((aCons (d2 addD (dV 1) (dC (.str " * 2 * here < 1"))) (aCons (d2 addD (d2 addD (dC (.str "2 * 3 * ")) (dV 1)) (dC (.str " < 1"))) (aCons (d2 addD (d2 addD (dC (.str "here * ")) (dV 1)) (dC (.str " < 1"))) (aCons (dC (.str "2 * < 1")) aNil)))) ρ).bind fitL)) [.sh (.int c), .sh (tS o), .sh (tS p), s3] = .ok (.lst ((tL3 o p).map tS)) := by
  simp (disch := first | decide | (simp only [List.length_append, List.length_cons, List.length_nil]; omega)) only [q_asN_a, q_aCons_a, q_aNil_a, q_d2_a, q_v1, q_v2, q_dC_a, q_bind_k, q_fit_p, q_addM, l_0, l_1, l_2, l_3, l_4, l_5, l_6, l_7, l_8, l_9, l_10, l_11, l_12, l_13, l_14, l_15, l_16, l_17, l_18, l_19, l_20, l_21, l_22, l_23, l_24, l_25, l_26, l_27, l_28, l_29, l_30, l_31, l_32, l_33, l_34, l_35, l_36, l_37, l_38, l_39, l_40, l_41, l_42, l_43, l_44, l_45, l_46, l_47, l_48, l_49, l_50, l_51, l_52, l_53, l_54]
  rfl
theorem tV4 {o p : Tk} (ho : o.length <= 100) (hp : p.length <= 100) (c : Int) (s3 : Sl) : (asN (fun ρ => ((aCons (d2 addD (d2 addD (dC (.str "(")) (dV 1)) (dC (.str " < 1"))) (aCons (d2 addD (dV 1) (dC (.str ") < 1"))) (aCons (dC (.str "() < 1")) (aCons (d2 addD (d2 addD (dC (.str "(")) (dV 1)) (dC (.str "] < 1"))) (aCons (d2 addD (d2 addD (dC (.str "[")) (dV 1)) (dC (.str ") < 1"))) aNil))))) ρ).bind fitL)) [.sh (.int c), .sh (tS o), .sh (tS p), s3] = .ok (.lst ((tL4 o p).map tS)) := by
  simp (disch := first | decide | (simp only [List.length_append, List.length_cons, List.length_nil]; omega)) only [q_asN_a, q_aCons_a, q_aNil_a, q_d2_a, q_v1, q_v2, q_dC_a, q_bind_k, q_fit_p, q_addM, l_0, l_1, l_2, l_3, l_4, l_5, l_6, l_7, l_8, l_9, l_10, l_11, l_12, l_13, l_14, l_15, l_16, l_17, l_18, l_19, l_20, l_21, l_22, l_23, l_24, l_25, l_26, l_27, l_28, l_29, l_30, l_31, l_32, l_33, l_34, l_35, l_36, l_37, l_38, l_39, l_40, l_41, l_42, l_43, l_44, l_45, l_46, l_47, l_48, l_49, l_50, l_51, l_52, l_53, l_54]
  rfl
theorem tV5 {o p : Tk} (ho : o.length <= 100) (hp : p.length <= 100) (c : Int) (s3 : Sl) : (asN (fun ρ => ((aCons (d2 addD (d2 addD (dC (.str "[")) (dV 1)) (dC (.str "] < 1"))) (aCons (dC (.str "abs here < 1")) aNil)) ρ).bind fitL)) [.sh (.int c), .sh (tS o), .sh (tS p), s3] = .ok (.lst ((tL5 o p).map tS)) := by
  simp (disch := first | decide | (simp only [List.length_append, List.length_cons, List.length_nil]; omega)) only [q_asN_a, q_aCons_a, q_aNil_a, q_d2_a, q_v1, q_v2, q_dC_a, q_bind_k, q_fit_p, q_addM, l_0, l_1, l_2, l_3, l_4, l_5, l_6, l_7, l_8, l_9, l_10, l_11, l_12, l_13, l_14, l_15, l_16, l_17, l_18, l_19, l_20, l_21, l_22, l_23, l_24, l_25, l_26, l_27, l_28, l_29, l_30, l_31, l_32, l_33, l_34, l_35, l_36, l_37, l_38, l_39, l_40, l_41, l_42, l_43, l_44, l_45, l_46, l_47, l_48, l_49, l_50, l_51, l_52, l_53, l_54]
  rfl
theorem m_terms {o p : Tk} (ho : o.length <= 100) (hp : p.length <= 100) (c : Int) : ∃ x ∈ badT o p, finT (gl_bad_terms a (startD 4 [.int c, tS o, tS p])) = .ok (tS x) := by
  obtain ⟨x, hx, e⟩ := atI_ex (L := badT o p) (n := 20) rfl (by decide) c
  refine ⟨x, hx, ?_⟩
  show finT (gl_bad_terms a [.sh (.int c), .sh (tS o), .sh (tS p), .no]) = _
  unfold gl_bad_terms
  rw [set_first (tV0 ho hp c), set_app (Nat.le_of_ble_eq_true rfl) (Nat.le_of_ble_eq_true rfl) (tV1 ho hp c), set_app (Nat.le_of_ble_eq_true rfl) (Nat.le_of_ble_eq_true rfl) (tV2 ho hp c), set_app (Nat.le_of_ble_eq_true rfl) (Nat.le_of_ble_eq_true rfl) (tV3 ho hp c), set_app (Nat.le_of_ble_eq_true rfl) (Nat.le_of_ble_eq_true rfl) (tV4 ho hp c), set_app (Nat.le_of_ble_eq_true rfl) (Nat.le_of_ble_eq_true rfl) (tV5 ho hp c)]
  rw [q_sRet_a, q_d2_a, q_v3, q_bind_k, q_d2_a, q_v0, q_bind_k, q_dC_a, q_bind_k, q_mod_p (by decide), q_bind_k, q_ix_l]
  exact fin_ix e
noncomputable abbrev Fs (a : Ad) : List D -> R D := fun ds => finT (gl_sum a (startD 3 ds))
noncomputable abbrev Fn (a : Ad) : List D -> R D := fun ds => finT (gl_nots a (startD 3 ds))
theorem gb_0 (c : Int) : (sRet (dA mkT (aCons (d2 addD (dMt "str" joinD (dC (.str " + ")) (aCons (d2 mulLD (asN (fun ρ => ((aCons (dC (.str "here")) aNil) ρ).bind fitL)) (dC (.int 14))) aNil)) (dC (.str " < 1"))) (aCons (dA mkT (aCons (dC (.str "<")) (aCons (dA (Fs a) (aCons (dC (.int 13)) aNil)) (aCons (dV 1) aNil)))) aNil)))) [.sh (.int c), .sh oneD, .no, .no, .no] = .rt (.tup [tS gT0, gD0]) := by kernel_rfl
theorem gb_1 (c : Int) : (sRet (dA mkT (aCons (d2 addD (d2 mulLD (dC (.str "not ")) (dC (.int 27))) (dC (.str "here < 1"))) (aCons (dA (Fn a) (aCons (dC (.int 27)) aNil)) aNil)))) [.sh (.int c), .sh oneD, .no, .no, .no] = .rt (.tup [tS gT1, gD1]) := by kernel_rfl
theorem gb_2 (c : Int) : (sRet (dA mkT (aCons (d2 addD (d2 addD (d2 addD (d2 mulLD (dC (.str "(")) (dC (.int 16))) (dC (.str "here"))) (d2 mulLD (dC (.str ")")) (dC (.int 16)))) (dC (.str "<1"))) (aCons (dA mkT (aCons (dC (.str "<")) (aCons (dA mkT (aCons (dC (.str "here")) aNil)) (aCons (dV 1) aNil)))) aNil)))) [.sh (.int c), .sh oneD, .no, .no, .no] = .rt (.tup [tS gT2, gD2]) := by kernel_rfl
theorem gb_3 (c : Int) : (sRet (dA mkT (aCons (d2 addD (d2 addD (d2 mulLD (dC (.str "[")) (dC (.int 16))) (dC (.str "here < 1"))) (d2 mulLD (dC (.str "]")) (dC (.int 16)))) (aCons (dA mkT (aCons (dC (.str "<")) (aCons (dA mkT (aCons (dC (.str "here")) aNil)) (aCons (dV 1) aNil)))) aNil)))) [.sh (.int c), .sh oneD, .no, .no, .no] = .rt (.tup [tS gT3, gD3]) := by kernel_rfl
theorem gb_4 (c : Int) : (sRet (dA mkT (aCons (dC (.str "999999999/999998 < here")) (aCons (dA mkT (aCons (dC (.str "<")) (aCons (dA mkT (aCons (dC (.str "num")) (aCons (dA mkT (aCons (dC (.int 999999999)) (aCons (dC (.int 999998)) aNil))) aNil))) (aCons (dA mkT (aCons (dC (.str "here")) aNil)) aNil)))) aNil)))) [.sh (.int c), .sh oneD, .no, .no, .no] = .rt (.tup [tS gT4, gD4]) := by kernel_rfl
theorem gb_5 (c : Int) : (sRet (dA mkT (aCons (dC (.str "at abcdefgh=back 9")) (aCons (dA mkT (aCons (dC (.str "=")) (aCons (dA mkT (aCons (dC (.str "at")) (aCons (dC (.str "abcdefgh")) aNil))) (aCons (dA mkT (aCons (dC (.str "back")) (aCons (dC (.int 9)) aNil))) aNil)))) aNil)))) [.sh (.int c), .sh oneD, .no, .no, .no] = .rt (.tup [tS gT5, gD5]) := by kernel_rfl
theorem gb_9 (c : Int) : (sSeq (sSet 2 (dA (Fn a) (aCons (dC (.int 3)) aNil)))
    (sSeq (sFor (fun ρ => ((aCons (dC (.int 6)) aNil) ρ).bind rng1) (gV 3) (b1l_good a (Fs a) (Fn a)))
    (sRet (dA mkT (aCons (d2 addD (dC (.str "not not not here<1")) (d2 mulLD (dC (.str " and here<1")) (dC (.int 6)))) (aCons (dV 2) aNil)))))) [.sh (.int c), .sh oneD, .no, .no, .no] = .rt (.tup [tS gT10, gD10]) := by kernel_rfl
theorem gb_8 (c : Int) : (sSeq (sSet 4 (dA mkT (aCons (dC (.str "+")) (aCons (dA mkT (aCons (dC (.str "-")) (aCons (dA mkT (aCons (dC (.str "times")) (aCons (dA mkT (aCons (dC (.int 2)) (aCons (dC (.int 1)) aNil))) (aCons (dA mkT (aCons (dC (.str "here")) aNil)) aNil)))) (aCons (dV 1) aNil)))) (aCons (dA mkT (aCons (dC (.str "back")) (aCons (dC (.int 1)) aNil))) aNil)))))
    (sRet (dA mkT (aCons (dC (.str "2*here-1+back 1<3*(here-1)")) (aCons (dA mkT (aCons (dC (.str "<")) (aCons (dV 4) (aCons (dA mkT (aCons (dC (.str "times")) (aCons (dA mkT (aCons (dC (.int 3)) (aCons (dC (.int 1)) aNil))) (aCons (dA mkT (aCons (dC (.str "-")) (aCons (dA mkT (aCons (dC (.str "here")) aNil)) (aCons (dV 1) aNil)))) aNil)))) aNil)))) aNil))))) [.sh (.int c), .sh oneD, .no, .no, .no] = .rt (.tup [tS gT9, gD9]) := by kernel_rfl
theorem gb_7 (c : Int) : (sRet (dA mkT (aCons (d2 addD (d2 addD (d2 addD (d2 addD (d2 addD (d2 mulLD (dC (.str "[")) (dC (.int 8))) (d2 mulLD (dC (.str "(")) (dC (.int 8)))) (dC (.str "here"))) (d2 mulLD (dC (.str ")")) (dC (.int 8)))) (dC (.str "<1"))) (d2 mulLD (dC (.str "]")) (dC (.int 8)))) (aCons (dA mkT (aCons (dC (.str "<")) (aCons (dA mkT (aCons (dC (.str "here")) aNil)) (aCons (dV 1) aNil)))) aNil)))) [.sh (.int c), .sh oneD, .no, .no, .no] = .rt (.tup [tS gT8, gD8]) := by kernel_rfl
theorem gb_6 (c : Int) : (sRet (dA mkT (aCons (d2 addD (dMt "str" joinD (dC (.str " + ")) (aCons (d2 mulLD (asN (fun ρ => ((aCons (dC (.str "((here))")) aNil) ρ).bind fitL)) (dC (.int 9))) aNil)) (dC (.str " < 1"))) (aCons (dA mkT (aCons (dC (.str "<")) (aCons (dA (Fs a) (aCons (dC (.int 8)) aNil)) (aCons (dV 1) aNil)))) aNil)))) [.sh (.int c), .sh oneD, .no, .no, .no] = .rt (.tup [tS gT6, gD6]) := by kernel_rfl
theorem gb_x (c : Int) : (sRet (dA mkT (aCons (dC (.str "not not[here<1]and here<1")) (aCons (dA mkT (aCons (dC (.str "and")) (aCons (dA (Fn a) (aCons (dC (.int 2)) aNil)) (aCons (dA (Fn a) (aCons (dC (.int 0)) aNil)) aNil)))) aNil)))) [.sh (.int c), .sh oneD, .no, .no, .no] = .rt (.tup [tS gT7, gD7]) := by kernel_rfl
theorem if_t {C : Ev -> R Bool} {B R' : Ev -> RT} {ρ : Ev} {d : D} (h : C ρ = .ok true) (hb : B ρ = .rt d) : sSeq (sIf C B sNil) R' ρ = .rt d := by
  rw [q_sSeq_a, q_sIf_a, h, q_toS_k, if_pos rfl, hb]; rfl
theorem if_f {C : Ev -> R Bool} {B R' : Ev -> RT} {ρ : Ev} (h : C ρ = .ok false) : sSeq (sIf C B sNil) R' ρ = R' ρ := by
  rw [q_sSeq_a, q_sIf_a, h, q_toS_k, if_neg (by simp)]; rfl
theorem ck {c : Int} {r : Ev} (k : Int) : (b1 tB (d2 eqSD (d2 modD (dV 0) (dC (.int 10))) (dC (.int k)))) (.sh (.int c) :: r) = .ok (decide (c % 10 = k)) := by
  rw [q_b1B_a, q_d2_a, q_d2_a, q_v0, q_bind_k, q_dC_a, q_bind_k, q_mod_p (by decide), q_bind_k, q_dC_a, q_bind_k, q_eq_i, q_bind_k, q_tB_b]
theorem ck6 {c : Int} {r : Ev} : (bAnd (b1 tB (d2 eqSD (d2 modD (dV 0) (dC (.int 10))) (dC (.int 6)))) (b1 tB (d2 eqSD (d2 modD (d2 fdivD (dV 0) (dC (.int 10))) (dC (.int 2))) (dC (.int 0))))) (.sh (.int c) :: r) = .ok (decide (c % 10 = 6) && decide (c / 10 % 2 = 0)) := by
  rw [q_bAnd_a, ck, q_bind_k]
  cases decide (c % 10 = 6) with
  | false => rfl
  | true =>
    rw [if_pos rfl, q_b1B_a, q_d2_a, q_d2_a, q_d2_a, q_v0, q_bind_k, q_dC_a, q_bind_k, q_fdiv_p (by decide) (by decide), q_bind_k, q_dC_a, q_bind_k, q_mod_p (by decide), q_bind_k, q_dC_a, q_bind_k, q_eq_i, q_bind_k, q_tB_b]
    rfl
theorem one_first {R' : Ev -> RT} {c : Int} : sSeq (sSet 1 (dA mkT (aCons (dC (.str "num")) (aCons (dA mkT (aCons (dC (.int 1)) (aCons (dC (.int 1)) aNil))) aNil)))) R' [.sh (.int c), .no, .no, .no, .no] = R' [.sh (.int c), .sh oneD, .no, .no, .no] := by
  rw [q_sSeq_a, q_sSet_a]
  rfl
theorem m_good (c : Int) : ∃ x ∈ goodsL, finT (gl_good a (Fs a) (Fn a) (startD 5 [.int c])) = .ok (.tup [tS x.1, x.2]) := by
  have hr : c % 10 = 0 \/ c % 10 = 1 \/ c % 10 = 2 \/ c % 10 = 3 \/ c % 10 = 4 \/ c % 10 = 5 \/ c % 10 = 6 \/ c % 10 = 7 \/ c % 10 = 8 \/ c % 10 = 9 := by omega
  show ∃ x ∈ goodsL, finT (gl_good a (Fs a) (Fn a) [.sh (.int c), .no, .no, .no, .no]) = _
  unfold gl_good
  rw [one_first]
  have n : ∀ {k r : Int}, c % 10 = r -> r ≠ k -> decide (c % 10 = k) = false := fun h e => decide_eq_false fun z => e (h.symm.trans z)
  have n6 : ∀ {r : Int}, c % 10 = r -> r ≠ 6 -> (decide (c % 10 = 6) && decide (c / 10 % 2 = 0)) = false := fun h e => by rw [n h e]; rfl
  rcases hr with h | h | h | h | h | h | h | h | h | h
  · refine ⟨_, (by unfold goodsL; exact .head _), ?_⟩
    rw [if_t (by rw [ck, decide_eq_true h]) (gb_0 c)]
    rfl
  · refine ⟨_, (by unfold goodsL; exact .tail _ (.head _)), ?_⟩
    iterate 1 rw [if_f (by rw [ck, n h (by decide)])]
    rw [if_t (by rw [ck, decide_eq_true h]) (gb_1 c)]
    rfl
  · refine ⟨_, (by unfold goodsL; exact .tail _ (.tail _ (.head _))), ?_⟩
    iterate 2 rw [if_f (by rw [ck, n h (by decide)])]
    rw [if_t (by rw [ck, decide_eq_true h]) (gb_2 c)]
    rfl
  · refine ⟨_, (by unfold goodsL; exact .tail _ (.tail _ (.tail _ (.head _)))), ?_⟩
    iterate 3 rw [if_f (by rw [ck, n h (by decide)])]
    rw [if_t (by rw [ck, decide_eq_true h]) (gb_3 c)]
    rfl
  · refine ⟨_, (by unfold goodsL; exact .tail _ (.tail _ (.tail _ (.tail _ (.head _))))), ?_⟩
    iterate 4 rw [if_f (by rw [ck, n h (by decide)])]
    rw [if_t (by rw [ck, decide_eq_true h]) (gb_4 c)]
    rfl
  · refine ⟨_, (by unfold goodsL; exact .tail _ (.tail _ (.tail _ (.tail _ (.tail _ (.head _)))))), ?_⟩
    iterate 5 rw [if_f (by rw [ck, n h (by decide)])]
    rw [if_t (by rw [ck, decide_eq_true h]) (gb_5 c)]
    rfl
  · have h2 : c / 10 % 2 = 0 \/ c / 10 % 2 = 1 := by omega
    rcases h2 with h2 | h2
    · refine ⟨_, (by unfold goodsL; exact .tail _ (.tail _ (.tail _ (.tail _ (.tail _ (.tail _ (.head _))))))), ?_⟩
      iterate 9 rw [if_f (by rw [ck, n h (by decide)])]
      rw [if_t (by rw [ck6, decide_eq_true h, decide_eq_true h2]; rfl) (gb_6 c)]
      rfl
    · refine ⟨_, (by unfold goodsL; exact .tail _ (.tail _ (.tail _ (.tail _ (.tail _ (.tail _ (.tail _ (.head _)))))))), ?_⟩
      iterate 9 rw [if_f (by rw [ck, n h (by decide)])]
      rw [if_f (by rw [ck6, decide_eq_true h, decide_eq_false (by omega)]; rfl), gb_x]
      rfl
  · refine ⟨_, (by unfold goodsL; exact .tail _ (.tail _ (.tail _ (.tail _ (.tail _ (.tail _ (.tail _ (.tail _ (.head _))))))))), ?_⟩
    iterate 8 rw [if_f (by rw [ck, n h (by decide)])]
    rw [if_t (by rw [ck, decide_eq_true h]) (gb_7 c)]
    rfl
  · refine ⟨_, (by unfold goodsL; exact .tail _ (.tail _ (.tail _ (.tail _ (.tail _ (.tail _ (.tail _ (.tail _ (.tail _ (.head _)))))))))), ?_⟩
    iterate 7 rw [if_f (by rw [ck, n h (by decide)])]
    rw [if_t (by rw [ck, decide_eq_true h]) (gb_8 c)]
    rfl
  · refine ⟨_, (by unfold goodsL; exact .tail _ (.tail _ (.tail _ (.tail _ (.tail _ (.tail _ (.tail _ (.tail _ (.tail _ (.tail _ (.head _))))))))))), ?_⟩
    iterate 6 rw [if_f (by rw [ck, n h (by decide)])]
    rw [if_t (by rw [ck, decide_eq_true h]) (gb_9 c)]
    rfl
end W34
namespace W34
open PySem L2 P2 WP WR TM T2 PySem.NumText
variable {a : Ad}
structure Px (a : Ad) : Prop where
  n : a.isx a.NoText (.ref a.NoText) = some true
  v : a.isx a.NoText (.type "ValueError") = some true
  w : a.isx a.NoText (.ref a.WeatherError) = some true
  f : a.isx a.NoText (.ref a.NoFraction) = some false
  r : a.isx a.NoText (.ref a.NoRow) = some false
  m : a.isx a.NoText (.ref a.TooMany) = some false
  t : a.isx a.NoText (.ref a.Twice) = some false
theorem m_ref (P : Px a) {Fr : List D -> R D} {z : Str} (h : Fr [.str z] = .ex a.NoText ["row"] [.int 1]) : finT (gl_refused a Fr (startD 4 [.str z])) = .ok (.bl true) := by
  have ea : ∀ s1 s2 s3, dAx Fr (aCons (dV 0) aNil) [.sh (.str z), s1, s2, s3] = .ex a.NoText ["row"] [.int 1] := fun _ _ _ => h
  have x : xfldD a.NoText "row" (.exc a.NoText ["row"] [.int 1]) = .ok (.int 1) := by
    show (if a.NoText = a.NoText then (match ([(("row" : Str), D.int 1)] : List (Str × D)).lookup ("row" : Str) with | some d => R.ok d | none => .bad) else .bad) = _
    rw [if_pos rfl]
    rfl
  have mt : mtX a.isx a.WeatherError a.NoText = true := by unfold mtX; rw [P.w]; rfl
  have i1 : isXD a.isx [.exc a.NoText ["row"] [.int 1], .ref a.NoText] = .ok (.bl true) := q_isXr P.n
  have i2 : isXD a.isx [.exc a.NoText ["row"] [.int 1], .ty "ValueError"] = .ok (.bl true) := q_isXt P.v
  have i3 : isXD a.isx [.exc a.NoText ["row"] [.int 1], .ref a.NoFraction] = .ok (.bl false) := q_isXr P.f
  have i4 : isXD a.isx [.exc a.NoText ["row"] [.int 1], .ref a.NoRow] = .ok (.bl false) := q_isXr P.r
  have i5 : isXD a.isx [.exc a.NoText ["row"] [.int 1], .ref a.TooMany] = .ok (.bl false) := q_isXr P.m
  have i6 : isXD a.isx [.exc a.NoText ["row"] [.int 1], .ref a.Twice] = .ok (.bl false) := q_isXr P.t
  unfold gl_refused
  generalize hta : sTryAs 2 (mtX a.isx a.WeatherError) (fun ρ => ((dAx Fr (aCons (dV 0) aNil)) ρ).bind fun _ => .ok ρ) (sSet 1 (dV 2)) = tf
  have ht : ∀ s1 s2 s3, tf [.sh (.str z), s1, s2, s3] = .nx [.sh (.str z), .sh (.exc a.NoText ["row"] [.int 1]), .no, s3] := fun s1 s2 s3 => by
    rw [← hta]
    unfold sTryAs
    simp only [ea, q_bind_x]
    rw [if_pos ⟨mt, Nat.le_of_ble_eq_true rfl⟩]
    rfl
  have ab : boolsD [.bl false, .bl false, .bl false] = some [false, false, false] := rfl
  have ac : [false, false, false].any id = false := rfl
  iterate 9 (walk_at "den"; try simp only [ht, i1, i2, i3, i4, i5, i6, x, ab, ac])
theorem q_rng1_p {j : Int} (h1 : 0 <= j) (h2 : j < 1000000) : rng1 [.int j] = .ok (rangeL 0 j.toNat) := by
  show (if -(2 ^ 62) <= j /\ j < 2 ^ 62 then R.ok (rangeL 0 j.toNat) else .bad) = _
  rw [if_pos (by omega)]
theorem atI_getD (ns : List Int) (k : Nat) (h : k < ns.length) : L2.atI (ns.map D.int) (k : Int) = some (.int (ns.getD k 0)) := by
  refine atI_nat ?_
  rw [List.getElem?_map, List.getElem?_eq_getElem h, List.getD_eq_getElem?_getD, List.getElem?_eq_getElem h]; rfl
theorem m_cell (ns : List Int) (k : Nat) : finT (gl_cell_at a (startD 2 [.lst (ns.map .int), .int k])) = .ok (.int (ns.getD k 0)) := by
  unfold gl_cell_at
  walk_at "den"
  rw [List.length_map]
  by_cases h : k < ns.length
  · rw [if_pos (decide_eq_true (by omega)), atI_getD ns k h]
    walk_at "den"
  · rw [if_neg (by simp; omega)]
    walk_at "den"
    rw [List.getD_eq_getElem?_getD, List.getElem?_eq_none (by omega)]; rfl
theorem len_rangeL (lo : Int) (n : Nat) : (rangeL lo n).length = n := by unfold rangeL; simp
theorem mem_rangeL {n : Nat} {d : D} (h : d ∈ rangeL 0 n) : ∃ i, i < n /\ d = .int ((i : Nat) : Int) := by
  unfold rangeL at h
  obtain ⟨k, hk, rfl⟩ := List.mem_map.mp h
  exact ⟨k, List.mem_range.mp hk, by rw [Int.zero_add]⟩
theorem al_one {F : List D -> R D} {ds : List D} {i : Nat} (hi : i < ds.length) (h : F [ds[i], ds[i]] = .ok (.bl true)) : dA F (aCons (d2 ixD (dV 2) (dV 0)) (aCons (d2 ixD (dV 1) (dV 0)) aNil)) [.sh (.int ((i : Nat) : Int)), .sh (.tup ds), .sh (.tup ds)] = .ok (.bl true) := by
  have e : ixD (.tup ds) (.int ((i : Nat) : Int)) = .ok ds[i] := by rw [q_ix_t, atI_nat (List.getElem?_eq_getElem hi)]
  rw [q_dA_a, q_aCons_a, q_d2_a, q_v2, q_bind_k, q_v0, q_bind_k, e, q_bind_k, q_aCons_a, q_d2_a, q_v1, q_bind_k, q_v0, q_bind_k, e, q_bind_k, q_aNil_a, q_bind_k, q_bind_k, q_bind_k]
  exact h
theorem al_hc {F : List D -> R D} {ds : List D} (h : ∀ e ∈ ds, F [e, e] = .ok (.bl true)) {n : Nat} (hn : n = ds.length) : compO (gV 0) (fun _ => .ok true) (dA F (aCons (d2 ixD (dV 2) (dV 0)) (aCons (d2 ixD (dV 1) (dV 0)) aNil))) [.no, .sh (.tup ds), .sh (.tup ds)] (rangeL 0 n) = some ((rangeL 0 n).map fun _ => .bl true) := by
  refine compO_map (fun d => [.sh d, .sh (.tup ds), .sh (.tup ds)]) (fun _ => .bl true) _ fun d hd => ⟨rfl, rfl, ?_⟩
  obtain ⟨i, hi, rfl⟩ := mem_rangeL hd
  exact al_one (hn ▸ hi) (h _ (List.getElem_mem _))
theorem al_l {ds : List D} {n : Nat} (hn : n = ds.length) (r1 : rng1 [.int ((n : Nat) : Int)] = .ok (rangeL 0 n)) : ((aCons (dA lenD (aCons (dV 1) aNil)) aNil) [.sh (.tup ds), .sh (.tup ds)]).bind rng1 = .ok (rangeL 0 n) := by
  subst hn
  rw [q_aCons_a, q_dA_a, q_aCons_a, q_v1, q_bind_k, q_aNil_a, q_bind_k, q_bind_k, q_len_t, q_bind_k, q_bind_k, q_bind_k]
  exact r1
theorem al_comp {F : List D -> R D} {ds R' L : List D} {fi : Ev -> R (List D)} {e : Ev -> R D} (hl : fi [.sh (.tup ds), .sh (.tup ds)] = .ok R') (lr : R'.length <= sizeLine) (hc : compO (gV 0) (fun _ => .ok true) e [.no, .sh (.tup ds), .sh (.tup ds)] R' = some L) :
    asN (dComp fi 1 [1, 0] (gV 0) (fun _ => .ok true) e) [.sh (.tup ds), .sh (.tup ds)] = .ok (.lst L) := by
  rw [q_asN_a, q_dComp_a, hl, q_bind_k, if_pos lr]
  show (ofO (compO (gV 0) (fun _ => .ok true) e [.no, .sh (.tup ds), .sh (.tup ds)] R')).bind _ = _
  rw [hc]
  rfl
theorem al_body {Q : Ev -> R D} {F : List D -> R D} {ds L : List D} {bs : List Bool} (e1 : Q [.sh (.tup ds), .sh (.tup ds)] = .ok (.lst L)) (bl : boolsD L = some bs) (al : bs.all id = true) (R' : Ev -> RT) :
    finT (sSeq (sIf (b1 tT (dA (isXD a.isx) (aCons (dV 1) (aCons (dC (.ty "tuple")) aNil)))) (sSeq (sIf (bOr (bNot (b1 tT (dA (isXD a.isx) (aCons (dV 0) (aCons (dC (.ty "tuple")) aNil))))) (b1 tB (d2 neSD (dA lenD (aCons (dV 0) aNil)) (dA lenD (aCons (dV 1) aNil))))) (sRet (dC (.bl false))) sNil)
      (sRet (dA allD (aCons Q aNil)))) sNil) R' [.sh (.tup ds), .sh (.tup ds)]) = .ok (.bl true) := by
  iterate 6 (walk_at "den"; try simp only [e1, bl, al])
theorem m_alike_t {F : List D -> R D} {ds : List D} (hl : ds.length <= 1000) (h : ∀ e ∈ ds, F [e, e] = .ok (.bl true)) : finT (gl_alike a F (startD 2 [.tup ds, .tup ds])) = .ok (.bl true) := by
  generalize hn : ds.length = n at hl
  have r1 : rng1 [.int ((n : Nat) : Int)] = .ok (rangeL 0 n) := by
    have := q_rng1_p (j := ((n : Nat) : Int)) (by omega) (by omega)
    rw [Int.toNat_natCast] at this
    exact this
  have lr : (rangeL 0 n).length <= sizeLine := by rw [len_rangeL]; exact size_of (by omega)
  have e1 := al_comp (F := F) (fi := fun ρ => ((aCons (dA lenD (aCons (dV 1) aNil)) aNil) ρ).bind rng1) (al_l hn.symm r1) lr (al_hc h hn.symm)
  have bl : boolsD ((rangeL 0 n).map fun _ => D.bl true) = some ((rangeL 0 n).map fun _ => true) := boolsD_map (fun _ => true) _
  have al : ((rangeL 0 n).map fun _ => true).all id = true := by simp
  exact al_body (F := F) e1 bl al _
theorem m_alike_s {F : List D -> R D} {z : Str} : finT (gl_alike a F (startD 2 [.str z, .str z])) = .ok (.bl true) := by
  have i0 : isXD a.isx [.str z, .ty "tuple"] = .ok (.bl false) := rfl
  unfold gl_alike
  iterate 6 (walk_at "den"; try simp only [i0])
theorem m_alike_i {F : List D -> R D} {i : Int} : finT (gl_alike a F (startD 2 [.int i, .int i])) = .ok (.bl true) := by
  have i0 : isXD a.isx [.int i, .ty "tuple"] = .ok (.bl false) := rfl
  have i1 : isXD a.isx [.int i, .ty "str"] = .ok (.bl false) := rfl
  have i2 : isXD a.isx [.int i, .ty "bool"] = .ok (.bl false) := rfl
  unfold gl_alike
  iterate 6 (walk_at "den"; try simp only [i0, i1, i2])
theorem m_alike : ∀ (n : Nat) (d : D), plB n d = true -> fixD (fun F ds => finT (gl_alike a F (startD 2 ds))) n [d, d] = .ok (.bl true)
  | 0, _, h => by cases h
  | n + 1, .tup ds, h => by
    simp only [plB, Bool.and_eq_true, List.all_eq_true] at h
    exact m_alike_t (Nat.le_of_ble_eq_true h.1) fun e he => m_alike n e (h.2 e he)
  | n + 1, .str z, _ => m_alike_s (a := a) (F := fixD (fun F ds => finT (gl_alike a F (startD 2 ds))) n)
  | n + 1, .int i, _ => m_alike_i (a := a) (F := fixD (fun F ds => finT (gl_alike a F (startD 2 ds))) n)
  | n + 1, .non, h => by cases h
  | n + 1, .bl _, h => by cases h
  | n + 1, .ty _, h => by cases h
  | n + 1, .ref _, h => by cases h
  | n + 1, .lst _, h => by cases h
  | n + 1, .exc _ _ _, h => by cases h
structure Fz (a : Ad) (Fc Fsi Fbw Fbt Fco Fwi Fgo Frf Frc Fal : List D -> R D) : Prop where
  c : ∀ (ns : List Int) (k : Nat), Fc [.lst (ns.map .int), .int k] = .ok (.int (ns.getD k 0))
  si : ∀ c : Int, ∃ t ∈ onesL, Fsi [.int c] = .ok (tS t)
  bw : ∀ (o p : Tk) (c : Int), o.length <= 100 -> p.length <= 100 -> ∃ x ∈ badW o p, Fbw [.int c, tS o, tS p] = .ok (tS x)
  bt : ∀ (o p : Tk) (c : Int), o.length <= 100 -> p.length <= 100 -> ∃ x ∈ badT o p, Fbt [.int c, tS o, tS p] = .ok (tS x)
  co : ∀ c : Int, ∃ t ∈ compL, Fco [.int c] = .ok (tS t)
  wi : ∀ (t g : Tk) (c : Int), t.length <= 1000 -> g.length <= 1000 -> ∃ x ∈ ctxL t g, Fwi [.int c, tS t, tS g] = .ok (tS x)
  go : ∀ c : Int, ∃ x ∈ goodsL, Fgo [.int c] = .ok (.tup [tS x.1, x.2])
  rf : ∀ x : Tk, refd x = true -> Frf [tS x] = .ok (.bl true)
  rc : ∀ x ∈ goodsL, Frc [tS x.1] = .ok x.2
  al : ∀ x ∈ goodsL, Fal [x.2, x.2] = .ok (.bl true)
theorem len_ones : ∀ t ∈ onesL, t.length <= 100 := by decide
theorem len_comp : ∀ t ∈ compL, t.length <= 1000 := by decide
theorem for_step {A B : Ev -> R D} {ga : D -> Ev -> Option Ev} {bb : Ev -> RT} {ρ ρ' : Ev} {xs ys : List D} (h1 : A ρ = .ok (.lst xs)) (h2 : B ρ = .ok (.lst ys)) (hx : xs.length <= 1000) (hy : ys.length <= 1000) (e : forD ga bb (xs ++ ys) ρ = .nx ρ') : sFor (fun ρ => ((d2 addD A B) ρ).bind asI) ga bb ρ = .nx ρ' := by
  have h : ((d2 addD A B) ρ).bind asI = .ok (xs ++ ys) := by
    rw [q_d2_a, h1, q_bind_k, h2, q_bind_k, q_add_lp hx hy, q_bind_k, q_asI_l]
  rw [q_sFor_a, h, q_toS_k]
  exact e
theorem cut_map2 {α : Type} (f : α -> D) (ns : List α) (lo hi : Option Int) : ∃ ms : List α, cutD (ns.map f) lo hi = ms.map f /\ ms.length <= ns.length := by
  unfold cutD
  rw [List.length_map, ← List.map_drop, ← List.map_take]
  refine ⟨_, rfl, ?_⟩
  rw [List.length_take, List.length_drop]
  omega
section
variable {Fc Fsi Fbw Fbt Fco Fwi Fgo Frf Frc Fal : List D -> R D} (Z : Fz a Fc Fsi Fbw Fbt Fco Fwi Fgo Frf Frc Fal)
include Z
theorem m_turn {o p : Tk} (ho : o ∈ onesL) (hp : p ∈ onesL) (c : Int) (x0 s4 s5 s6 : Sl) : ∃ t4 t5 t6, b1_law a Fc Fsi Fbw Fbt Fco Fwi Fgo Frf Frc Fal [x0, .sh (tS o), .sh (tS p), .sh (.int c), s4, s5, s6] = .nx [x0, .sh (tS o), .sh (tS p), .sh (.int c), t4, t5, t6] := by
  obtain ⟨x1, hx1, e1⟩ := Z.bw o p (c / 3) (len_ones o ho) (len_ones p hp)
  obtain ⟨x2, hx2, e2⟩ := Z.bt o p (c / 3) (len_ones o ho) (len_ones p hp)
  obtain ⟨g, hg, e3⟩ := Z.co (c / 900)
  obtain ⟨w, hw, e4⟩ := Z.go (c / 7)
  have e5 := Z.rc w hw
  have e6 := Z.al w hw
  have go : ∀ x : Tk, okQ x = true -> ∃ y, Fwi [.int (c / 150), tS x, tS g] = .ok (tS y) /\ Frf [tS y] = .ok (.bl true) := fun x hx => by
    obtain ⟨y, hy, e⟩ := Z.wi x g (c / 150) (Nat.le_trans (q_len hx) (by decide)) (len_comp g hg)
    exact ⟨y, e, Z.rf y (q_ctx hx hg hy)⟩
  have j0 : ixD (.tup [tS w.1, w.2]) (.int 0) = .ok (tS w.1) := rfl
  have j1 : ixD (.tup [tS w.1, w.2]) (.int 1) = .ok w.2 := rfl
  generalize D.tup [tS w.1, w.2] = gw at e4 j0 j1
  unfold b1_law
  by_cases h : c % 3 = 1
  · obtain ⟨y, e7, e8⟩ := go x2 (q_badT ho hp hx2)
    refine ⟨.sh (tS x2), .sh (tS y), .sh gw, ?_⟩
    iterate 12 (walk_at "den"; try simp only [e1, e2, e3, e4, e5, e6, e7, e8, j0, j1, h])
  · obtain ⟨y, e7, e8⟩ := go x1 (q_badW ho hp hx1)
    refine ⟨.sh (tS x1), .sh (tS y), .sh gw, ?_⟩
    iterate 12 (walk_at "den"; try simp only [e1, e2, e3, e4, e5, e6, e7, e8, j0, j1, h])
theorem m_loop {o p : Tk} (ho : o ∈ onesL) (hp : p ∈ onesL) (x0 : Sl) : ∀ (cs : List Int) (s3 s4 s5 s6 : Sl), ∃ t3 t4 t5 t6, forD (gV 3) (b1_law a Fc Fsi Fbw Fbt Fco Fwi Fgo Frf Frc Fal) (cs.map D.int) [x0, .sh (tS o), .sh (tS p), s3, s4, s5, s6] = .nx [x0, .sh (tS o), .sh (tS p), t3, t4, t5, t6]
  | [], s3, s4, s5, s6 => ⟨s3, s4, s5, s6, rfl⟩
  | c :: cs, s3, s4, s5, s6 => by
    obtain ⟨t4, t5, t6, e⟩ := m_turn Z ho hp c x0 s4 s5 s6
    obtain ⟨u3, u4, u5, u6, f⟩ := m_loop ho hp x0 cs (.sh (.int c)) t4 t5 t6
    refine ⟨u3, u4, u5, u6, ?_⟩
    rw [List.map_cons, q_forD_c]
    show turnT (b1_law a Fc Fsi Fbw Fbt Fco Fwi Fgo Frf Frc Fal [x0, .sh (tS o), .sh (tS p), .sh (.int c), s4, s5, s6]) _ = _
    rw [e]
    exact f
theorem m_law (ns : List Int) (hn : ns.length <= 63) : finT (g_law a Fc Fsi Fbw Fbt Fco Fwi Fgo Frf Frc Fal (startD 7 [.lst (ns.map .int)])) = .ok (.bl true) := by
  have c0 : Fc [.lst (ns.map .int), .int 0] = .ok (.int (ns.getD 0 0)) := Z.c ns 0
  have c1 : Fc [.lst (ns.map .int), .int 1] = .ok (.int (ns.getD 1 0)) := Z.c ns 1
  have c2 : Fc [.lst (ns.map .int), .int 2] = .ok (.int (ns.getD 2 0)) := Z.c ns 2
  obtain ⟨ms, hm, lm⟩ := cut_map2 D.int ns (some 3) (some 23)
  obtain ⟨o, ho, e1⟩ := Z.si (ns.getD 0 0)
  obtain ⟨p, hp, e2⟩ := Z.si (ns.getD 1 0)
  generalize ns.getD 0 0 = n0 at *
  generalize ns.getD 1 0 = n1 at *
  generalize ns.getD 2 0 = n2 at *
  obtain ⟨t3, t4, t5, t6, f⟩ := m_loop Z ho hp (.sh (.lst (ns.map .int))) (n2 :: ms) .no .no .no .no
  generalize ns.map D.int = S at *
  unfold g_law
  generalize hb : b1_law a Fc Fsi Fbw Fbt Fco Fwi Fgo Frf Frc Fal = bb at *
  generalize hsf : sFor (fun ρ => ((d2 addD (asN (fun ρ => ((aCons (dA Fc (aCons (dV 0) (aCons (dC (.int 2)) aNil))) aNil) ρ).bind fitL)) (dSl slWD (dV 0) (fun ρ => ((dC (.int 3)) ρ).bind pI) (fun ρ => ((dC (.int 23)) ρ).bind pI))) ρ).bind asI) (gV 3) bb = sf
  have g : sf [.sh (.lst S), .sh (tS o), .sh (tS p), .no, .no, .no, .no] = .nx [.sh (.lst S), .sh (tS o), .sh (tS p), t3, t4, t5, t6] := by
    rw [← hsf]
    refine for_step (xs := [.int n2]) (ys := ms.map D.int) ?_ ?_ (by simp) (by rw [List.length_map]; omega) f
    · iterate 3 (walk_at "den"; try simp only [c2])
    · iterate 3 (walk_at "den"; try simp only [hm])
  iterate 6 (walk_at "den"; try simp only [c0, c1, e1, e2, g])
end
end W34
namespace W34
open PySem L2 P2 WP WR TM T2 PySem.NumText
noncomputable abbrev s_init_row : Stmt := inClass (at_ 3) 0
theorem sc_init_row : FnScope ["self", "row"] ["self", "row"] (defScope s_init_row) := ⟨rfl, rfl, rfl, by decide +kernel, rfl, by decide +kernel, by decide +kernel⟩
noncomputable abbrev fo (x q : Str) (st : Stmt) (dV kV doc pm : Value) (an : Option Addr) (cdv ct : Value) : FuncData := W.fnOf x q (defArgs st) (defBody st) (defScope st) dV kV doc pm an cdv ct
noncomputable def spLaw (K : W.Frag) : Sp := fun vs H Q E => ∃ (al : Addr -> Prop) (ns : List Int), vs.length = 1 /\ (∀ a, H a = none -> al a) /\ ns.length <= 63 /\ Reps K al H vs [.lst (ns.map D.int)] /\ TbOk K H /\ ∀ H', Same K H H' -> Q (.bl true) H'
theorem reps_ints {K : W.Frag} {al : Addr -> Prop} {H : Hp} : ∀ ns : List Int, Reps K al H (ns.map V.int) (ns.map D.int)
  | [] => .nil
  | _ :: ns => .cons (.int _) (reps_ints ns)
theorem spLaw_of {K : W.Frag} {H : Hp} {a : Addr} {ns : List Int} (hl : ns.length <= 63) (tt : TbOk K H) (r : Rep K (fun _ => True) H (.ref a) (.lst (ns.map D.int))) : spLaw K [.ref a] H (fun v _ => v = .bl true) fun _ _ _ => False :=
  ⟨fun _ => True, ns, rfl, fun _ _ => trivial, hl, .cons r .nil, tt, fun _ _ => rfl⟩
noncomputable def isF (K : W.Frag) (cs : List Addr) (c : Addr) (u : Value) : Option Bool := if c ∈ cs then W.kitOne K (.ref c) u else none
theorem isF_ok {K : W.Frag} {cs : List Addr} (h : ∀ c ∈ cs, YCls K c) : IsOk K (isF K cs) := fun c u b e => by
  unfold isF at e
  split at e
  · rename_i z; exact ⟨h c z, e⟩
  · cases e
theorem isF_in {K : W.Frag} {cs : List Addr} {c : Addr} {u : Value} {b : Option Bool} (h : W.kitOne K (.ref c) u = b) (hc : c ∈ cs) : isF K cs c u = b := by unfold isF; rw [if_pos hc]; exact h
section
variable (a : Ad)
noncomputable abbrev M_split_row : List D -> R D := fun ds => finT (g_split_row a (startD 2 ds))
noncomputable abbrev Mt___init : List Z -> Sto -> RX Z := fun zs S => finZ (gt___init a (M_split_row a) S.length (startZ 2 zs) S)
noncomputable abbrev Mt_ahead : List Z -> Sto -> RX Z := fun zs S => finZ (gt_ahead a S.length (startZ 3 zs) S)
noncomputable abbrev Mt_take : List Z -> Sto -> RX Z := fun zs S => finZ (gt_take a (Mt_ahead a) S.length (startZ 2 zs) S)
noncomputable abbrev Mt_expect : List Z -> Sto -> RX Z := fun zs S => finZ (gt_expect a (Mt_take a) S.length (startZ 2 zs) S)
noncomputable abbrev Mt_expect_end : List Z -> Sto -> RX Z := fun zs S => finZ (gt_expect_end a (Mt_ahead a) S.length (startZ 1 zs) S)
noncomputable abbrev Mt_begin_part : List Z -> Sto -> RX Z := fun zs S => finZ (gt_begin_part a S.length (startZ 1 zs) S)
noncomputable abbrev Mt_enter : List Z -> Sto -> RX Z := fun zs S => finZ (gt_enter a (Mt_expect a) S.length (startZ 2 zs) S)
noncomputable abbrev Mt_leave : List Z -> Sto -> RX Z := fun zs S => finZ (gt_leave a (Mt_expect a) S.length (startZ 2 zs) S)
noncomputable abbrev M_only_figures : List D -> R D := fun ds => finT (g_only_figures a (startD 1 ds))
noncomputable abbrev M_is_number : List D -> R D := fun ds => finT (g_is_number a (M_only_figures a) (startD 2 ds))
noncomputable abbrev Mr_whole : List D -> R D := fun ds => finT (gr_whole a (M_is_number a) (startD 4 ds))
noncomputable abbrev M_common_divisor : List D -> R D := fun ds => finT (g_common_divisor a (startD 3 ds))
noncomputable abbrev M_is_whole : List D -> R D := fun ds => finT (g_is_whole a (startD 1 ds))
noncomputable abbrev M_fraction : List D -> R D := fun ds => finT (g_fraction a (M_is_whole a) (M_common_divisor a) (startD 3 ds))
noncomputable abbrev M_show_fraction : List D -> R D := fun ds => finT (g_show_fraction a (startD 3 ds))
noncomputable abbrev Mr_fraction : List D -> R D := fun ds => finT (gr_fraction a (M_is_number a) (M_fraction a) (M_show_fraction a) (startD 6 ds))
noncomputable abbrev Mr_small_fraction : List D -> R D := fun ds => finT (gr_small_fraction a (Mr_fraction a) (startD 2 ds))
noncomputable abbrev M_is_word : List D -> R D := fun ds => finT (g_is_word a (startD 1 ds))
noncomputable abbrev Mr_word : List D -> R D := fun ds => finT (gr_word a (M_is_word a) (startD 1 ds))
noncomputable def fam0 : Nat -> (List Z -> Sto -> RX Z) × (List Z -> Sto -> RX Z) × (List Z -> Sto -> RX Z) × (List Z -> Sto -> RX Z)
  | 0 => (fun _ _ => .bad, fun _ _ => .bad, fun _ _ => .bad, fun _ _ => .bad)
  | n + 1 => (fun zs S => finZ (gr_sum a (fam0 n).2.1 (Mt_ahead a) (Mt_take a) (Mt_begin_part a) S.length (startZ 3 zs) S), fun zs S => finZ (gr_product a (Mr_small_fraction a) (Mt_ahead a) (fam0 n).2.2.1 (Mt_take a) (Mt_expect a) (Mt_begin_part a) S.length (startZ 2 zs) S), fun zs S => finZ (gr_single a (Mr_whole a) (Mr_word a) (Mr_small_fraction a) (Mt_ahead a) (fam0 n).2.2.2 (Mt_begin_part a) (Mt_take a) S.length (startZ 2 zs) S), fun zs S => finZ (gr_bracketed a (Mt_enter a) (fam0 n).1 (Mt_leave a) S.length (startZ 2 zs) S))
noncomputable abbrev Mr_sum : List Z -> Sto -> RX Z := (fam0 a 75).1
noncomputable abbrev Mr_comparison : List Z -> Sto -> RX Z := fun zs S => finZ (gr_comparison a (Mt_begin_part a) (Mr_sum a) (Mt_take a) S.length (startZ 3 zs) S)
noncomputable def fam1 : Nat -> (List Z -> Sto -> RX Z) × (List Z -> Sto -> RX Z) × (List Z -> Sto -> RX Z)
  | 0 => (fun _ _ => .bad, fun _ _ => .bad, fun _ _ => .bad)
  | n + 1 => (fun zs S => finZ (gr_or a (fam1 n).2.1 (Mt_ahead a) (Mt_expect a) (Mt_begin_part a) S.length (startZ 2 zs) S), fun zs S => finZ (gr_and a (fam1 n).2.2 (Mt_ahead a) (Mt_expect a) (Mt_begin_part a) S.length (startZ 2 zs) S), fun zs S => finZ (gr_not a (Mt_ahead a) (Mt_expect a) (Mt_begin_part a) (fam1 n).2.2 (Mt_enter a) (fam1 n).1 (Mt_leave a) (Mr_comparison a) S.length (startZ 2 zs) S))
noncomputable abbrev Mr_or : List Z -> Sto -> RX Z := (fam1 a 85).1
noncomputable abbrev Mr_to_end : List Z -> Sto -> RX Z := fun zs S => finZ (gr_to_end a (Mr_or a) (Mt_expect_end a) S.length (startZ 2 zs) S)
noncomputable abbrev Yr_condition : List Z -> Sto -> RX Z := fun zs S => finZ (gr_condition a (Mt___init a) (Mr_to_end a) S.length (startZ 1 zs) S)
noncomputable abbrev Mr_condition : List D -> R D := fun ds => clo (Yr_condition a (ds.map .d) [])
noncomputable abbrev Ml_cell_at : List D -> R D := fun ds => finT (gl_cell_at a (startD 2 ds))
noncomputable abbrev Ml_single : List D -> R D := fun ds => finT (gl_single a (startD 2 ds))
noncomputable abbrev Ml_compared : List D -> R D := fun ds => finT (gl_compared a (startD 2 ds))
noncomputable abbrev Ml_bad_terms : List D -> R D := fun ds => finT (gl_bad_terms a (startD 4 ds))
noncomputable abbrev Ml_bad_words : List D -> R D := fun ds => finT (gl_bad_words a (startD 4 ds))
noncomputable abbrev Ml_within : List D -> R D := fun ds => finT (gl_within a (startD 4 ds))
noncomputable abbrev Ml_sum : List D -> R D := fun ds => finT (gl_sum a (startD 3 ds))
noncomputable abbrev Ml_nots : List D -> R D := fun ds => finT (gl_nots a (startD 3 ds))
noncomputable abbrev Ml_good : List D -> R D := fun ds => finT (gl_good a (Ml_sum a) (Ml_nots a) (startD 5 ds))
noncomputable abbrev Rl_alike (Fs : List D -> R D) : List D -> R D := fun ds => finT (gl_alike a Fs (startD 2 ds))
noncomputable abbrev Ml_alike : List D -> R D := fixD (Rl_alike a) 60
noncomputable abbrev Ml_refused : List D -> R D := fun ds => finT (gl_refused a (Mr_condition a) (startD 4 ds))
theorem numM (z : Str) (k : Nat) (hz : z.length <= 1000000) : M_is_number a [.str z, .int k] = .ok (.bl (numB (cds z) k)) := m_isnum (fun z hz => m_only z hz) z k hz
theorem rdF (z : Str) (hz : z.length <= 1000) : Mr_fraction a [.str z] = outF a (T2.readF (cds z)) :=
  m_readF (fun z k hz => numM a z k hz) (fun t b hb h => m_frac (fun i => m_whole i) (fun x y hx hy h => m_gcd x y hx hy h) t b hb h) (fun t b hb h1 h2 => m_showF t b hb h1 h2) z hz
theorem smM (t : Tk) (ht : t.length <= 1000) : Mr_small_fraction a [tS t] = outF a (smallO t) := m_small (fun z hz => rdF a z hz) t ht
theorem whM (t : Tk) (ht : t.length <= 1000) : Mr_whole a [tS t, .int 1, .int 9] = outN a (wholeO t 1 9) := by
  have := m_rwhole (a := a) (fun z k hz => numM a z k hz) (mkS t) 1 9 (by rw [len_mk]; omega) (by decide)
  rw [cds_mk] at this
  exact this
theorem woM (t : Tk) (ht : t.length <= 1000) : Mr_word a [tS t] = outW a (mkS t) := m_rword (fun z hz => m_word z hz) (mkS t) (by rw [len_mk]; omega)
theorem fam0M {T : List Tk} (O : TOk T) (hl : ∀ t ∈ T, t.length <= 1000) : ∀ n : Nat, Sim a T (fam0 a n).1 (f0 n).su /\ Sim a T (fam0 a n).2.1 (f0 n).pr /\ Sim a T (fam0 a n).2.2.1 (f0 n).sg /\ Sim a T (fam0 a n).2.2.2 (f0 n).br := by
  intro n
  induction n with
  | zero => exact ⟨fun _ _ _ => trivial, fun _ _ _ => trivial, fun _ _ _ => trivial, fun _ _ _ => trivial⟩
  | succ n ih =>
    obtain ⟨h1, h2, h3, h4⟩ := ih
    exact ⟨s_sum O h2, s_pr O (fun t ht => smM a t (hl t ht)) h3, s_sg O (fun t ht => whM a t (hl t ht)) (fun t ht => woM a t (hl t ht)) (fun t ht => smM a t (hl t ht)) h4, s_brk O h1⟩
theorem fam1M {T : List Tk} (O : TOk T) (hl : ∀ t ∈ T, t.length <= 1000) : ∀ n : Nat, Sim a T (fam1 a n).1 (f1 n).or /\ Sim a T (fam1 a n).2.1 (f1 n).and /\ Sim a T (fam1 a n).2.2 (f1 n).not := by
  intro n
  induction n with
  | zero => exact ⟨fun _ _ _ => trivial, fun _ _ _ => trivial, fun _ _ _ => trivial⟩
  | succ n ih =>
    obtain ⟨h1, h2, h3⟩ := ih
    exact ⟨s_or O h2, s_and O h3, s_not O h3 h1 (s_cmp O (fam0M a O hl 75).1)⟩
theorem condM (cs : List Nat) (h1 : cs.length <= 330) (h2 : ∀ c ∈ cs, c <= 127) : outC a (parse cs) (Mr_condition a [tS cs]) := by
  obtain ⟨O, hl⟩ := tok_ok h1 h2
  exact m_cond (a := a) (T := tokL cs) (m_split cs h1) (s_end O (fam1M a O hl 85).1)
theorem fzM (P : Px a) : Fz a (Ml_cell_at a) (Ml_single a) (Ml_bad_words a) (Ml_bad_terms a) (Ml_compared a) (Ml_within a) (Ml_good a) (Ml_refused a) (Mr_condition a) (Ml_alike a) where
  c := fun ns k => m_cell ns k
  si := fun c => m_single c
  bw := fun o p c ho hp => m_words ho hp c
  bt := fun o p c ho hp => m_terms ho hp c
  co := fun c => m_compared c
  wi := fun t g c ht hg => m_within ht hg c
  go := fun c => m_good c
  rf := fun x h => by
    unfold refd at h
    simp only [Bool.and_eq_true, List.all_eq_true] at h
    obtain ⟨⟨l1, l2⟩, h⟩ := h
    have q := condM a x (Nat.le_of_ble_eq_true l1) fun c hc => Nat.le_of_ble_eq_true (l2 c hc)
    cases e : parse x with
    | ok d r k b => rw [e] at h; cases h
    | bad => rw [e] at h; cases h
    | no => rw [e] at q; exact m_ref P q
  rc := fun x hx => by
    obtain ⟨h1, _, l1, l2⟩ := goods_ok hx
    have q := condM a x.1 l1 fun c hc => Nat.le_of_ble_eq_true (List.all_eq_true.mp l2 c hc)
    cases e : parse x.1 with
    | ok d r k b => rw [e] at h1 q; cases h1; exact q
    | bad => rw [e] at h1; cases h1
    | no => rw [e] at h1; cases h1
  al := fun x hx => m_alike 60 x.2 (goods_ok hx).2.1
end
theorem all_mk {l : W.OpenLaw} {w : World} {K : W.Frag} {h : Heap} {mg : Str -> Option Value} {fa : Addr} {f1 f2 f3 f4 f5 f6 f7 f8 f9 f10 f11 f12 f13 f14 f15 f16 f17 f18 f19 f20 f21 f22 f23 f24 f25 f26 f27 f28 f29 f30 f31 f32 f33 f34 f35 f36 f37 f38 f39 f40 f41 f42 C_WeatherError C_NoFraction C_NoText C_Twice C_TooMany C_NoRow C_Tokens fI_row at_KEY_WORDS : Addr} (X : K.In h) (G : h.Ns mainGlobals mg) (hfa : mg "law" = some (.ref fa))
    {od1 an1 od2 an2 od3 an3 od4 an4 od5 an5 od6 an6 od7 an7 od8 an8 od9 an9 od10 an10 od11 an11 od12 an12 od13 an13 od14 an14 od15 an15 od16 an16 od17 an17 od18 an18 od19 an19 od20 an20 od21 an21 od22 an22 od23 an23 od24 an24 od25 an25 od26 an26 od27 an27 od28 an28 od29 an29 od30 an30 od31 an31 od32 an32 od33 an33 od34 an34 od35 an35 od36 an36 od37 an37 od38 an38 od39 an39 od40 an40 od41 an41 od42 an42 odI_row anI_row : Option Addr} {sl1 sl2 sl3 sl4 sl5 sl6 sl7 sl8 sl9 sl10 sl11 sl12 sl13 sl14 sl15 sl16 sl17 sl18 sl19 sl20 sl21 sl22 sl23 sl24 sl25 sl26 sl27 sl28 sl29 sl30 sl31 sl32 sl33 sl34 sl35 sl36 sl37 sl38 sl39 sl40 sl41 sl42 slI_row : Array (Option Value)} {oc1 kV1 dc1 pm1 cd1 ct1 oc2 kV2 dc2 pm2 cd2 ct2 oc3 kV3 dc3 pm3 cd3 ct3 oc4 kV4 dc4 pm4 cd4 ct4 oc5 kV5 dc5 pm5 cd5 ct5 oc6 kV6 dc6 pm6 cd6 ct6 oc7 kV7 dc7 pm7 cd7 ct7 oc8 kV8 dc8 pm8 cd8 ct8 oc9 kV9 dc9 pm9 cd9 ct9 oc10 kV10 dc10 pm10 cd10 ct10 oc11 kV11 dc11 pm11 cd11 ct11 oc12 kV12 dc12 pm12 cd12 ct12 oc13 kV13 dc13 pm13 cd13 ct13 oc14 kV14 dc14 pm14 cd14 ct14 oc15 kV15 dc15 pm15 cd15 ct15 oc16 kV16 dc16 pm16 cd16 ct16 oc17 kV17 dc17 pm17 cd17 ct17 oc18 kV18 dc18 pm18 cd18 ct18 oc19 kV19 dc19 pm19 cd19 ct19 oc20 kV20 dc20 pm20 cd20 ct20 oc21 kV21 dc21 pm21 cd21 ct21 oc22 kV22 dc22 pm22 cd22 ct22 oc23 kV23 dc23 pm23 cd23 ct23 oc24 kV24 dc24 pm24 cd24 ct24 oc25 kV25 dc25 pm25 cd25 ct25 oc26 kV26 dc26 pm26 cd26 ct26 oc27 kV27 dc27 pm27 cd27 ct27 oc28 kV28 dc28 pm28 cd28 ct28 oc29 kV29 dc29 pm29 cd29 ct29 oc30 kV30 dc30 pm30 cd30 ct30 oc31 kV31 dc31 pm31 cd31 ct31 oc32 kV32 dc32 pm32 cd32 ct32 oc33 kV33 dc33 pm33 cd33 ct33 oc34 kV34 dc34 pm34 cd34 ct34 oc35 kV35 dc35 pm35 cd35 ct35 oc36 kV36 dc36 pm36 cd36 ct36 oc37 kV37 dc37 pm37 cd37 ct37 oc38 kV38 dc38 pm38 cd38 ct38 oc39 kV39 dc39 pm39 cd39 ct39 oc40 kV40 dc40 pm40 cd40 ct40 oc41 kV41 dc41 pm41 cd41 ct41 oc42 kV42 dc42 pm42 cd42 ct42 ocI_row kVI_row dcI_row pmI_row cdI_row ctI_row : Value}
    {dT3 : Addr} {dd3 : Option Addr} {dn3 : Nat} {ds3 : Array (Option Value)} {dk3_0 : Tok}
    {t_FIGURES t_MOST_FIGURES t_TOP_BOUND t_BOTTOM_BOUND t_LETTERS t_MOST_LETTERS t_RUN_SIGNS t_MOST_PARTS t_MOST_BRACKETS t_LAST_PLACE : Tok}
    {dt_KEY_WORDS : Option Addr} {st_KEY_WORDS : Array (Option Value)} {nt_KEY_WORDS : Nat} {u_KEY_WORDS_0 u_KEY_WORDS_1 u_KEY_WORDS_2 u_KEY_WORDS_3 u_KEY_WORDS_4 u_KEY_WORDS_5 u_KEY_WORDS_6 u_KEY_WORDS_7 u_KEY_WORDS_8 u_KEY_WORDS_9 u_KEY_WORDS_10 u_KEY_WORDS_11 : Tok}
    (a1 : W.nsIn K mainGlobals "split_row" = some (some (.ref f1)))
    (l1 : K.lookup f1 = some ⟨oc1, od1, .func (fo "split_row" "split_row" s_split_row .none kV1 dc1 pm1 an1 cd1 ct1), sl1⟩) (c1 : W.codeIn K cd1 "split_row" = true) (k1 : W.keepIn K (.ref f1) = true)
    (a10 : W.nsIn K mainGlobals "only_figures" = some (some (.ref f10)))
    (l10 : K.lookup f10 = some ⟨oc10, od10, .func (fo "only_figures" "only_figures" s_only_figures .none kV10 dc10 pm10 an10 cd10 ct10), sl10⟩) (c10 : W.codeIn K cd10 "only_figures" = true) (k10 : W.keepIn K (.ref f10) = true)
    (a11 : W.nsIn K mainGlobals "is_number" = some (some (.ref f11)))
    (l11 : K.lookup f11 = some ⟨oc11, od11, .func (fo "is_number" "is_number" s_is_number .none kV11 dc11 pm11 an11 cd11 ct11), sl11⟩) (c11 : W.codeIn K cd11 "is_number" = true) (k11 : W.keepIn K (.ref f11) = true)
    (a12 : W.nsIn K mainGlobals "read_whole" = some (some (.ref f12)))
    (l12 : K.lookup f12 = some ⟨oc12, od12, .func (fo "read_whole" "read_whole" sr_whole .none kV12 dc12 pm12 an12 cd12 ct12), sl12⟩) (c12 : W.codeIn K cd12 "read_whole" = true) (k12 : W.keepIn K (.ref f12) = true)
    (a13 : W.nsIn K mainGlobals "common_divisor" = some (some (.ref f13)))
    (l13 : K.lookup f13 = some ⟨oc13, od13, .func (fo "common_divisor" "common_divisor" s_common_divisor .none kV13 dc13 pm13 an13 cd13 ct13), sl13⟩) (c13 : W.codeIn K cd13 "common_divisor" = true) (k13 : W.keepIn K (.ref f13) = true)
    (a14 : W.nsIn K mainGlobals "is_whole" = some (some (.ref f14)))
    (l14 : K.lookup f14 = some ⟨oc14, od14, .func (fo "is_whole" "is_whole" s_is_whole .none kV14 dc14 pm14 an14 cd14 ct14), sl14⟩) (c14 : W.codeIn K cd14 "is_whole" = true) (k14 : W.keepIn K (.ref f14) = true)
    (a15 : W.nsIn K mainGlobals "fraction" = some (some (.ref f15)))
    (l15 : K.lookup f15 = some ⟨oc15, od15, .func (fo "fraction" "fraction" s_fraction .none kV15 dc15 pm15 an15 cd15 ct15), sl15⟩) (c15 : W.codeIn K cd15 "fraction" = true) (k15 : W.keepIn K (.ref f15) = true)
    (a16 : W.nsIn K mainGlobals "show_fraction" = some (some (.ref f16)))
    (l16 : K.lookup f16 = some ⟨oc16, od16, .func (fo "show_fraction" "show_fraction" s_show_fraction .none kV16 dc16 pm16 an16 cd16 ct16), sl16⟩) (c16 : W.codeIn K cd16 "show_fraction" = true) (k16 : W.keepIn K (.ref f16) = true)
    (a17 : W.nsIn K mainGlobals "read_fraction" = some (some (.ref f17)))
    (l17 : K.lookup f17 = some ⟨oc17, od17, .func (fo "read_fraction" "read_fraction" sr_fraction .none kV17 dc17 pm17 an17 cd17 ct17), sl17⟩) (c17 : W.codeIn K cd17 "read_fraction" = true) (k17 : W.keepIn K (.ref f17) = true)
    (a18 : W.nsIn K mainGlobals "read_small_fraction" = some (some (.ref f18)))
    (l18 : K.lookup f18 = some ⟨oc18, od18, .func (fo "read_small_fraction" "read_small_fraction" sr_small_fraction .none kV18 dc18 pm18 an18 cd18 ct18), sl18⟩) (c18 : W.codeIn K cd18 "read_small_fraction" = true) (k18 : W.keepIn K (.ref f18) = true)
    (a19 : W.nsIn K mainGlobals "is_word" = some (some (.ref f19)))
    (l19 : K.lookup f19 = some ⟨oc19, od19, .func (fo "is_word" "is_word" s_is_word .none kV19 dc19 pm19 an19 cd19 ct19), sl19⟩) (c19 : W.codeIn K cd19 "is_word" = true) (k19 : W.keepIn K (.ref f19) = true)
    (a20 : W.nsIn K mainGlobals "read_word" = some (some (.ref f20)))
    (l20 : K.lookup f20 = some ⟨oc20, od20, .func (fo "read_word" "read_word" sr_word .none kV20 dc20 pm20 an20 cd20 ct20), sl20⟩) (c20 : W.codeIn K cd20 "read_word" = true) (k20 : W.keepIn K (.ref f20) = true)
    (a21 : W.nsIn K mainGlobals "read_sum" = some (some (.ref f21)))
    (l21 : K.lookup f21 = some ⟨oc21, od21, .func (fo "read_sum" "read_sum" sr_sum .none kV21 dc21 pm21 an21 cd21 ct21), sl21⟩) (c21 : W.codeIn K cd21 "read_sum" = true) (k21 : W.keepIn K (.ref f21) = true)
    (a22 : W.nsIn K mainGlobals "read_product" = some (some (.ref f22)))
    (l22 : K.lookup f22 = some ⟨oc22, od22, .func (fo "read_product" "read_product" sr_product .none kV22 dc22 pm22 an22 cd22 ct22), sl22⟩) (c22 : W.codeIn K cd22 "read_product" = true) (k22 : W.keepIn K (.ref f22) = true)
    (a23 : W.nsIn K mainGlobals "read_single" = some (some (.ref f23)))
    (l23 : K.lookup f23 = some ⟨oc23, od23, .func (fo "read_single" "read_single" sr_single .none kV23 dc23 pm23 an23 cd23 ct23), sl23⟩) (c23 : W.codeIn K cd23 "read_single" = true) (k23 : W.keepIn K (.ref f23) = true)
    (a24 : W.nsIn K mainGlobals "read_bracketed" = some (some (.ref f24)))
    (l24 : K.lookup f24 = some ⟨oc24, od24, .func (fo "read_bracketed" "read_bracketed" sr_bracketed .none kV24 dc24 pm24 an24 cd24 ct24), sl24⟩) (c24 : W.codeIn K cd24 "read_bracketed" = true) (k24 : W.keepIn K (.ref f24) = true)
    (a25 : W.nsIn K mainGlobals "read_comparison" = some (some (.ref f25)))
    (l25 : K.lookup f25 = some ⟨oc25, od25, .func (fo "read_comparison" "read_comparison" sr_comparison .none kV25 dc25 pm25 an25 cd25 ct25), sl25⟩) (c25 : W.codeIn K cd25 "read_comparison" = true) (k25 : W.keepIn K (.ref f25) = true)
    (a26 : W.nsIn K mainGlobals "read_or" = some (some (.ref f26)))
    (l26 : K.lookup f26 = some ⟨oc26, od26, .func (fo "read_or" "read_or" sr_or .none kV26 dc26 pm26 an26 cd26 ct26), sl26⟩) (c26 : W.codeIn K cd26 "read_or" = true) (k26 : W.keepIn K (.ref f26) = true)
    (a27 : W.nsIn K mainGlobals "read_and" = some (some (.ref f27)))
    (l27 : K.lookup f27 = some ⟨oc27, od27, .func (fo "read_and" "read_and" sr_and .none kV27 dc27 pm27 an27 cd27 ct27), sl27⟩) (c27 : W.codeIn K cd27 "read_and" = true) (k27 : W.keepIn K (.ref f27) = true)
    (a28 : W.nsIn K mainGlobals "read_not" = some (some (.ref f28)))
    (l28 : K.lookup f28 = some ⟨oc28, od28, .func (fo "read_not" "read_not" sr_not .none kV28 dc28 pm28 an28 cd28 ct28), sl28⟩) (c28 : W.codeIn K cd28 "read_not" = true) (k28 : W.keepIn K (.ref f28) = true)
    (a29 : W.nsIn K mainGlobals "read_to_end" = some (some (.ref f29)))
    (l29 : K.lookup f29 = some ⟨oc29, od29, .func (fo "read_to_end" "read_to_end" sr_to_end .none kV29 dc29 pm29 an29 cd29 ct29), sl29⟩) (c29 : W.codeIn K cd29 "read_to_end" = true) (k29 : W.keepIn K (.ref f29) = true)
    (a30 : W.nsIn K mainGlobals "read_condition" = some (some (.ref f30)))
    (l30 : K.lookup f30 = some ⟨oc30, od30, .func (fo "read_condition" "read_condition" sr_condition .none kV30 dc30 pm30 an30 cd30 ct30), sl30⟩) (c30 : W.codeIn K cd30 "read_condition" = true) (k30 : W.keepIn K (.ref f30) = true)
    (a31 : W.nsIn K mainGlobals "_law_cell_at" = some (some (.ref f31)))
    (l31 : K.lookup f31 = some ⟨oc31, od31, .func (fo "_law_cell_at" "_law_cell_at" sl_cell_at .none kV31 dc31 pm31 an31 cd31 ct31), sl31⟩) (c31 : W.codeIn K cd31 "_law_cell_at" = true) (k31 : W.keepIn K (.ref f31) = true)
    (a32 : W.nsIn K mainGlobals "_law_single" = some (some (.ref f32)))
    (l32 : K.lookup f32 = some ⟨oc32, od32, .func (fo "_law_single" "_law_single" sl_single .none kV32 dc32 pm32 an32 cd32 ct32), sl32⟩) (c32 : W.codeIn K cd32 "_law_single" = true) (k32 : W.keepIn K (.ref f32) = true)
    (a33 : W.nsIn K mainGlobals "_law_compared" = some (some (.ref f33)))
    (l33 : K.lookup f33 = some ⟨oc33, od33, .func (fo "_law_compared" "_law_compared" sl_compared .none kV33 dc33 pm33 an33 cd33 ct33), sl33⟩) (c33 : W.codeIn K cd33 "_law_compared" = true) (k33 : W.keepIn K (.ref f33) = true)
    (a34 : W.nsIn K mainGlobals "_law_bad_terms" = some (some (.ref f34)))
    (l34 : K.lookup f34 = some ⟨oc34, od34, .func (fo "_law_bad_terms" "_law_bad_terms" sl_bad_terms .none kV34 dc34 pm34 an34 cd34 ct34), sl34⟩) (c34 : W.codeIn K cd34 "_law_bad_terms" = true) (k34 : W.keepIn K (.ref f34) = true)
    (a35 : W.nsIn K mainGlobals "_law_bad_words" = some (some (.ref f35)))
    (l35 : K.lookup f35 = some ⟨oc35, od35, .func (fo "_law_bad_words" "_law_bad_words" sl_bad_words .none kV35 dc35 pm35 an35 cd35 ct35), sl35⟩) (c35 : W.codeIn K cd35 "_law_bad_words" = true) (k35 : W.keepIn K (.ref f35) = true)
    (a36 : W.nsIn K mainGlobals "_law_within" = some (some (.ref f36)))
    (l36 : K.lookup f36 = some ⟨oc36, od36, .func (fo "_law_within" "_law_within" sl_within .none kV36 dc36 pm36 an36 cd36 ct36), sl36⟩) (c36 : W.codeIn K cd36 "_law_within" = true) (k36 : W.keepIn K (.ref f36) = true)
    (a37 : W.nsIn K mainGlobals "_law_sum" = some (some (.ref f37)))
    (l37 : K.lookup f37 = some ⟨oc37, od37, .func (fo "_law_sum" "_law_sum" sl_sum .none kV37 dc37 pm37 an37 cd37 ct37), sl37⟩) (c37 : W.codeIn K cd37 "_law_sum" = true) (k37 : W.keepIn K (.ref f37) = true)
    (a38 : W.nsIn K mainGlobals "_law_nots" = some (some (.ref f38)))
    (l38 : K.lookup f38 = some ⟨oc38, od38, .func (fo "_law_nots" "_law_nots" sl_nots .none kV38 dc38 pm38 an38 cd38 ct38), sl38⟩) (c38 : W.codeIn K cd38 "_law_nots" = true) (k38 : W.keepIn K (.ref f38) = true)
    (a39 : W.nsIn K mainGlobals "_law_good" = some (some (.ref f39)))
    (l39 : K.lookup f39 = some ⟨oc39, od39, .func (fo "_law_good" "_law_good" sl_good .none kV39 dc39 pm39 an39 cd39 ct39), sl39⟩) (c39 : W.codeIn K cd39 "_law_good" = true) (k39 : W.keepIn K (.ref f39) = true)
    (a40 : W.nsIn K mainGlobals "_law_alike" = some (some (.ref f40)))
    (l40 : K.lookup f40 = some ⟨oc40, od40, .func (fo "_law_alike" "_law_alike" sl_alike .none kV40 dc40 pm40 an40 cd40 ct40), sl40⟩) (c40 : W.codeIn K cd40 "_law_alike" = true) (k40 : W.keepIn K (.ref f40) = true)
    (a41 : W.nsIn K mainGlobals "_law_refused" = some (some (.ref f41)))
    (l41 : K.lookup f41 = some ⟨oc41, od41, .func (fo "_law_refused" "_law_refused" sl_refused .none kV41 dc41 pm41 an41 cd41 ct41), sl41⟩) (c41 : W.codeIn K cd41 "_law_refused" = true) (k41 : W.keepIn K (.ref f41) = true)
    (a42 : W.nsIn K mainGlobals "law" = some (some (.ref f42)))
    (l42 : K.lookup f42 = some ⟨oc42, od42, .func (fo "law" "law" s_law .none kV42 dc42 pm42 an42 cd42 ct42), sl42⟩) (c42 : W.codeIn K cd42 "law" = true) (k42 : W.keepIn K (.ref f42) = true)
    (aC_WeatherError : W.nsIn K mainGlobals "WeatherError" = some (some (.ref C_WeatherError)))
    (aC_NoFraction : W.nsIn K mainGlobals "NoFraction" = some (some (.ref C_NoFraction)))
    (aC_NoText : W.nsIn K mainGlobals "NoText" = some (some (.ref C_NoText)))
    (aC_Twice : W.nsIn K mainGlobals "Twice" = some (some (.ref C_Twice)))
    (aC_TooMany : W.nsIn K mainGlobals "TooMany" = some (some (.ref C_TooMany)))
    (aC_NoRow : W.nsIn K mainGlobals "NoRow" = some (some (.ref C_NoRow)))
    (aC_Tokens : W.nsIn K mainGlobals "Tokens" = some (some (.ref C_Tokens)))
    (i_row : W.findIn K (.ref C_NoText) "__init__" = some (some (.ref fI_row)))
    (lI_row : K.lookup fI_row = some ⟨ocI_row, odI_row, .func (fo "__init__" "NoText.__init__" s_init_row .none kVI_row dcI_row pmI_row anI_row cdI_row ctI_row), slI_row⟩) (cI_row : W.codeIn K cdI_row "NoText.__init__" = true) (kI_row : W.keepIn K (.ref fI_row) = true)
    (x1_row : excInI K C_NoText fI_row [.type "ValueError", .type "Exception", .type "BaseException", .type "object"] "ValueError.__new__" = true) (x2_row : W.isFn K (.ref fI_row) = true) (x3_row : W.keepIn K (.ref C_NoText) = true) (x4_row : W.findIn K (.ref C_NoText) "__setattr__" = some (some (.builtin "object.__setattr__"))) (x5_row : W.findIn K (.ref C_NoText) "__getattribute__" = some (some (.builtin "BaseException.__getattribute__"))) (x6_row : W.findIn K (.ref C_NoText) "__getattr__" = some none) (x7_row : W.findIn K (.ref C_NoText) "row" = some none)
    (ck1_Tokens : W.plainGet K C_Tokens Str.empty = true) (ck2_Tokens : W.hasDictIn K C_Tokens = true) (ck3_Tokens : W.plainOver K C_Tokens = true) (ck4_Tokens : W.findIn K (.ref C_Tokens) "__setattr__" = some (some (.builtin "object.__setattr__"))) (ck5_Tokens : W.makesIn K C_Tokens = true) (ck6_Tokens : W.keepIn K (.ref C_Tokens) = true)
    (cn_Tokens_tokens : W.findIn K (.ref C_Tokens) "tokens" = some none)
    (cn_Tokens_place : W.findIn K (.ref C_Tokens) "place" = some none)
    (cn_Tokens_parts : W.findIn K (.ref C_Tokens) "parts" = some none)
    (cn_Tokens_brackets : W.findIn K (.ref C_Tokens) "brackets" = some none)
    (a2 : W.findIn K (.ref C_Tokens) "__init__" = some (some (.ref f2))) (n2 : W.isFn K (.ref f2) = true)
    (l2 : K.lookup f2 = some ⟨oc2, od2, .func (fo "__init__" "Tokens.__init__" st___init .none kV2 dc2 pm2 an2 cd2 ct2), sl2⟩) (c2 : W.codeIn K cd2 "Tokens.__init__" = true) (k2 : W.keepIn K (.ref f2) = true)
    (a3 : W.findIn K (.ref C_Tokens) "ahead" = some (some (.ref f3))) (n3 : W.isFn K (.ref f3) = true)
    (l3 : K.lookup f3 = some ⟨oc3, od3, .func (fo "ahead" "Tokens.ahead" st_ahead (.ref dT3) kV3 dc3 pm3 an3 cd3 ct3), sl3⟩) (c3 : W.codeIn K cd3 "Tokens.ahead" = true) (k3 : W.keepIn K (.ref f3) = true)
    (d3 : K.lookup dT3 = some ⟨.type "tuple", dd3, .seq #[.int 0 dk3_0] dn3, ds3⟩)
    (a4 : W.findIn K (.ref C_Tokens) "take" = some (some (.ref f4))) (n4 : W.isFn K (.ref f4) = true)
    (l4 : K.lookup f4 = some ⟨oc4, od4, .func (fo "take" "Tokens.take" st_take .none kV4 dc4 pm4 an4 cd4 ct4), sl4⟩) (c4 : W.codeIn K cd4 "Tokens.take" = true) (k4 : W.keepIn K (.ref f4) = true)
    (a5 : W.findIn K (.ref C_Tokens) "expect" = some (some (.ref f5))) (n5 : W.isFn K (.ref f5) = true)
    (l5 : K.lookup f5 = some ⟨oc5, od5, .func (fo "expect" "Tokens.expect" st_expect .none kV5 dc5 pm5 an5 cd5 ct5), sl5⟩) (c5 : W.codeIn K cd5 "Tokens.expect" = true) (k5 : W.keepIn K (.ref f5) = true)
    (a6 : W.findIn K (.ref C_Tokens) "expect_end" = some (some (.ref f6))) (n6 : W.isFn K (.ref f6) = true)
    (l6 : K.lookup f6 = some ⟨oc6, od6, .func (fo "expect_end" "Tokens.expect_end" st_expect_end .none kV6 dc6 pm6 an6 cd6 ct6), sl6⟩) (c6 : W.codeIn K cd6 "Tokens.expect_end" = true) (k6 : W.keepIn K (.ref f6) = true)
    (a7 : W.findIn K (.ref C_Tokens) "begin_part" = some (some (.ref f7))) (n7 : W.isFn K (.ref f7) = true)
    (l7 : K.lookup f7 = some ⟨oc7, od7, .func (fo "begin_part" "Tokens.begin_part" st_begin_part .none kV7 dc7 pm7 an7 cd7 ct7), sl7⟩) (c7 : W.codeIn K cd7 "Tokens.begin_part" = true) (k7 : W.keepIn K (.ref f7) = true)
    (a8 : W.findIn K (.ref C_Tokens) "enter" = some (some (.ref f8))) (n8 : W.isFn K (.ref f8) = true)
    (l8 : K.lookup f8 = some ⟨oc8, od8, .func (fo "enter" "Tokens.enter" st_enter .none kV8 dc8 pm8 an8 cd8 ct8), sl8⟩) (c8 : W.codeIn K cd8 "Tokens.enter" = true) (k8 : W.keepIn K (.ref f8) = true)
    (a9 : W.findIn K (.ref C_Tokens) "leave" = some (some (.ref f9))) (n9 : W.isFn K (.ref f9) = true)
    (l9 : K.lookup f9 = some ⟨oc9, od9, .func (fo "leave" "Tokens.leave" st_leave .none kV9 dc9 pm9 an9 cd9 ct9), sl9⟩) (c9 : W.codeIn K cd9 "Tokens.leave" = true) (k9 : W.keepIn K (.ref f9) = true)
    (ze_WeatherError : W.excIn K C_WeatherError [.type "ValueError", .type "Exception", .type "BaseException", .type "object"] "ValueError.__new__" = true) (zk_WeatherError : W.keepIn K (.ref C_WeatherError) = true) (zg_WeatherError : W.findIn K (.ref C_WeatherError) "__getattribute__" = some (some (.builtin "BaseException.__getattribute__"))) (zn_WeatherError : W.findIn K (.ref C_WeatherError) "__getattr__" = some none)
    (ze_NoFraction : W.excIn K C_NoFraction [.type "ValueError", .type "Exception", .type "BaseException", .type "object"] "ValueError.__new__" = true) (zk_NoFraction : W.keepIn K (.ref C_NoFraction) = true) (zg_NoFraction : W.findIn K (.ref C_NoFraction) "__getattribute__" = some (some (.builtin "BaseException.__getattribute__"))) (zn_NoFraction : W.findIn K (.ref C_NoFraction) "__getattr__" = some none)
    (zc_NoFraction : W.findIn K (.ref C_NoFraction) "__class__" = some (some (.builtin "object.__class__")))
    (zc_NoText : W.findIn K (.ref C_NoText) "__class__" = some (some (.builtin "object.__class__")))
    (zc_WeatherError : W.findIn K (.ref C_WeatherError) "__class__" = some (some (.builtin "object.__class__")))
    (q_NoText_NoText : W.kitOne K (.ref C_NoText) (.ref C_NoText) = some true)
    (q_NoText_ValueError : W.kitOne K (.ref C_NoText) (.type "ValueError") = some true)
    (q_NoText_NoFraction : W.kitOne K (.ref C_NoText) (.ref C_NoFraction) = some false)
    (q_NoText_NoRow : W.kitOne K (.ref C_NoText) (.ref C_NoRow) = some false)
    (q_NoText_TooMany : W.kitOne K (.ref C_NoText) (.ref C_TooMany) = some false)
    (q_NoText_Twice : W.kitOne K (.ref C_NoText) (.ref C_Twice) = some false)
    (q_NoText_WeatherError : W.kitOne K (.ref C_NoText) (.ref C_WeatherError) = some true)
    (g_FIGURES : W.nsIn K mainGlobals "FIGURES" = some (some (.str "0123456789" t_FIGURES)))
    (g_MOST_FIGURES : W.nsIn K mainGlobals "MOST_FIGURES" = some (some (.int 60 t_MOST_FIGURES)))
    (g_TOP_BOUND : W.nsIn K mainGlobals "TOP_BOUND" = some (some (.int 1000000000 t_TOP_BOUND)))
    (g_BOTTOM_BOUND : W.nsIn K mainGlobals "BOTTOM_BOUND" = some (some (.int 1000000 t_BOTTOM_BOUND)))
    (g_LETTERS : W.nsIn K mainGlobals "LETTERS" = some (some (.str "abcdefghijklmnopqrstuvwxyz" t_LETTERS)))
    (g_MOST_LETTERS : W.nsIn K mainGlobals "MOST_LETTERS" = some (some (.int 8 t_MOST_LETTERS)))
    (g_RUN_SIGNS : W.nsIn K mainGlobals "RUN_SIGNS" = some (some (.str "abcdefghijklmnopqrstuvwxyz0123456789/" t_RUN_SIGNS)))
    (g_MOST_PARTS : W.nsIn K mainGlobals "MOST_PARTS" = some (some (.int 30 t_MOST_PARTS)))
    (g_MOST_BRACKETS : W.nsIn K mainGlobals "MOST_BRACKETS" = some (some (.int 16 t_MOST_BRACKETS)))
    (g_LAST_PLACE : W.nsIn K mainGlobals "LAST_PLACE" = some (some (.int 9 t_LAST_PLACE)))
    (g_KEY_WORDS : W.nsIn K mainGlobals "KEY_WORDS" = some (some (.ref at_KEY_WORDS)))
    (lt_KEY_WORDS : K.lookup at_KEY_WORDS = some ⟨.type "tuple", dt_KEY_WORDS, .seq #[.str "mark" u_KEY_WORDS_0, .str "fill" u_KEY_WORDS_1, .str "here" u_KEY_WORDS_2, .str "back" u_KEY_WORDS_3, .str "on" u_KEY_WORDS_4, .str "at" u_KEY_WORDS_5, .str "ago" u_KEY_WORDS_6, .str "until" u_KEY_WORDS_7, .str "abs" u_KEY_WORDS_8, .str "and" u_KEY_WORDS_9, .str "or" u_KEY_WORDS_10, .str "not" u_KEY_WORDS_11] nt_KEY_WORDS, st_KEY_WORDS⟩)
    (z_ValueError : W.nsIn K mainGlobals "ValueError" = some none) (z_abs : W.nsIn K mainGlobals "abs" = some none) (z_all : W.nsIn K mainGlobals "all" = some none) (z_any : W.nsIn K mainGlobals "any" = some none) (z_bool : W.nsIn K mainGlobals "bool" = some none) (z_int : W.nsIn K mainGlobals "int" = some none) (z_isinstance : W.nsIn K mainGlobals "isinstance" = some none) (z_len : W.nsIn K mainGlobals "len" = some none) (z_range : W.nsIn K mainGlobals "range" = some none) (z_str : W.nsIn K mainGlobals "str" = some none) (z_tuple : W.nsIn K mainGlobals "tuple" = some none) :
    ∃ fd : FuncData, (∀ (s : Shared) (v : Value), BindsTo s fd ⟨[v], []⟩ [("_law_script", v)]) /\ ∀ base : Heap, K.In base -> base.Ns mainGlobals mg -> BM mg base -> FnOk l.prog w K mg base (CXx l.prog w) 170 fa fd ["_law_script"] (spLaw K) := by
  have e := hfa.symm.trans (W.mg_of X G a42)
  cases e
  have X_row : XCls K C_NoText fI_row "row" := ⟨x1_row, x2_row, x3_row, x4_row, x5_row, x6_row, x7_row⟩
  have Z_WeatherError : ZCls K C_WeatherError := ⟨ze_WeatherError, zk_WeatherError, zg_WeatherError, zn_WeatherError, zc_WeatherError⟩
  have Z_NoFraction : ZCls K C_NoFraction := ⟨ze_NoFraction, zk_NoFraction, zg_NoFraction, zn_NoFraction, zc_NoFraction⟩
  have IS : IsOk K (isF K [C_NoText]) := isF_ok fun c hc => by
    simp only [List.mem_cons, List.not_mem_nil, or_false] at hc
    rcases hc with rfl
    · exact X_row.y zc_NoText
  have T : Tx K mg ({WeatherError := C_WeatherError, NoFraction := C_NoFraction, NoText := C_NoText, Twice := C_Twice, TooMany := C_TooMany, NoRow := C_NoRow, Tokens := C_Tokens, fI_row := fI_row, isx := isF K [C_NoText]} : Ad) := {b_ValueError := W.mg_none_of X G z_ValueError, b_abs := W.mg_none_of X G z_abs, b_all := W.mg_none_of X G z_all, b_any := W.mg_none_of X G z_any, b_bool := W.mg_none_of X G z_bool, b_int := W.mg_none_of X G z_int, b_isinstance := W.mg_none_of X G z_isinstance, b_len := W.mg_none_of X G z_len, b_range := W.mg_none_of X G z_range, b_str := W.mg_none_of X G z_str, b_tuple := W.mg_none_of X G z_tuple, g_FIGURES := .str (W.mg_of X G g_FIGURES), g_MOST_FIGURES := .int (W.mg_of X G g_MOST_FIGURES), g_TOP_BOUND := .int (W.mg_of X G g_TOP_BOUND), g_BOTTOM_BOUND := .int (W.mg_of X G g_BOTTOM_BOUND), g_LETTERS := .str (W.mg_of X G g_LETTERS), g_MOST_LETTERS := .int (W.mg_of X G g_MOST_LETTERS), g_RUN_SIGNS := .str (W.mg_of X G g_RUN_SIGNS), g_MOST_PARTS := .int (W.mg_of X G g_MOST_PARTS), g_MOST_BRACKETS := .int (W.mg_of X G g_MOST_BRACKETS), g_LAST_PLACE := .int (W.mg_of X G g_LAST_PLACE), g_KEY_WORDS := GlT.strs (l := [("mark", u_KEY_WORDS_0), ("fill", u_KEY_WORDS_1), ("here", u_KEY_WORDS_2), ("back", u_KEY_WORDS_3), ("on", u_KEY_WORDS_4), ("at", u_KEY_WORDS_5), ("ago", u_KEY_WORDS_6), ("until", u_KEY_WORDS_7), ("abs", u_KEY_WORDS_8), ("and", u_KEY_WORDS_9), ("or", u_KEY_WORDS_10), ("not", u_KEY_WORDS_11)]) (W.mg_of X G g_KEY_WORDS) lt_KEY_WORDS (by show 12 <= sizeLine; decide), c_WeatherError := W.mg_of X G aC_WeatherError, c_NoFraction := W.mg_of X G aC_NoFraction, c_NoText := W.mg_of X G aC_NoText, c_Twice := W.mg_of X G aC_Twice, c_TooMany := W.mg_of X G aC_TooMany, c_NoRow := W.mg_of X G aC_NoRow, c_Tokens := W.mg_of X G aC_Tokens, x_row := X_row, z_WeatherError := Z_WeatherError, z_NoFraction := Z_NoFraction, y_NoText := X_row.y zc_NoText, y_WeatherError := Z_WeatherError.y, k_Tokens := ⟨ck1_Tokens, ck2_Tokens, ck3_Tokens, ck4_Tokens⟩, n_Tokens_tokens := cn_Tokens_tokens, n_Tokens_place := cn_Tokens_place, n_Tokens_parts := cn_Tokens_parts, n_Tokens_brackets := cn_Tokens_brackets, isok := IS}
  have F1 := fun_mk (st := s_split_row) l1 c1 k1
  have b1 := F1.binds (ps := ["text"]) fun _ _ _ _ _ _ us hl => match us, hl with | [_], _ => rfl
  have m1 := W.mg_of X G a1
  have F2 := fund_mk (st := st___init) l2 c2 k2
  have b2 := F2.binds (ps := ["self", "text"]) fun _ _ _ _ _ _ us hl => match us, hl with | [_, _], _ => rfl
  have F3 := fund_mk (st := st_ahead) l3 c3 k3
  have b3_0 := F3.bindsD (ps := ["self", "places"]) (ds := []) d3 rfl fun _ _ _ _ _ _ us hl => match us, hl with | [_, _], _ => ⟨_, rfl, rfl⟩
  have b3_1 := F3.bindsD (ps := ["self", "places"]) (ds := [.int 0 dk3_0]) d3 rfl fun _ _ _ _ _ _ us hl => match us, hl with | [_], _ => ⟨_, rfl, rfl⟩
  have F4 := fund_mk (st := st_take) l4 c4 k4
  have b4 := F4.binds (ps := ["self"]) fun _ _ _ _ _ _ us hl => match us, hl with | [_], _ => rfl
  have F5 := fund_mk (st := st_expect) l5 c5 k5
  have b5 := F5.binds (ps := ["self", "token"]) fun _ _ _ _ _ _ us hl => match us, hl with | [_, _], _ => rfl
  have F6 := fund_mk (st := st_expect_end) l6 c6 k6
  have b6 := F6.binds (ps := ["self"]) fun _ _ _ _ _ _ us hl => match us, hl with | [_], _ => rfl
  have F7 := fund_mk (st := st_begin_part) l7 c7 k7
  have b7 := F7.binds (ps := ["self"]) fun _ _ _ _ _ _ us hl => match us, hl with | [_], _ => rfl
  have F8 := fund_mk (st := st_enter) l8 c8 k8
  have b8 := F8.binds (ps := ["self", "bracket"]) fun _ _ _ _ _ _ us hl => match us, hl with | [_, _], _ => rfl
  have F9 := fund_mk (st := st_leave) l9 c9 k9
  have b9 := F9.binds (ps := ["self", "bracket"]) fun _ _ _ _ _ _ us hl => match us, hl with | [_, _], _ => rfl
  have F10 := fun_mk (st := s_only_figures) l10 c10 k10
  have b10 := F10.binds (ps := ["text"]) fun _ _ _ _ _ _ us hl => match us, hl with | [_], _ => rfl
  have m10 := W.mg_of X G a10
  have F11 := fun_mk (st := s_is_number) l11 c11 k11
  have b11 := F11.binds (ps := ["text", "most_figures"]) fun _ _ _ _ _ _ us hl => match us, hl with | [_, _], _ => rfl
  have m11 := W.mg_of X G a11
  have F12 := fun_mk (st := sr_whole) l12 c12 k12
  have b12 := F12.binds (ps := ["text", "least", "most"]) fun _ _ _ _ _ _ us hl => match us, hl with | [_, _, _], _ => rfl
  have m12 := W.mg_of X G a12
  have F13 := fun_mk (st := s_common_divisor) l13 c13 k13
  have b13 := F13.binds (ps := ["one", "other"]) fun _ _ _ _ _ _ us hl => match us, hl with | [_, _], _ => rfl
  have m13 := W.mg_of X G a13
  have F14 := fun_mk (st := s_is_whole) l14 c14 k14
  have b14 := F14.binds (ps := ["thing"]) fun _ _ _ _ _ _ us hl => match us, hl with | [_], _ => rfl
  have m14 := W.mg_of X G a14
  have F15 := fun_mk (st := s_fraction) l15 c15 k15
  have b15 := F15.binds (ps := ["top", "bottom"]) fun _ _ _ _ _ _ us hl => match us, hl with | [_, _], _ => rfl
  have m15 := W.mg_of X G a15
  have F16 := fun_mk (st := s_show_fraction) l16 c16 k16
  have b16 := F16.binds (ps := ["one"]) fun _ _ _ _ _ _ us hl => match us, hl with | [_], _ => rfl
  have m16 := W.mg_of X G a16
  have F17 := fun_mk (st := sr_fraction) l17 c17 k17
  have b17 := F17.binds (ps := ["text"]) fun _ _ _ _ _ _ us hl => match us, hl with | [_], _ => rfl
  have m17 := W.mg_of X G a17
  have F18 := fun_mk (st := sr_small_fraction) l18 c18 k18
  have b18 := F18.binds (ps := ["text"]) fun _ _ _ _ _ _ us hl => match us, hl with | [_], _ => rfl
  have m18 := W.mg_of X G a18
  have F19 := fun_mk (st := s_is_word) l19 c19 k19
  have b19 := F19.binds (ps := ["thing"]) fun _ _ _ _ _ _ us hl => match us, hl with | [_], _ => rfl
  have m19 := W.mg_of X G a19
  have F20 := fun_mk (st := sr_word) l20 c20 k20
  have b20 := F20.binds (ps := ["text"]) fun _ _ _ _ _ _ us hl => match us, hl with | [_], _ => rfl
  have m20 := W.mg_of X G a20
  have F21 := fun_mk (st := sr_sum) l21 c21 k21
  have b21 := F21.binds (ps := ["tokens"]) fun _ _ _ _ _ _ us hl => match us, hl with | [_], _ => rfl
  have m21 := W.mg_of X G a21
  have F22 := fun_mk (st := sr_product) l22 c22 k22
  have b22 := F22.binds (ps := ["tokens"]) fun _ _ _ _ _ _ us hl => match us, hl with | [_], _ => rfl
  have m22 := W.mg_of X G a22
  have F23 := fun_mk (st := sr_single) l23 c23 k23
  have b23 := F23.binds (ps := ["tokens"]) fun _ _ _ _ _ _ us hl => match us, hl with | [_], _ => rfl
  have m23 := W.mg_of X G a23
  have F24 := fun_mk (st := sr_bracketed) l24 c24 k24
  have b24 := F24.binds (ps := ["tokens"]) fun _ _ _ _ _ _ us hl => match us, hl with | [_], _ => rfl
  have m24 := W.mg_of X G a24
  have F25 := fun_mk (st := sr_comparison) l25 c25 k25
  have b25 := F25.binds (ps := ["tokens"]) fun _ _ _ _ _ _ us hl => match us, hl with | [_], _ => rfl
  have m25 := W.mg_of X G a25
  have F26 := fun_mk (st := sr_or) l26 c26 k26
  have b26 := F26.binds (ps := ["tokens"]) fun _ _ _ _ _ _ us hl => match us, hl with | [_], _ => rfl
  have m26 := W.mg_of X G a26
  have F27 := fun_mk (st := sr_and) l27 c27 k27
  have b27 := F27.binds (ps := ["tokens"]) fun _ _ _ _ _ _ us hl => match us, hl with | [_], _ => rfl
  have m27 := W.mg_of X G a27
  have F28 := fun_mk (st := sr_not) l28 c28 k28
  have b28 := F28.binds (ps := ["tokens"]) fun _ _ _ _ _ _ us hl => match us, hl with | [_], _ => rfl
  have m28 := W.mg_of X G a28
  have F29 := fun_mk (st := sr_to_end) l29 c29 k29
  have b29 := F29.binds (ps := ["tokens"]) fun _ _ _ _ _ _ us hl => match us, hl with | [_], _ => rfl
  have m29 := W.mg_of X G a29
  have F30 := fun_mk (st := sr_condition) l30 c30 k30
  have b30 := F30.binds (ps := ["text"]) fun _ _ _ _ _ _ us hl => match us, hl with | [_], _ => rfl
  have m30 := W.mg_of X G a30
  have F31 := fun_mk (st := sl_cell_at) l31 c31 k31
  have b31 := F31.binds (ps := ["_law_script", "_law_k"]) fun _ _ _ _ _ _ us hl => match us, hl with | [_, _], _ => rfl
  have m31 := W.mg_of X G a31
  have F32 := fun_mk (st := sl_single) l32 c32 k32
  have b32 := F32.binds (ps := ["_law_cell"]) fun _ _ _ _ _ _ us hl => match us, hl with | [_], _ => rfl
  have m32 := W.mg_of X G a32
  have F33 := fun_mk (st := sl_compared) l33 c33 k33
  have b33 := F33.binds (ps := ["_law_cell"]) fun _ _ _ _ _ _ us hl => match us, hl with | [_], _ => rfl
  have m33 := W.mg_of X G a33
  have F34 := fun_mk (st := sl_bad_terms) l34 c34 k34
  have b34 := F34.binds (ps := ["_law_cell", "_law_one", "_law_other"]) fun _ _ _ _ _ _ us hl => match us, hl with | [_, _, _], _ => rfl
  have m34 := W.mg_of X G a34
  have F35 := fun_mk (st := sl_bad_words) l35 c35 k35
  have b35 := F35.binds (ps := ["_law_cell", "_law_one", "_law_other"]) fun _ _ _ _ _ _ us hl => match us, hl with | [_, _, _], _ => rfl
  have m35 := W.mg_of X G a35
  have F36 := fun_mk (st := sl_within) l36 c36 k36
  have b36 := F36.binds (ps := ["_law_cell", "_law_bad", "_law_good_here"]) fun _ _ _ _ _ _ us hl => match us, hl with | [_, _, _], _ => rfl
  have m36 := W.mg_of X G a36
  have F37 := fun_mk (st := sl_sum) l37 c37 k37
  have b37 := F37.binds (ps := ["_law_many"]) fun _ _ _ _ _ _ us hl => match us, hl with | [_], _ => rfl
  have m37 := W.mg_of X G a37
  have F38 := fun_mk (st := sl_nots) l38 c38 k38
  have b38 := F38.binds (ps := ["_law_many"]) fun _ _ _ _ _ _ us hl => match us, hl with | [_], _ => rfl
  have m38 := W.mg_of X G a38
  have F39 := fun_mk (st := sl_good) l39 c39 k39
  have b39 := F39.binds (ps := ["_law_cell"]) fun _ _ _ _ _ _ us hl => match us, hl with | [_], _ => rfl
  have m39 := W.mg_of X G a39
  have F40 := fun_mk (st := sl_alike) l40 c40 k40
  have b40 := F40.binds (ps := ["_law_found", "_law_due"]) fun _ _ _ _ _ _ us hl => match us, hl with | [_, _], _ => rfl
  have m40 := W.mg_of X G a40
  have F41 := fun_mk (st := sl_refused) l41 c41 k41
  have b41 := F41.binds (ps := ["_law_text"]) fun _ _ _ _ _ _ us hl => match us, hl with | [_], _ => rfl
  have m41 := W.mg_of X G a41
  have F42 := fun_mk (st := s_law) l42 c42 k42
  have FI_row := fun_mk (st := s_init_row) lI_row cI_row kI_row
  have bI_row := FI_row.binds (ps := ["self", "row"]) fun _ _ _ _ _ _ us hl => match us, hl with | [_, _], _ => rfl
  refine ⟨W.fnOf "law" "law" (defArgs s_law) (defBody s_law) (defScope s_law) .none kV42 dc42 pm42 an42 cd42 ct42, fun s v => .of_eq rfl, fun base _ _ bm => ?_⟩
  have OI_row := ok_xinit (P := l.prog) (w := w) (mg := mg) (base := base) (k := 0) (body := []) T.x_row FI_row sc_init_row rfl rfl rfl rfl rfl
  have o1 := ok_split_row (P := l.prog) (w := w) (base := base) T F1
  have H1 : Has _ _ _ _ _ _ _ _ _ _ := ⟨_, _, o1, b1, k1, m1⟩
  have o2 := okt___init (P := l.prog) (w := w) (base := base) T F2 (Has.up H1 (by decide))
  have HI2 : HasI _ _ _ _ _ _ _ _ _ := ⟨f2, _, o2, b2, ⟨ck5_Tokens, a2, n2, ck6_Tokens⟩⟩
  have o3 := okt_ahead (P := l.prog) (w := w) (base := base) T F3
  have HM3_0 : HasM _ _ _ _ _ _ _ _ _ [] _ := ⟨f3, _, _, [], o3, b3_0, .nil, fun _ _ => .nil, ⟨a3, n3, k3⟩⟩
  have HM3_1 : HasM _ _ _ _ _ _ _ _ _ [.int 0] _ := ⟨f3, _, _, [.int 0], o3, b3_1, (.cons ⟨_, rfl⟩ .nil), fun _ _ => (.cons (.int _) .nil), ⟨a3, n3, k3⟩⟩
  have o4 := okt_take (P := l.prog) (w := w) (base := base) T F4 OI_row bI_row (HasM.up HM3_1 (by decide))
  have HM4 : HasM _ _ _ _ _ _ _ _ _ [] _ := ⟨f4, _, [], [], o4, b4, .nil, fun _ _ => .nil, ⟨a4, n4, k4⟩⟩
  have o5 := okt_expect (P := l.prog) (w := w) (base := base) T F5 OI_row bI_row (HasM.up HM4 (by decide))
  have HM5 : HasM _ _ _ _ _ _ _ _ _ [] _ := ⟨f5, _, [], [], o5, b5, .nil, fun _ _ => .nil, ⟨a5, n5, k5⟩⟩
  have o6 := okt_expect_end (P := l.prog) (w := w) (base := base) T F6 OI_row bI_row (HasM.up HM3_1 (by decide))
  have HM6 : HasM _ _ _ _ _ _ _ _ _ [] _ := ⟨f6, _, [], [], o6, b6, .nil, fun _ _ => .nil, ⟨a6, n6, k6⟩⟩
  have o7 := okt_begin_part (P := l.prog) (w := w) (base := base) T F7 OI_row bI_row
  have HM7 : HasM _ _ _ _ _ _ _ _ _ [] _ := ⟨f7, _, [], [], o7, b7, .nil, fun _ _ => .nil, ⟨a7, n7, k7⟩⟩
  have o8 := okt_enter (P := l.prog) (w := w) (base := base) T F8 OI_row bI_row (HasM.up HM5 (by decide))
  have HM8 : HasM _ _ _ _ _ _ _ _ _ [] _ := ⟨f8, _, [], [], o8, b8, .nil, fun _ _ => .nil, ⟨a8, n8, k8⟩⟩
  have o9 := okt_leave (P := l.prog) (w := w) (base := base) T F9 (HasM.up HM5 (by decide))
  have HM9 : HasM _ _ _ _ _ _ _ _ _ [] _ := ⟨f9, _, [], [], o9, b9, .nil, fun _ _ => .nil, ⟨a9, n9, k9⟩⟩
  have o10 := ok_only_figures (P := l.prog) (w := w) (base := base) T F10
  have H10 : Has _ _ _ _ _ _ _ _ _ _ := ⟨_, _, o10, b10, k10, m10⟩
  have o11 := ok_is_number (P := l.prog) (w := w) (base := base) T F11 (Has.up H10 (by decide))
  have H11 : Has _ _ _ _ _ _ _ _ _ _ := ⟨_, _, o11, b11, k11, m11⟩
  have o12 := okr_whole (P := l.prog) (w := w) (base := base) T F12 OI_row bI_row (Has.up H11 (by decide))
  have H12 : Has _ _ _ _ _ _ _ _ _ _ := ⟨_, _, o12, b12, k12, m12⟩
  have o13 := ok_common_divisor (P := l.prog) (w := w) (base := base) T F13
  have H13 : Has _ _ _ _ _ _ _ _ _ _ := ⟨_, _, o13, b13, k13, m13⟩
  have o14 := ok_is_whole (P := l.prog) (w := w) (base := base) T F14
  have H14 : Has _ _ _ _ _ _ _ _ _ _ := ⟨_, _, o14, b14, k14, m14⟩
  have o15 := ok_fraction (P := l.prog) (w := w) (base := base) T F15 (Has.up H14 (by decide)) (Has.up H13 (by decide))
  have H15 : Has _ _ _ _ _ _ _ _ _ _ := ⟨_, _, o15, b15, k15, m15⟩
  have o16 := ok_show_fraction (P := l.prog) (w := w) (base := base) T F16
  have H16 : Has _ _ _ _ _ _ _ _ _ _ := ⟨_, _, o16, b16, k16, m16⟩
  have o17 := okr_fraction (P := l.prog) (w := w) (base := base) T F17 OI_row bI_row (Has.up H11 (by decide)) (Has.up H15 (by decide)) (Has.up H16 (by decide))
  have H17 : Has _ _ _ _ _ _ _ _ _ _ := ⟨_, _, o17, b17, k17, m17⟩
  have o18 := okr_small_fraction (P := l.prog) (w := w) (base := base) T F18 OI_row bI_row (Has.up H17 (by decide))
  have H18 : Has _ _ _ _ _ _ _ _ _ _ := ⟨_, _, o18, b18, k18, m18⟩
  have o19 := ok_is_word (P := l.prog) (w := w) (base := base) T F19
  have H19 : Has _ _ _ _ _ _ _ _ _ _ := ⟨_, _, o19, b19, k19, m19⟩
  have o20 := okr_word (P := l.prog) (w := w) (base := base) T F20 OI_row bI_row (Has.up H19 (by decide))
  have H20 : Has _ _ _ _ _ _ _ _ _ _ := ⟨_, _, o20, b20, k20, m20⟩
  have Fa0 : ∀ n : Nat, Has l.prog w K mg base (CXx l.prog w) (5 + n) "read_sum" ["tokens"] (spZ 1 K (fam0 {WeatherError := C_WeatherError, NoFraction := C_NoFraction, NoText := C_NoText, Twice := C_Twice, TooMany := C_TooMany, NoRow := C_NoRow, Tokens := C_Tokens, fI_row := fI_row, isx := isF K [C_NoText]} n).1) /\ Has l.prog w K mg base (CXx l.prog w) (5 + n) "read_product" ["tokens"] (spZ 1 K (fam0 {WeatherError := C_WeatherError, NoFraction := C_NoFraction, NoText := C_NoText, Twice := C_Twice, TooMany := C_TooMany, NoRow := C_NoRow, Tokens := C_Tokens, fI_row := fI_row, isx := isF K [C_NoText]} n).2.1) /\ Has l.prog w K mg base (CXx l.prog w) (5 + n) "read_single" ["tokens"] (spZ 1 K (fam0 {WeatherError := C_WeatherError, NoFraction := C_NoFraction, NoText := C_NoText, Twice := C_Twice, TooMany := C_TooMany, NoRow := C_NoRow, Tokens := C_Tokens, fI_row := fI_row, isx := isF K [C_NoText]} n).2.2.1) /\ Has l.prog w K mg base (CXx l.prog w) (5 + n) "read_bracketed" ["tokens"] (spZ 1 K (fam0 {WeatherError := C_WeatherError, NoFraction := C_NoFraction, NoText := C_NoText, Twice := C_Twice, TooMany := C_TooMany, NoRow := C_NoRow, Tokens := C_Tokens, fI_row := fI_row, isx := isF K [C_NoText]} n).2.2.2) := by
    intro n
    induction n with
    | zero => exact ⟨⟨_, _, fn_badZ, b21, k21, m21⟩, ⟨_, _, fn_badZ, b22, k22, m22⟩, ⟨_, _, fn_badZ, b23, k23, m23⟩, ⟨_, _, fn_badZ, b24, k24, m24⟩⟩
    | succ n ih =>
      obtain ⟨J21, J22, J23, J24⟩ := ih
      have p21 := okr_sum (P := l.prog) (w := w) (base := base) (k := 5 + n) T F21 J22 (HasM.up HM3_1 (by omega)) (HasM.up HM4 (by omega)) (HasM.up HM7 (by omega))
      have p22 := okr_product (P := l.prog) (w := w) (base := base) (k := 5 + n) T F22 (Has.up H18 (by omega)) J23 (HasM.up HM3_0 (by omega)) (HasM.up HM4 (by omega)) (HasM.up HM5 (by omega)) (HasM.up HM7 (by omega))
      have p23 := okr_single (P := l.prog) (w := w) (base := base) (k := 5 + n) T F23 (Has.up H12 (by omega)) (Has.up H20 (by omega)) (Has.up H18 (by omega)) J24 (HasM.up HM3_1 (by omega)) (HasM.up HM7 (by omega)) (HasM.up HM4 (by omega))
      have p24 := okr_bracketed (P := l.prog) (w := w) (base := base) (k := 5 + n) T F24 J21 (HasM.up HM8 (by omega)) (HasM.up HM9 (by omega))
      exact ⟨⟨_, _, p21, b21, k21, m21⟩, ⟨_, _, p22, b22, k22, m22⟩, ⟨_, _, p23, b23, k23, m23⟩, ⟨_, _, p24, b24, k24, m24⟩⟩
  obtain ⟨H21, H22, H23, H24⟩ := Fa0 75
  have o25 := okr_comparison (P := l.prog) (w := w) (base := base) T F25 OI_row bI_row (Has.up H21 (by decide)) (HasM.up HM7 (by decide)) (HasM.up HM4 (by decide))
  have H25 : Has _ _ _ _ _ _ _ _ _ _ := ⟨_, _, o25, b25, k25, m25⟩
  have Fa1 : ∀ n : Nat, Has l.prog w K mg base (CXx l.prog w) (81 + n) "read_or" ["tokens"] (spZ 1 K (fam1 {WeatherError := C_WeatherError, NoFraction := C_NoFraction, NoText := C_NoText, Twice := C_Twice, TooMany := C_TooMany, NoRow := C_NoRow, Tokens := C_Tokens, fI_row := fI_row, isx := isF K [C_NoText]} n).1) /\ Has l.prog w K mg base (CXx l.prog w) (81 + n) "read_and" ["tokens"] (spZ 1 K (fam1 {WeatherError := C_WeatherError, NoFraction := C_NoFraction, NoText := C_NoText, Twice := C_Twice, TooMany := C_TooMany, NoRow := C_NoRow, Tokens := C_Tokens, fI_row := fI_row, isx := isF K [C_NoText]} n).2.1) /\ Has l.prog w K mg base (CXx l.prog w) (81 + n) "read_not" ["tokens"] (spZ 1 K (fam1 {WeatherError := C_WeatherError, NoFraction := C_NoFraction, NoText := C_NoText, Twice := C_Twice, TooMany := C_TooMany, NoRow := C_NoRow, Tokens := C_Tokens, fI_row := fI_row, isx := isF K [C_NoText]} n).2.2) := by
    intro n
    induction n with
    | zero => exact ⟨⟨_, _, fn_badZ, b26, k26, m26⟩, ⟨_, _, fn_badZ, b27, k27, m27⟩, ⟨_, _, fn_badZ, b28, k28, m28⟩⟩
    | succ n ih =>
      obtain ⟨J26, J27, J28⟩ := ih
      have p26 := okr_or (P := l.prog) (w := w) (base := base) (k := 81 + n) T F26 J27 (HasM.up HM3_1 (by omega)) (HasM.up HM5 (by omega)) (HasM.up HM7 (by omega))
      have p27 := okr_and (P := l.prog) (w := w) (base := base) (k := 81 + n) T F27 J28 (HasM.up HM3_1 (by omega)) (HasM.up HM5 (by omega)) (HasM.up HM7 (by omega))
      have p28 := okr_not (P := l.prog) (w := w) (base := base) (k := 81 + n) T F28 J28 J26 (Has.up H25 (by omega)) (HasM.up HM3_1 (by omega)) (HasM.up HM5 (by omega)) (HasM.up HM7 (by omega)) (HasM.up HM8 (by omega)) (HasM.up HM9 (by omega))
      exact ⟨⟨_, _, p26, b26, k26, m26⟩, ⟨_, _, p27, b27, k27, m27⟩, ⟨_, _, p28, b28, k28, m28⟩⟩
  obtain ⟨H26, H27, H28⟩ := Fa1 85
  have o29 := okr_to_end (P := l.prog) (w := w) (base := base) T F29 (Has.up H26 (by decide)) (HasM.up HM6 (by decide))
  have H29 : Has _ _ _ _ _ _ _ _ _ _ := ⟨_, _, o29, b29, k29, m29⟩
  have o30 := okr_condition (P := l.prog) (w := w) (base := base) T F30 (Has.up H29 (by decide)) (HasI.up HI2 (by decide))
  have o30 := FnOk.close o30
  have H30 : Has _ _ _ _ _ _ _ _ _ _ := ⟨_, _, o30, b30, k30, m30⟩
  have o31 := okl_cell_at (P := l.prog) (w := w) (base := base) T F31
  have H31 : Has _ _ _ _ _ _ _ _ _ _ := ⟨_, _, o31, b31, k31, m31⟩
  have o32 := okl_single (P := l.prog) (w := w) (base := base) T F32
  have H32 : Has _ _ _ _ _ _ _ _ _ _ := ⟨_, _, o32, b32, k32, m32⟩
  have o33 := okl_compared (P := l.prog) (w := w) (base := base) T F33
  have H33 : Has _ _ _ _ _ _ _ _ _ _ := ⟨_, _, o33, b33, k33, m33⟩
  have o34 := okl_bad_terms (P := l.prog) (w := w) (base := base) T F34
  have H34 : Has _ _ _ _ _ _ _ _ _ _ := ⟨_, _, o34, b34, k34, m34⟩
  have o35 := okl_bad_words (P := l.prog) (w := w) (base := base) T F35
  have H35 : Has _ _ _ _ _ _ _ _ _ _ := ⟨_, _, o35, b35, k35, m35⟩
  have o36 := okl_within (P := l.prog) (w := w) (base := base) T F36
  have H36 : Has _ _ _ _ _ _ _ _ _ _ := ⟨_, _, o36, b36, k36, m36⟩
  have o37 := okl_sum (P := l.prog) (w := w) (base := base) T F37
  have H37 : Has _ _ _ _ _ _ _ _ _ _ := ⟨_, _, o37, b37, k37, m37⟩
  have o38 := okl_nots (P := l.prog) (w := w) (base := base) T F38
  have H38 : Has _ _ _ _ _ _ _ _ _ _ := ⟨_, _, o38, b38, k38, m38⟩
  have o39 := okl_good (P := l.prog) (w := w) (base := base) T F39 (Has.up H37 (by decide)) (Has.up H38 (by decide))
  have H39 : Has _ _ _ _ _ _ _ _ _ _ := ⟨_, _, o39, b39, k39, m39⟩
  have o40 := rec_D (P := l.prog) (w := w) (K := K) (mg := mg) (base := base) (f := f40) (x := "_law_alike") (k0 := 0) (st := 1) (F0 := Rl_alike {WeatherError := C_WeatherError, NoFraction := C_NoFraction, NoText := C_NoText, Twice := C_Twice, TooMany := C_TooMany, NoRow := C_NoRow, Tokens := C_Tokens, fI_row := fI_row, isx := isF K [C_NoText]}) (hn := rfl) (fun o => ⟨_, _, o, b40, k40, m40⟩) (fun Fs k hk Hh => by
    have p40 := okl_alike (P := l.prog) (w := w) (base := base) (k := k + 0) T F40 (Has.up Hh (by omega))
    exact p40) 60
  have H40 : Has _ _ _ _ _ _ _ _ _ _ := ⟨_, _, o40, b40, k40, m40⟩
  have o41 := okl_refused (P := l.prog) (w := w) (base := base) T F41 (Has.up H30 (by decide))
  have H41 : Has _ _ _ _ _ _ _ _ _ _ := ⟨_, _, o41, b41, k41, m41⟩
  have o42 := ok_law (P := l.prog) (w := w) (base := base) T F42 (Has.up H31 (by decide)) (Has.up H32 (by decide)) (Has.up H35 (by decide)) (Has.up H34 (by decide)) (Has.up H33 (by decide)) (Has.up H36 (by decide)) (Has.up H39 (by decide)) (Has.up H41 (by decide)) (Has.up H30 (by decide)) (Has.up H40 (by decide))
  refine o42.imp fun vs H Q E q => ?_
  obtain ⟨al, ns, hl, fr, hn, rv, tt, q⟩ := q
  refine ⟨hl, tt, al, _, fr, rv, ?_⟩
  have A : Aft K al E H (R.ok (D.bl true)) (fun d H' => ∀ v, Rep K al H' v d -> Q v H') := fun H' sm v rv => by cases rv; exact q H' sm
  have P : Px {WeatherError := C_WeatherError, NoFraction := C_NoFraction, NoText := C_NoText, Twice := C_Twice, TooMany := C_TooMany, NoRow := C_NoRow, Tokens := C_Tokens, fI_row := fI_row, isx := isF K [C_NoText]} := ⟨isF_in q_NoText_NoText (by simp), isF_in q_NoText_ValueError (by simp), isF_in q_NoText_WeatherError (by simp), isF_in q_NoText_NoFraction (by simp), isF_in q_NoText_NoRow (by simp), isF_in q_NoText_TooMany (by simp), isF_in q_NoText_Twice (by simp)⟩
  rw [← m_law (fzM _ P) ns hn] at A
  exact A
theorem walk {l : W.OpenLaw} {q : Program} {loose : List Str} {XP : (Str -> Option Value) -> Heap -> Prop} {YP : World -> Heap -> Prop} {d : DefRec} {K : Params -> W.Frag} (hn : l.most = some 63) (hdf : d.params.defaults = [])
    (hY : ∀ (w : World) (h : Heap), YP w h -> (K w.params).In h) (hT : ∀ w : World, (tabsOf (K w.params)).all (fun t => ((PyProof.Rows.recsOf q).find? fun e => e.name == t.1).isSome) = true) (hN : ∀ w : World, W.noTabs (K w.params) = true)
    (F : ∀ (w : World) (mg : Str -> Option Value) (fa : Addr) (h : Heap), (K w.params).In h -> h.Ns mainGlobals mg -> mg d.name = some (.ref fa) ->
      ∃ fd : FuncData, (∀ (s : Shared) (u : Value), BindsTo s fd ⟨[u], []⟩ [("_law_script", u)]) /\ ∀ base : Heap, (K w.params).In base -> base.Ns mainGlobals mg -> BM mg base -> FnOk l.prog w (K w.params) mg base (CXx l.prog w) 170 fa fd ["_law_script"] (spLaw (K w.params))) :
    W.WalkO q loose XP YP l.row.toRowW d [] (fun f vs => PySem.call f vs) := by
  refine Att.attach_call hn hdf fun w s₀ s₁ mg mb fa o pm cd doc a vs ns G Y ho hd hcd hmg hobj hints hlen hg => ?_
  have KX := hY w _ Y
  obtain ⟨fd, hb, hF⟩ := F w mg fa _ KX G.T.g hmg
  refine law_callT KX G.T.g G.T.b G.T.builtins G.T.nolimit hg hobj hints (Nat.le_trans hlen (by decide)) ⟨rfl, by decide, by decide⟩ (tabs_of G.T KX (hT w)) (hN w) G.T.bmain hF hb (fun H tt hS => spLaw_of hlen tt ?_) fun H e s' h => ?_
  · rcases hS with h | ⟨o, its, n, h1, h2, h3, h4, h5, h6⟩
    · exact .lst (.inl ⟨trivial, h⟩) (reps_ints _)
    · have e := KX a o h1
      rw [hobj] at e
      cases e
      cases h4
      exact .lst (.inr ⟨vs, _, h1, by simpa using h5, by simpa using h6⟩) (reps_ints _)
  · obtain ⟨_, _, _, _, _, _, _, _, _, _, _, _, z⟩ := h
    exact z
end W34
noncomputable def PySem.W.Fast.tw11927924123946672486 : Nat := 0
noncomputable def PySem.W.Fast.tw3946527021380344035 : Nat := 0
noncomputable def PySem.W.Fast.tw14732351735338011265 : Nat := 0
noncomputable def PySem.W.Fast.tw3671094028335753118 : Nat := 0
noncomputable def PySem.W.Fast.tw9598555371985026384 : Nat := 0
noncomputable def PySem.W.Fast.tw7237794915150774479 : Nat := 0
noncomputable def PySem.W.Fast.tw6699228491149940248 : Nat := 0
noncomputable def PySem.W.Fast.tw14660988511906357048 : Nat := 0
noncomputable def PySem.W.Fast.tw8196666876714429272 : Nat := 0
open PySem PySem.W PyProof.Rows
set_option maxRecDepth 100000 in
set_option maxHeartbeats 0 in
theorem PySem.Challenge.cw_weather_k34_no_condition_holds : PySem.Challenge.rw_weather_k34_no_condition.Holds := by
  w_on; o_law; k_head; (case hw => w_witness2)
  k_fill
  refine W34.walk (l := PySem.Challenge.rw_weather_k34_no_condition) rfl rfl (fun w h Y => by first | exact PySem.W.km_in_of Y | exact PySem.W.kIn_of Y) ?hT ?hN ?F
  case hT => exact fun w => by kernel_rfl
  case hN => exact fun w => by kernel_rfl
  case F =>
    intro w mg fa h KX G hmg
    refine' W34.all_mk KX G hmg ?a1 ?l1 ?c1 ?k1 ?a10 ?l10 ?c10 ?k10 ?a11 ?l11 ?c11 ?k11 ?a12 ?l12 ?c12 ?k12 ?a13 ?l13 ?c13 ?k13 ?a14 ?l14 ?c14 ?k14 ?a15 ?l15 ?c15 ?k15 ?a16 ?l16 ?c16 ?k16 ?a17 ?l17 ?c17 ?k17 ?a18 ?l18 ?c18 ?k18 ?a19 ?l19 ?c19 ?k19 ?a20 ?l20 ?c20 ?k20 ?a21 ?l21 ?c21 ?k21 ?a22 ?l22 ?c22 ?k22 ?a23 ?l23 ?c23 ?k23 ?a24 ?l24 ?c24 ?k24 ?a25 ?l25 ?c25 ?k25 ?a26 ?l26 ?c26 ?k26 ?a27 ?l27 ?c27 ?k27 ?a28 ?l28 ?c28 ?k28 ?a29 ?l29 ?c29 ?k29 ?a30 ?l30 ?c30 ?k30 ?a31 ?l31 ?c31 ?k31 ?a32 ?l32 ?c32 ?k32 ?a33 ?l33 ?c33 ?k33 ?a34 ?l34 ?c34 ?k34 ?a35 ?l35 ?c35 ?k35 ?a36 ?l36 ?c36 ?k36 ?a37 ?l37 ?c37 ?k37 ?a38 ?l38 ?c38 ?k38 ?a39 ?l39 ?c39 ?k39 ?a40 ?l40 ?c40 ?k40 ?a41 ?l41 ?c41 ?k41 ?a42 ?l42 ?c42 ?k42 ?aC_WeatherError ?aC_NoFraction ?aC_NoText ?aC_Twice ?aC_TooMany ?aC_NoRow ?aC_Tokens ?i_row ?lI_row ?cI_row ?kI_row ?x1_row ?x2_row ?x3_row ?x4_row ?x5_row ?x6_row ?x7_row ?ck1_Tokens ?ck2_Tokens ?ck3_Tokens ?ck4_Tokens ?ck5_Tokens ?ck6_Tokens ?cn_Tokens_tokens ?cn_Tokens_place ?cn_Tokens_parts ?cn_Tokens_brackets ?a2 ?n2 ?l2 ?c2 ?k2 ?a3 ?n3 ?l3 ?c3 ?k3 ?d3 ?a4 ?n4 ?l4 ?c4 ?k4 ?a5 ?n5 ?l5 ?c5 ?k5 ?a6 ?n6 ?l6 ?c6 ?k6 ?a7 ?n7 ?l7 ?c7 ?k7 ?a8 ?n8 ?l8 ?c8 ?k8 ?a9 ?n9 ?l9 ?c9 ?k9 ?ze_WeatherError ?zk_WeatherError ?zg_WeatherError ?zn_WeatherError ?ze_NoFraction ?zk_NoFraction ?zg_NoFraction ?zn_NoFraction ?zc_NoFraction ?zc_NoText ?zc_WeatherError ?q_NoText_NoText ?q_NoText_ValueError ?q_NoText_NoFraction ?q_NoText_NoRow ?q_NoText_TooMany ?q_NoText_Twice ?q_NoText_WeatherError ?g_FIGURES ?g_MOST_FIGURES ?g_TOP_BOUND ?g_BOTTOM_BOUND ?g_LETTERS ?g_MOST_LETTERS ?g_RUN_SIGNS ?g_MOST_PARTS ?g_MOST_BRACKETS ?g_LAST_PLACE ?g_KEY_WORDS ?lt_KEY_WORDS ?z_ValueError ?z_abs ?z_all ?z_any ?z_bool ?z_int ?z_isinstance ?z_len ?z_range ?z_str ?z_tuple
    case a1 | l1 | c1 | k1 | a10 | l10 | c10 | k10 | a11 | l11 | c11 | k11 | a12 | l12 | c12 | k12 | a13 | l13 | c13 | k13 | a14 | l14 | c14 | k14 | a15 | l15 | c15 | k15 | a16 | l16 | c16 | k16 | a17 | l17 | c17 | k17 | a18 | l18 | c18 | k18 | a19 | l19 | c19 | k19 | a20 | l20 | c20 | k20 | a21 | l21 | c21 | k21 | a22 | l22 | c22 | k22 | a23 | l23 | c23 | k23 | a24 | l24 | c24 | k24 | a25 | l25 | c25 | k25 | a26 | l26 | c26 | k26 | a27 | l27 | c27 | k27 | a28 | l28 | c28 | k28 | a29 | l29 | c29 | k29 | a30 | l30 | c30 | k30 | a31 | l31 | c31 | k31 | a32 | l32 | c32 | k32 | a33 | l33 | c33 | k33 | a34 | l34 | c34 | k34 | a35 | l35 | c35 | k35 | a36 | l36 | c36 | k36 | a37 | l37 | c37 | k37 | a38 | l38 | c38 | k38 | a39 | l39 | c39 | k39 | a40 | l40 | c40 | k40 | a41 | l41 | c41 | k41 | a42 | l42 | c42 | k42 | aC_WeatherError | aC_NoFraction | aC_NoText | aC_Twice | aC_TooMany | aC_NoRow | aC_Tokens | i_row | lI_row | cI_row | kI_row => k_is
    case x1_row => kernel_rfl
    case x2_row | x3_row | x4_row | x5_row | x6_row | x7_row => k_is
    case ck1_Tokens | ck2_Tokens | ck3_Tokens => kernel_rfl
    case ck4_Tokens => k_is
    case ck5_Tokens => kernel_rfl
    case ck6_Tokens | cn_Tokens_tokens | cn_Tokens_place | cn_Tokens_parts | cn_Tokens_brackets | a2 | n2 | l2 | c2 | k2 | a3 | n3 | l3 | c3 | k3 | d3 | a4 | n4 | l4 | c4 | k4 | a5 | n5 | l5 | c5 | k5 | a6 | n6 | l6 | c6 | k6 | a7 | n7 | l7 | c7 | k7 | a8 | n8 | l8 | c8 | k8 | a9 | n9 | l9 | c9 | k9 => k_is
    case ze_WeatherError => k_exc
    case zk_WeatherError | zg_WeatherError | zn_WeatherError => k_is
    case ze_NoFraction => k_exc
    case zk_NoFraction | zg_NoFraction | zn_NoFraction | zc_NoFraction | zc_NoText | zc_WeatherError => k_is
    case q_NoText_NoText | q_NoText_ValueError | q_NoText_NoFraction | q_NoText_NoRow | q_NoText_TooMany | q_NoText_Twice | q_NoText_WeatherError => kernel_rfl
    case g_FIGURES | g_MOST_FIGURES | g_TOP_BOUND | g_BOTTOM_BOUND | g_LETTERS | g_MOST_LETTERS | g_RUN_SIGNS | g_MOST_PARTS | g_MOST_BRACKETS | g_LAST_PLACE | g_KEY_WORDS | lt_KEY_WORDS | z_ValueError | z_abs | z_all | z_any | z_bool | z_int | z_isinstance | z_len | z_range | z_str | z_tuple => k_is
#print axioms PySem.Challenge.cw_weather_k34_no_condition_holds
