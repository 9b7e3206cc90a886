import PyProof.Rows.All
import Wide.All
import OpenK.AllK
import Wide.FinOn
import Lean
import PyProof.EqAt
import PyProof.EqKinds
import PyProof.TupleCall
import PyProof.StationsW
import KE.IntBitsLaws
import PyProof.ExcClass2
import PyProof.ExcInit
import PyProof.InstStoreFacts
import PyProof.ExcArgsOwn
import PyProof.ExcAttrAll.ValueError
import KE.KNestM
import KE.IntTextLaws
import KE.KIsAll
import PyProof.Rows.EqDataRows
import PyProof.StrCalls2
import PyProof.Rows.StrSplitJoin
import KE.KIntText
import PyProof.StrBlockI
import PyProof.StrLawsIn
import PyProof.StrLawsIdx
import KE.KLam
import KE.KSortTup
import KE.KRevIter
import PyProof.Rows.SortWalk
import PyProof.Conv_int_bool
import PyProof.StrLawsChain
import PyProof.StrLawsTight
import PySem.Challenge.RW_weather_k12_whole_book_in_any_order
set_option Elab.async false
set_option linter.all false
set_option maxRecDepth 100000
namespace L2
open PySem PySem.Spec PyProof.Rows
noncomputable abbrev Key := Sum Int Str
noncomputable def keyIs : Key -> Value -> Bool
  | .inl k, v => Value.isInt k v
  | .inr x, v => Value.isStrOf x v
noncomputable def keyH (w : World) : Key -> Int
  | .inl k => hashInt k
  | .inr x => hashStr w x
theorem keyIs_shape : ∀ {k : Key} {v : Value}, keyIs k v = true -> (∃ i t, k = Sum.inl i /\ v = Value.int i t) \/ (∃ x t, k = Sum.inr x /\ v = Value.str x t)
  | .inl i, v, h => by
    obtain ⟨t, e⟩ := Value.isInt_shape (k := i) (v := v) h
    exact .inl ⟨i, t, rfl, e⟩
  | .inr x, v, h => by
    obtain ⟨t, e⟩ := Value.isStrOf_shape (x := x) (v := v) h
    exact .inr ⟨x, t, rfl, e⟩
theorem keyIs_int (i : Int) (t : Tok) : keyIs (.inl i) (.int i t) = true := by simp [keyIs, Value.isInt]
theorem keyIs_str (x : Str) (t : Tok) : keyIs (.inr x) (.str x t) = true := by simp [keyIs, Value.isStrOf]
theorem key_ll (a b : Int) : decide ((Sum.inl a : Key) = Sum.inl b) = (a == b) := by
  by_cases e : a = b
  · subst e; simp
  · have h : ¬ (Sum.inl a : Key) = Sum.inl b := fun q => e (Sum.inl.inj q)
    rw [decide_eq_false h]
    exact (beq_eq_false_iff_ne.mpr e).symm
theorem key_rr (a b : Str) : decide ((Sum.inr a : Key) = Sum.inr b) = decide (a = b) := by
  by_cases e : a = b
  · subst e; simp
  · have h : ¬ (Sum.inr a : Key) = Sum.inr b := fun q => e (Sum.inr.inj q)
    rw [decide_eq_false h, decide_eq_false e]
theorem key_lr (a : Int) (b : Str) : decide ((Sum.inl a : Key) = Sum.inr b) = false := decide_eq_false (fun q => nomatch q)
theorem key_rl (a : Str) (b : Int) : decide ((Sum.inr a : Key) = Sum.inl b) = false := decide_eq_false (fun q => nomatch q)
noncomputable def mixKind (prog : Program) (w : World) : PySem.KeyKind prog w Key where
  is := keyIs
  hash := keyH w
  inj := fun v a b ha hb => by
    rcases keyIs_shape ha with ⟨i, t, rfl, rfl⟩ | ⟨x, t, rfl, rfl⟩
    · rcases keyIs_shape hb with ⟨j, u, rfl, e⟩ | ⟨y, u, rfl, e⟩
      · injection e with e1 _; rw [e1]
      · exact nomatch e
    · rcases keyIs_shape hb with ⟨j, u, rfl, e⟩ | ⟨y, u, rfl, e⟩
      · exact nomatch e
      · injection e with e1 _; rw [e1]
  byValue := fun k v h => by
    rcases keyIs_shape h with ⟨i, t, rfl, rfl⟩ | ⟨x, t, rfl, rfl⟩ <;> rfl
  pyHash := fun hv h => by
    rcases keyIs_shape hv with ⟨i, t, rfl, rfl⟩ | ⟨x, t, rfl, rfl⟩
    · exact wpAny_pyHash_int h
    · exact wpAny_pyHash_str h
  eqBool := fun hu hv h => by
    rcases keyIs_shape hu with ⟨i, t, rfl, rfl⟩ | ⟨x, t, rfl, rfl⟩
    · rcases keyIs_shape hv with ⟨j, u, rfl, rfl⟩ | ⟨y, u, rfl, rfl⟩
      · rw [key_ll] at h; exact wpAny_eqBool_int h
      · rw [key_lr] at h; exact SeqAt.EqAt.int_str i t y u _ _ _ _ h
    · rcases keyIs_shape hv with ⟨j, u, rfl, rfl⟩ | ⟨y, u, rfl, rfl⟩
      · rw [key_rl] at h; exact SeqAt.EqAt.str_int x t j u _ _ _ _ h
      · rw [key_rr] at h; exact wpAny_eqBool_str h
  «strs» := fun k x t v h => by
    rcases keyIs_shape h with ⟨i, u, rfl, e⟩ | ⟨y, u, rfl, e⟩
    · exact nomatch e
    · injection e with e1 _
      subst e1
      cases v <;> rfl
theorem mixKind_int (prog : Program) (w : World) (i : Int) (t : Tok) : (mixKind prog w).is (.inl i) (.int i t) = true := keyIs_int i t
theorem mixKind_str (prog : Program) (w : World) (x : Str) (t : Tok) : (mixKind prog w).is (.inr x) (.str x t) = true := keyIs_str x t
end L2
namespace L2
open PySem PySem.Spec PyProof.Rows
inductive V where
  | non | bl (b : Bool) | int (i : Int) | str (x : Str) | byt (b : Array UInt8) | flt (b : UInt64) | ref (a : Addr) | ty (n : String)
  deriving DecidableEq
noncomputable def RelV : V -> Value -> Prop
  | .non, u => u = Value.none
  | .bl b, u => u = Value.bool b
  | .int i, u => ∃ t, u = Value.int i t
  | .str x, u => ∃ t, u = Value.str x t
  | .byt b, u => ∃ t, u = Value.bytes b t
  | .flt b, u => ∃ t, u = Value.float b t
  | .ref a, u => u = Value.ref a
  | .ty n, u => u = Value.type n
noncomputable abbrev Vals : List V -> List Value -> Prop := Paired RelV
theorem Vals.length {xs : List V} {us : List Value} (r : Vals xs us) : xs.length = us.length := Paired.length r
theorem Vals.get : ∀ {xs : List V} {us : List Value} {i : Nat} {x : V}, Vals xs us -> xs[i]? = some x -> ∃ u, us[i]? = some u /\ RelV x u
  | _, _, _, _, .nil, e => by simp at e
  | _, _, 0, _, .cons r _, e => by simp at e; subst e; exact ⟨_, rfl, r⟩
  | _, _, i + 1, x, .cons _ t, e => by
    obtain ⟨u, h1, h2⟩ := Vals.get (i := i) (x := x) t (by simpa using e)
    exact ⟨u, by simpa using h1, h2⟩
theorem Vals.append : ∀ {xs ys : List V} {us ws : List Value}, Vals xs us -> Vals ys ws -> Vals (xs ++ ys) (us ++ ws)
  | _, _, _, _, .nil, s => s
  | _, _, _, _, .cons r t, s => .cons r (Vals.append t s)
theorem Vals.take : ∀ {xs : List V} {us : List Value} (n : Nat), Vals xs us -> Vals (xs.take n) (us.take n)
  | _, _, 0, _ => .nil
  | _, _, _ + 1, .nil => .nil
  | _, _, n + 1, .cons r t => .cons r (Vals.take n t)
theorem Vals.drop : ∀ {xs : List V} {us : List Value} (n : Nat), Vals xs us -> Vals (xs.drop n) (us.drop n)
  | _, _, 0, r => r
  | _, _, _ + 1, .nil => .nil
  | _, _, n + 1, .cons _ t => Vals.drop n t
noncomputable def RelO : Option V -> Option Value -> Prop
  | some v, some u => RelV v u
  | none, none => True
  | _, _ => False
noncomputable def KV {κ : Type} : List (κ × V) -> List (κ × Value) -> Prop := Paired fun (p : κ × V) (q : κ × Value) => p.1 = q.1 /\ RelV p.2 q.2
noncomputable def kV : Key -> V
  | .inl i => .int i
  | .inr x => .str x
inductive HO where
  /-- a list -/
  | lst (xs : List V)
  /-- a tuple (never changes) -/
  | tup (xs : List V)
  /-- a dict whose keys are ints and texts; one whose keys are tuples of ints and texts (the empty one is both) -/
  | dK (kvs : List (Key × V)) | dT (kvs : List (List Key × V))
  /-- a set of ints: its members, its size -/
  | set (S : Int -> Bool) (n : Nat)
  /-- an instance of the class at C, its dict at dx, its attributes -/
  | ins (C dx : Addr) (fs : List (Str × V))
  /-- the dict of the instance at x -/
  | own (x : Addr)
  /-- the dict of an exception -/
  | xd (fs : List (Str × V))
  /-- a bound method, f of x -/
  | met (f x : Addr)
  /-- a range object lo, lo + 1, .. below hi -/
  | rng (lo hi : Int)
  /-- a thing that is known to the object (the script; a dict while a loop walks it): read, never written while it is so -/
  | frz (o : Obj) (u : HO)
  /-- a code object's table -/
  | tbl (ps : Array Value)
  /-- any other thing, by what is true of its one object (a def of one's own: SetO a S n := HO.ext fun h => ..) -/
  | ext (φ : Heap -> Prop)
noncomputable abbrev Hp := Addr -> Option HO
noncomputable def upd (H : Hp) (a : Addr) (o : HO) : Hp := fun b => if b = a then some o else H b
theorem upd_same {H : Hp} {a : Addr} {o : HO} : upd H a o a = some o := by unfold upd; rw [if_pos rfl]
theorem upd_ne {H : Hp} {a b : Addr} {o : HO} (h : b ≠ a) : upd H a o b = H b := by unfold upd; rw [if_neg h]
theorem ne_of {H : Hp} {a b : Addr} {o u : HO} (h : H a = some o) (h' : H b = some u) (d : o ≠ u) : a ≠ b := by
  intro e; subst e; rw [h] at h'; exact d (Option.some.inj h')
theorem ne_of_none {H : Hp} {a b : Addr} {o : HO} (h : H a = some o) (h' : H b = none) : a ≠ b := by
  intro e; subst e; rw [h] at h'; cases h'
section
variable (P : Program) (w : World)
noncomputable def ObjOk (H : Hp) (h : Heap) (a : Addr) : HO -> Prop
  | .lst xs => xs.length <= sizeLine /\ ∃ (its : List Value) (n : Nat), Vals xs its /\ h.get? a = some { cls := .type "list", data := .seq its.toArray n }
  | .tup xs => xs.length <= sizeLine /\ ∃ its : List Value, Vals xs its /\ IsTup h a its.toArray
  | .dK kvs => kvs.length <= sizeLine /\ (a == sysModules) = false /\ ∃ vs, KV kvs vs /\ h.DictOf (mixKind P w) a vs
  | .dT kvs => kvs.length <= sizeLine /\ (a == sysModules) = false /\ ∃ xs : List (List Key × Addr × Value),
      Paired (fun (p : List Key × V) (q : List Key × Addr × Value) => p.1 = q.1 /\ H q.2.1 = some (.tup (p.1.map kV)) /\ RelV p.2 q.2.2) kvs xs /\
      ∃ o es ep, h.get? a = some o /\ o.ExactDict /\ o.data = .dict es ep /\ es.toList = xs.map (entryOfKey (tupleKind (mixKind P w))) /\ (xs.map (·.1)).Nodup
  | .set S n => h.SetOf (intKind P w) a S n
  | .ins C dx fs => H dx = some (.own a) /\ fs.length <= 1000 /\ dx ≠ a /\ h.get? a = some (PySem.W.instObj C dx) /\
      ∃ mA, h.Ns1 dx mA /\ (∀ f, RelO (fs.lookup f) (mA f)) /\ PySem.Within mA (fs.map (·.1))
  | .own _ => ∃ o, h.get? a = some o
  | .xd fs => ∃ mA, h.Ns1 a mA /\ ∀ f, RelO (fs.lookup f) (mA f)
  | .rng lo hi => ∃ t u v, h.get? a = some { cls := .type "range", data := .fields #[.int lo t, .int hi u, .int 1 v] }
  | .frz o u => h.get? a = some o /\ ObjOk H h a u
  | .tbl ps => h.get? a = some { cls := .none, data := .fields ps }
  | .met f x => h.get? a = some (PySem.W.methodObj (.ref f) (.ref x))
  | .ext φ => φ h /\ (∃ o, h.get? a = some o) /\ ∀ h1 h2 : Heap, φ h1 -> (∀ o, h1.get? a = some o -> h2.get? a = some o) -> φ h2
noncomputable def HOk (H : Hp) (h : Heap) : Prop := ∀ a o, H a = some o -> ObjOk P w H h a o
end
section
variable {P : Program} {w : World} {H H' : Hp} {h h' : Heap} {a : Addr} {o : HO}
theorem ObjOk.lt (x : ObjOk P w H h a o) : a < h.objs.size := by
  cases o with
  | lst xs => obtain ⟨_, _, _, _, e⟩ := x; exact Heap.lt_size e
  | tup xs => obtain ⟨_, _, _, p⟩ := x; exact p.lt
  | dK kvs => obtain ⟨_, _, _, _, o, _, _, e, _⟩ := x; exact Heap.lt_size e
  | dT kvs => obtain ⟨_, _, _, _, o, _, _, e, _⟩ := x; exact Heap.lt_size e
  | set S n => obtain ⟨o, _, _, _, e, _⟩ := x; exact Heap.lt_size e
  | ins C dx fs => obtain ⟨_, _, _, e, _⟩ := x; exact Heap.lt_size e
  | own y => obtain ⟨_, e⟩ := x; exact Heap.lt_size e
  | xd fs => obtain ⟨_, ⟨_, _, _, e, _⟩, _⟩ := x; exact Heap.lt_size e
  | rng lo hi => obtain ⟨_, _, _, e⟩ := x; exact Heap.lt_size e
  | frz ob u => obtain ⟨e, _⟩ := x; exact Heap.lt_size e
  | tbl ps => exact Heap.lt_size (show h.get? a = some _ from x)
  | met f y => exact Heap.lt_size (show h.get? a = some _ from x)
  | ext φ => obtain ⟨_, ⟨_, e⟩, _⟩ := x; exact Heap.lt_size e
theorem Paired.mapP {α β : Type} {F G : α -> β -> Prop} : ∀ {l₁ : List α} {l₂ : List β}, Paired F l₁ l₂ -> (∀ a b, F a b -> G a b) -> Paired G l₁ l₂
  | _, _, .nil, _ => .nil
  | _, _, .cons r t, f => .cons (f _ _ r) (Paired.mapP t f)
theorem ObjOk.stay (x : ObjOk P w H h a o) (k : ∀ b u, (b = a \/ H b = some (.own a)) -> h.get? b = some u -> h'.get? b = some u)
    (ho : ∀ b, H b = some (.own a) -> H' b = some (.own a)) (ht : ∀ b xs, H b = some (.tup xs) -> H' b = some (.tup xs)) : ObjOk P w H' h' a o := by
  induction o with
  | lst xs => obtain ⟨z, its, n, r, e⟩ := x; exact ⟨z, its, n, r, k _ _ (.inl rfl) e⟩
  | tup xs => obtain ⟨z, its, r, ob, e, c⟩ := x; exact ⟨z, its, r, ob, k _ _ (.inl rfl) e, c⟩
  | dK kvs => obtain ⟨z, y, vs, r, ob, es, ep, e, c⟩ := x; exact ⟨z, y, vs, r, ob, es, ep, k _ _ (.inl rfl) e, c⟩
  | dT kvs =>
    obtain ⟨z, y, xs, r, ob, es, ep, e, c⟩ := x
    exact ⟨z, y, xs, Paired.mapP r fun p q z => ⟨z.1, ht _ _ z.2.1, z.2.2⟩, ob, es, ep, k _ _ (.inl rfl) e, c⟩
  | set S n => obtain ⟨ob, es, ep, t, e, c⟩ := x; exact ⟨ob, es, ep, t, k _ _ (.inl rfl) e, c⟩
  | ins C dx fs =>
    obtain ⟨d, z, ne, e, mA, ⟨od, es, ep, e2, c⟩, r⟩ := x
    exact ⟨ho _ d, z, ne, k _ _ (.inl rfl) e, mA, ⟨od, es, ep, k _ _ (.inr d) e2, c⟩, r⟩
  | own y => obtain ⟨ob, e⟩ := x; exact ⟨ob, k _ _ (.inl rfl) e⟩
  | xd fs => obtain ⟨mA, ⟨od, es, ep, e, c⟩, r⟩ := x; exact ⟨mA, ⟨od, es, ep, k _ _ (.inl rfl) e, c⟩, r⟩
  | rng lo hi => obtain ⟨t, u, v, e⟩ := x; exact ⟨t, u, v, k _ _ (.inl rfl) e⟩
  | frz ob u ih => obtain ⟨e, q⟩ := x; exact ⟨k _ _ (.inl rfl) e, ih q⟩
  | tbl ps =>
    have e : h.get? a = some { cls := .none, data := .fields ps } := x
    show h'.get? a = some { cls := .none, data := .fields ps }
    exact k a _ (.inl rfl) e
  | met f y =>
    have e : h.get? a = some (PySem.W.methodObj (.ref f) (.ref y)) := x
    show h'.get? a = some (PySem.W.methodObj (.ref f) (.ref y))
    exact k a _ (.inl rfl) e
  | ext φ => obtain ⟨p, ⟨o, e⟩, st⟩ := x; exact ⟨st _ _ p fun o q => k _ _ (.inl rfl) q, ⟨o, k _ _ (.inl rfl) e⟩, st⟩
theorem HOk.lt (x : HOk P w H h) (e : H a = some o) : a < h.objs.size := (x a o e).lt
theorem HOk.fresh (x : HOk P w H h) (e : h.objs.size <= a) : H a = none := by
  cases q : H a with
  | none => rfl
  | some u => exact absurd (Nat.lt_of_lt_of_le (x.lt q) e) (Nat.lt_irrefl _)
theorem HOk.kept (x : HOk P w H h) (k : ∀ b u, h.get? b = some u -> h'.get? b = some u) : HOk P w H h' := fun a o e =>
  (x a o e).stay (fun b u _ q => k b u q) (fun _ q => q) fun _ _ q => q
theorem HOk.laid (x : HOk P w H h) (k : ∀ b u, h.get? b = some u -> h'.get? b = some u) (hp : h.objs.size <= a) (new : ObjOk P w (upd H a o) h' a o) : HOk P w (upd H a o) h' := fun b u e => by
  have hn := x.fresh hp
  by_cases hb : b = a
  · subst hb; rw [upd_same] at e; cases e; exact new
  · rw [upd_ne hb] at e
    exact (x b u e).stay (fun c v _ q => k c v q) (fun c q => by rw [upd_ne (ne_of_none q hn)]; exact q) fun c xs q => by rw [upd_ne (ne_of_none q hn)]; exact q
end
noncomputable def Rd (H : Hp) (a : Addr) (u : HO) : Prop := H a = some u \/ ∃ o, H a = some (.frz o u)
theorem Rd.ok {P : Program} {w : World} {H : Hp} {h : Heap} {a : Addr} {u : HO} (r : Rd H a u) (x : HOk P w H h) : ObjOk P w H h a u := by
  rcases r with r | ⟨o, r⟩
  · exact x a u r
  · obtain ⟨_, q⟩ := x a _ r
    exact q
noncomputable def Mut : Option HO -> Prop
  | some (.lst _) => True
  | some (.dK _) => True
  | some (.dT _) => True
  | some (.set _ _) => True
  | some (.ins _ _ _) => True
  | some (.ext _) => True
  | _ => False
section
variable {P : Program} {w : World} {H : Hp} {h h' : Heap} {x e : Addr} {o' : HO}
theorem HOk.write (ok : HOk P w H h) (mu : Mut (H x)) (he : e = x \/ H e = some (.own x)) (k : ∀ b u, b ≠ e -> h.get? b = some u -> h'.get? b = some u) (heo : ∃ u, h'.get? e = some u)
    (new : ObjOk P w (upd H x o') h' x o') : HOk P w (upd H x o') h' := fun b u q => by
  have nown : ∀ c y, H c = some (.own y) -> c ≠ x := fun c y r z => by subst z; rw [r] at mu; exact mu
  have ntup : ∀ c xs, H c = some (.tup xs) -> c ≠ x := fun c xs r z => by subst z; rw [r] at mu; exact mu
  by_cases hb : b = x
  · subst hb; rw [upd_same] at q; cases q; exact new
  · rw [upd_ne hb] at q
    by_cases hbe : b = e
    · have q' : H b = some (.own x) := by
        rcases he with z | z
        · exact absurd (hbe.trans z) hb
        · rw [hbe]; exact z
      rw [q] at q'; cases q'
      obtain ⟨v, hv⟩ := heo
      exact ⟨v, by rw [hbe]; exact hv⟩
    · refine (ok b u q).stay (fun c v hc r => k c v ?_ r) (fun c r => by rw [upd_ne (nown c b r)]; exact r) fun c xs r => by rw [upd_ne (ntup c xs r)]; exact r
      rcases hc with rfl | hc
      · exact hbe
      · rintro rfl
        rcases he with z | z
        · exact nown c b hc z
        · rw [hc] at z; cases z; exact hb rfl
end
structure Un (fs ex : List Addr) (H H' : Hp) (h h' : Heap) : Prop where
  keep : ∀ b o, h.get? b = some o -> H b = none -> b ∉ fs -> b ∉ ex -> h'.get? b = some o
  slot : ∀ b o, h.get? b = some o -> H b = none -> b ∈ fs -> b ∉ ex -> ∃ sl, h'.get? b = some { o with slots := sl }
  free : ∀ b o, h.get? b = some o -> H b = none -> b ∉ ex -> H' b = none
  there : ∀ b o, h.get? b = some o -> b ∉ ex -> ∃ o', h'.get? b = some o'
  tups : ∀ b xs, H b = some (.tup xs) -> H' b = some (.tup xs)
  frzs : ∀ b o u, H b = some (.frz o u) -> H' b = some (.frz o u)
  tbls : ∀ b ps, H b = some (.tbl ps) -> ∃ more, H' b = some (.tbl (ps ++ more))
section
variable {fs fs' ex ex' : List Addr} {H H1 H2 : Hp} {h h1 h2 h' : Heap} {a x e : Addr} {o : HO}
theorem Un.any (u : Un fs ex H H1 h h1) {b : Addr} {ob : Obj} (q : h.get? b = some ob) (n : H b = none) (hx : b ∉ ex) : ∃ sl, h1.get? b = some { ob with slots := sl } := by
  by_cases hb : b ∈ fs
  · exact u.slot b ob q n hb hx
  · exact ⟨ob.slots, u.keep b ob q n hb hx⟩
theorem Un.kept (k : ∀ b u, h.get? b = some u -> h'.get? b = some u) : Un fs ex H H h h' :=
  ⟨fun b ob q _ _ _ => k b ob q, fun b ob q _ _ _ => ⟨ob.slots, k b ob q⟩, fun _ _ _ n _ => n, fun b ob q _ => ⟨ob, k b ob q⟩, fun _ _ q => q, fun _ _ _ q => q, fun _ ps q => ⟨#[], by rw [q]; simp⟩⟩
theorem Un.refl : Un fs ex H H h h := Un.kept fun _ _ q => q
theorem Un.laid (k : ∀ b u, h.get? b = some u -> h'.get? b = some u) (hp : h.objs.size <= a) (hn : H a = none) : Un fs ex H (upd H a o) h h' where
  keep := fun b u q _ _ _ => k b u q
  slot := fun b u q _ _ _ => ⟨u.slots, k b u q⟩
  free := fun b u q n _ => by rw [upd_ne (Nat.ne_of_lt (Nat.lt_of_lt_of_le (Heap.lt_size q) hp))]; exact n
  there := fun b u q _ => ⟨u, k b u q⟩
  tups := fun b xs q => by rw [upd_ne (ne_of_none q hn)]; exact q
  frzs := fun b u xs q => by rw [upd_ne (ne_of_none q hn)]; exact q
  tbls := fun b ps q => ⟨#[], by rw [upd_ne (ne_of_none q hn), q]; simp⟩
theorem Un.write (mu : Mut (H x)) (he : e = x \/ H e = some (.own x)) (k : ∀ b u, b ≠ e -> h.get? b = some u -> h'.get? b = some u) (heo : ∃ u, h'.get? e = some u) : Un fs ex H (upd H x o) h h' := by
  have hx : ∀ b, H b = none -> b ≠ x := fun b n z => by subst z; rw [n] at mu; exact mu
  have hb : ∀ b, H b = none -> b ≠ e := fun b n z => by
    subst z
    rcases he with r | r
    · exact hx b n r
    · rw [n] at r; cases r
  have hm : ∀ b u, H b = some u -> ¬ Mut (some u) -> b ≠ x := fun b u q nm z => by subst z; rw [q] at mu; exact nm mu
  refine ⟨fun b u q n _ _ => k b u (hb b n) q, fun b u q n _ _ => ⟨u.slots, k b u (hb b n) q⟩, fun b u q n _ => by rw [upd_ne (hx b n)]; exact n, fun b u q _ => ?_,
    fun b xs q => by rw [upd_ne (hm b _ q fun z => z)]; exact q, fun b u xs q => by rw [upd_ne (hm b _ q fun z => z)]; exact q, fun b ps q => ⟨#[], by rw [upd_ne (hm b _ q fun z => z), q]; simp⟩⟩
  by_cases hbe : b = e
  · subst hbe; exact heo
  · exact ⟨u, k b u hbe q⟩
end
noncomputable def trk (h : Heap) (H : Hp) : List Addr := (List.range h.objs.size).filter fun a => (H a).isSome
noncomputable def hidT (h : Heap) (H : Hp) : Heap := PySem.W.hideAll h (trk h H)
theorem hidT_size (h : Heap) (H : Hp) : (hidT h H).objs.size = h.objs.size := PySem.W.hideAll_size _ _
theorem hidT_get {h : Heap} {H : Hp} {b : Addr} {o : Obj} (e : h.get? b = some o) (n : H b = none) : (hidT h H).get? b = some o :=
  PySem.W.hideAll_get _ e fun hm => by
    have q : (H b).isSome = true := (List.mem_filter.mp hm).2
    rw [n] at q; simp at q
theorem of_hidT {h : Heap} {H : Hp} {b : Addr} {o : Obj} (e : (hidT h H).get? b = some o) : h.get? b = some o /\ H b = none := by
  have e' : h.get? b = some o := PySem.W.of_hideAll (trk h H) e
  refine ⟨e', ?_⟩
  cases q : H b with
  | none => rfl
  | some x =>
    have hm : b ∈ trk h H := List.mem_filter.mpr ⟨List.mem_range.mpr (Heap.lt_size e'), by simp [q]⟩
    have z : (hidT h H).get? b = none := PySem.W.hideAll_none (trk h H) hm
    rw [z] at e; cases e
noncomputable def allNews (g h : Heap) (L : Addr) : List (Addr × Obj) := (List.range h.objs.size).filterMap fun a => if a = L \/ (g.get? a).isSome = true then none else (h.get? a).map fun o => (a, o)
noncomputable def rest (g h : Heap) (L d : Addr) : List (Addr × Obj) := (allNews g h L).filter fun p => decide (p.1 ≠ d)
end L2
namespace L2
open PySem PySem.Spec PyProof.Rows
structure Mod (K : PySem.W.Frag) (mg : Str -> Option Value) (base : Heap) : Prop where
  kin : K.In base
  glob : base.Ns mainGlobals mg
  blt : ∃ mb, base.Ns builtinsNs mb /\ ∀ x : Str, x ≠ "__name__" -> mb x = bootBuiltins x
  nolimit : base.NoLimit
structure Cx where
  prog : Program
  w : World
  K : PySem.W.Frag
  mg : Str -> Option Value
  base : Heap
  A : Around
  N : List Str
  s₀ : Shared
  H₀ : Hp
  env : Env
  outer : List Env
  stack : List Env
  ex : List Addr
  fn : Str -> Bool
  calm : Bool
  pn : List (Addr × Obj)
  xe : Value -> Shared -> Prop
noncomputable def frs (l : List Env) : List Addr := l.filterMap (·.frame)
noncomputable abbrev Cx.fs (X : Cx) : List Addr := frs X.outer
noncomputable def Vis (sc : Scope) (x : Str) : Prop := sc.names.lookup x = some .local \/ sc.names.lookup x = some .cell \/ sc.names.lookup x = some .free
noncomputable def Loc (sc : Scope) (x : Str) : Prop := sc.names.lookup x = some .local \/ sc.names.lookup x = some .cell
noncomputable def Look (env : Env) (h : Heap) (m : Str -> Option Value) (x : Str) (u : Value) : Prop :=
  (env.kindOf x = some .local /\ m x = some u) \/ ((env.kindOf x = some .cell \/ env.kindOf x = some .free) /\ ∃ c, env.cells.lookup x = some c /\ h.IsCell c (some u))
structure Cx.Ok (X : Cx) : Prop where
  mod : Mod X.K X.mg X.base
  kind : X.env.scope.kind = .function
  glob : X.env.globals = mainGlobals
  blt : X.env.builtins = builtinsNs
  above : X.s₀.heap.objs.size <= X.env.locals
  inj : ∀ x y c, X.env.cells.lookup x = some c -> X.env.cells.lookup y = some c -> x = y
  has : ∀ x, (X.env.kindOf x = some .cell \/ X.env.kindOf x = some .free) -> ∃ c, X.env.cells.lookup x = some c
  cab : ∀ x c, X.fn x = true -> X.env.cells.lookup x = some c -> X.s₀.heap.objs.size <= c
  hd : X.calm = true -> X.A.handled = none
  frames : X.A.frames = some X.stack
  stk : X.stack = X.outer \/ (X.stack = X.env :: X.outer /\ X.env.frame = some X.env.locals)
  exf : ∀ b ∈ X.ex, b ≠ X.env.locals /\ ∀ x c, X.env.cells.lookup x = some c -> c ≠ b
  bs : ∀ b o, X.base.get? b = some o -> X.s₀.heap.get? b = some o /\ X.H₀ b = none
  bsz : X.base.objs.size <= X.s₀.heap.objs.size
  noex : ∀ b o, X.base.get? b = some o -> b ∉ X.ex
  exfs : ∀ b ∈ X.ex, b ∉ X.fs
  funs : X.s₀.heap.FunFrames X.base X.outer
  frf : ∀ b ∈ X.fs, X.H₀ b = none
structure Inv (X : Cx) (pins : List (Addr × Obj)) (σ : List (Option V)) (H : Hp) (s : Shared) : Prop where
  ok : X.Ok
  os : s.os = X.s₀.os
  bare : AllBare s.gens
  base : Un X.fs X.ex X.H₀ H X.s₀.heap s.heap
  loc : ∃ m, s.heap.Ns X.env.locals m /\ ∀ (i : Nat) (x : Str) (v : V), X.N[i]? = some x -> σ[i]? = some (some v) -> Vis X.env.scope x -> ∃ u, RelV v u /\ Look X.env s.heap m x u
  cell : ∀ x c, X.env.cells.lookup x = some c -> ∃ v, s.heap.IsCell c v
  free : H X.env.locals = none
  freeC : ∀ x c, X.env.cells.lookup x = some c -> H c = none
  pin : ∀ p ∈ X.pn ++ pins, s.heap.get? p.1 = some p.2 /\ H p.1 = none /\ p.1 ≠ X.env.locals /\ p.1 ∉ X.fs /\ ∀ v, p.2.data ≠ .cell v
  hok : HOk X.prog X.w H s.heap
  len : σ.length = X.N.length
section
variable {X : Cx} {pins : List (Addr × Obj)} {σ : List (Option V)} {H H' : Hp} {s : Shared} {h' : Heap}
theorem Cx.Ok.nofr (ok : X.Ok) {b : Addr} {o : Obj} (e : X.base.get? b = some o) : b ∉ X.fs := fun hb => by
  have := (ok.funs.mem hb).1
  rw [e] at this; cases this
theorem Inv.bs (I : Inv X pins σ H s) : ∀ b o, X.base.get? b = some o -> s.heap.get? b = some o /\ H b = none := fun b o e =>
  ⟨I.base.keep b o (I.ok.bs b o e).1 (I.ok.bs b o e).2 (I.ok.nofr e) (I.ok.noex b o e), I.base.free b o (I.ok.bs b o e).1 (I.ok.bs b o e).2 (I.ok.noex b o e)⟩
theorem Inv.bk (I : Inv X pins σ H s) : ∀ b o, X.base.get? b = some o -> s.heap.get? b = some o := fun b o e => (I.bs b o e).1
theorem Inv.mod (I : Inv X pins σ H s) : Mod X.K X.mg X.base := I.ok.mod
theorem Inv.kIn (I : Inv X pins σ H s) : X.K.In s.heap := I.ok.mod.kin.keeps I.bk
theorem Inv.lt (I : Inv X pins σ H s) : X.env.locals < s.heap.objs.size := let ⟨_, hn, _⟩ := I.loc; hn.lt
theorem Inv.sz (I : Inv X pins σ H s) : X.s₀.heap.objs.size <= s.heap.objs.size := Nat.le_trans I.ok.above (Nat.le_of_lt I.lt)
theorem Inv.nofs (I : Inv X pins σ H s) {a : Addr} (h : s.heap.objs.size <= a) : a ∉ X.fs := fun hb => by
  obtain ⟨_, o, ho, _⟩ := I.ok.funs.mem hb
  exact absurd (Nat.lt_of_lt_of_le (Heap.lt_size ho) (Nat.le_trans I.sz h)) (Nat.lt_irrefl _)
theorem Inv.cne (I : Inv X pins σ H s) : ∀ x c, X.env.cells.lookup x = some c -> c ≠ X.env.locals := fun x c e z => by
  obtain ⟨v, o, ho, hd⟩ := I.cell x c e
  obtain ⟨m, ⟨o', es, ep, ho', hd', _⟩, _⟩ := I.loc
  rw [z, ho'] at ho; cases ho; rw [hd'] at hd; cases hd
theorem Inv.funs (I : Inv X pins σ H s) : s.heap.FunFrames X.base X.outer := by
  have all : ∀ (l : List Env), (∀ b ∈ frs l, b ∈ X.fs) -> X.s₀.heap.FunFrames X.base l -> s.heap.FunFrames X.base l := by
    intro l
    induction l with
    | nil => intro _ _; trivial
    | cons env r ih =>
      intro hs hl
      obtain ⟨hk, ⟨L, o, hf, hn, ho, hd⟩, hr⟩ := hl
      have hL : L ∈ X.fs := hs L (by unfold frs; rw [List.filterMap_cons, hf]; exact List.mem_cons_self)
      obtain ⟨sl, e⟩ := I.base.slot L o ho (I.ok.frf L hL) hL fun z => I.ok.exfs L z hL
      exact ⟨hk, ⟨L, _, hf, hn, e, hd⟩, ih (fun b hb => hs b (by unfold frs; rw [List.filterMap_cons, hf]; exact List.mem_cons_of_mem _ hb)) hr⟩
  exact all X.outer (fun _ hb => hb) I.ok.funs
theorem Inv.stack (I : Inv X pins σ H s) : s.heap.FunFrames X.base X.stack := by
  rcases I.ok.stk with e | ⟨e, hf⟩
  · rw [e]; exact I.funs
  · rw [e]
    obtain ⟨m, hn, _⟩ := I.loc
    refine .cons (by rw [I.ok.kind]; decide) hf hn ?_ I.funs
    exact Heap.get?_none_of_le (Nat.le_trans I.ok.bsz I.ok.above)
theorem Inv.stkSub (I : Inv X pins σ H s) : ∀ b ∈ frs X.stack, b ∈ X.env.locals :: X.fs := fun b hb => by
  rcases I.ok.stk with e | ⟨e, hf⟩
  · rw [e] at hb; exact List.mem_cons_of_mem _ hb
  · rw [e] at hb
    unfold frs at hb
    rw [List.filterMap_cons, hf] at hb
    exact hb
theorem Inv.stkFree (I : Inv X pins σ H s) : ∀ b ∈ frs X.stack, H b = none := fun b hb => by
  rcases List.mem_cons.mp (I.stkSub b hb) with e | hb
  · rw [e]; exact I.free
  · obtain ⟨_, o, ho, _⟩ := I.ok.funs.mem hb
    exact I.base.free b o ho (I.ok.frf b hb) fun z => I.ok.exfs b z hb
theorem Inv.step {g' : Array GenState} {t' : Nat} {d' : Drawn} {ch : List Addr} (I : Inv X pins σ H s)
    (hch : ∀ b ∈ ch, (b ∈ X.ex \/ X.s₀.heap.objs.size <= b) /\ b ≠ X.env.locals /\ (∀ x c, X.env.cells.lookup x = some c -> c ≠ b) /\ ∀ p ∈ X.pn ++ pins, p.1 ≠ b)
    (keep : ∀ b o, b ≠ X.env.locals -> b ∉ X.fs -> b ∉ ch -> s.heap.get? b = some o -> H b = none -> h'.get? b = some o)
    (slot : ∀ b o, b ≠ X.env.locals -> b ∈ X.fs -> b ∉ ch -> s.heap.get? b = some o -> H b = none -> ∃ sl, h'.get? b = some { o with slots := sl }) (free : ∀ b o, b ∉ ch -> s.heap.get? b = some o -> H b = none -> H' b = none)
    (there : ∀ b o, b ∉ ch -> s.heap.get? b = some o -> ∃ o', h'.get? b = some o')
    (tups : ∀ b xs, H b = some (.tup xs) -> H' b = some (.tup xs)) (frzs : ∀ b o u, H b = some (.frz o u) -> H' b = some (.frz o u)) (tbls : ∀ b ps, H b = some (.tbl ps) -> ∃ more, H' b = some (.tbl (ps ++ more)))
    (ns : ∀ m, s.heap.Ns X.env.locals m -> h'.Ns X.env.locals m) (hok : HOk X.prog X.w H' h') (hg : AllBare g') :
    Inv X pins σ H' { s with heap := h', gens := g', drawn := d', toks := t' } := by
  have neL : ∀ b o, X.s₀.heap.get? b = some o -> b ≠ X.env.locals := fun b o e => Nat.ne_of_lt (Nat.lt_of_lt_of_le (Heap.lt_size e) I.ok.above)
  have neC : ∀ b o, X.s₀.heap.get? b = some o -> b ∉ X.ex -> b ∉ ch := fun b o e hx hb => by
    rcases (hch b hb).1 with z | z
    · exact hx z
    · exact absurd (Nat.lt_of_lt_of_le (Heap.lt_size e) z) (Nat.lt_irrefl _)
  have cellK : ∀ x c, X.env.cells.lookup x = some c -> ∀ v, s.heap.IsCell c v -> h'.IsCell c v := fun x c e v ⟨o, ho, hd⟩ => by
    have nch : c ∉ ch := fun z => (hch c z).2.2.1 x c e rfl
    by_cases hc : c ∈ X.fs
    · obtain ⟨sl, q⟩ := slot c o (I.cne x c e) hc nch ho (I.freeC x c e)
      exact ⟨_, q, hd⟩
    · exact ⟨o, keep c o (I.cne x c e) hc nch ho (I.freeC x c e), hd⟩
  refine ⟨I.ok, I.os, hg, ⟨fun b o e n hb hx => ?_, fun b o e n hb hx => ?_, fun b o e n hx => ?_, fun b o e hx => ?_, fun b xs e => tups b xs (I.base.tups b xs e), fun b o xs e => frzs b o xs (I.base.frzs b o xs e), fun b ps e => ?_⟩, ?_, fun x c e => ?_, ?_, fun x c e => ?_, fun p hp => ?_, hok, I.len⟩
  · exact keep b o (neL b o e) hb (neC b o e hx) (I.base.keep b o e n hb hx) (I.base.free b o e n hx)
  · obtain ⟨sl, e1⟩ := I.base.slot b o e n hb hx
    obtain ⟨sl', e2⟩ := slot b _ (neL b o e) hb (neC b o e hx) e1 (I.base.free b o e n hx)
    exact ⟨sl', e2⟩
  · obtain ⟨o', e1⟩ := I.base.there b o e hx
    exact free b o' (neC b o e hx) e1 (I.base.free b o e n hx)
  · obtain ⟨o', e1⟩ := I.base.there b o e hx
    exact there b o' (neC b o e hx) e1
  · obtain ⟨m1, e1⟩ := I.base.tbls b ps e
    obtain ⟨m2, e2⟩ := tbls b _ e1
    exact ⟨m1 ++ m2, by rw [e2, Array.append_assoc]⟩
  · obtain ⟨m, hn, hl⟩ := I.loc
    refine ⟨m, ns m hn, fun i x v e1 e2 e3 => ?_⟩
    obtain ⟨u, r, l⟩ := hl i x v e1 e2 e3
    refine ⟨u, r, ?_⟩
    rcases l with l | ⟨k, c, e, z⟩
    · exact .inl l
    · exact .inr ⟨k, c, e, cellK x c e _ z⟩
  · obtain ⟨v, z⟩ := I.cell x c e
    exact ⟨v, cellK x c e v z⟩
  · obtain ⟨m, ⟨o, _, _, ho, _⟩, _⟩ := I.loc
    exact free _ o (fun z => (hch _ z).2.1 rfl) ho I.free
  · obtain ⟨v, o, ho, hd⟩ := I.cell x c e
    exact free c o (fun z => (hch c z).2.2.1 x c e rfl) ho (I.freeC x c e)
  · obtain ⟨e, n, ne, nf, d⟩ := I.pin p hp
    have nch : p.1 ∉ ch := fun z => (hch p.1 z).2.2.2 p hp rfl
    exact ⟨keep p.1 p.2 ne nf nch e n, free p.1 p.2 nch e n, ne, nf, d⟩
theorem Inv.un {t' : Nat} (I : Inv X pins σ H s) (u : Un X.fs [] H H' s.heap h') (hok : HOk X.prog X.w H' h') : Inv X pins σ H' { s with heap := h', toks := t' } := by
  obtain ⟨m, ⟨o, es, ep, ho, r⟩, _⟩ := id I.loc
  obtain ⟨sl, hL⟩ := u.any ho I.free (by simp)
  exact I.step (g' := s.gens) (d' := s.drawn) (ch := []) (fun _ z => nomatch z) (fun b o _ hb _ e n => u.keep b o e n hb (by simp)) (fun b o _ hb _ e n => u.slot b o e n hb (by simp)) (fun b o _ e n => u.free b o e n (by simp)) (fun b o _ e => u.there b o e (by simp)) u.tups u.frzs u.tbls (fun m' hm => by
    obtain ⟨o', es', ep', ho', r'⟩ := hm
    rw [ho] at ho'; cases ho'
    exact ⟨_, es', ep', hL, r'⟩) hok I.bare
theorem Inv.call {g' : Array GenState} {t' : Nat} {d' : Drawn} {ch : List Addr} (I : Inv X pins σ H s) (u : Un (frs X.stack) ch H H' s.heap h') (hok : HOk X.prog X.w H' h') (hg : AllBare g')
    (hch : ∀ b ∈ ch, (b ∈ X.ex \/ X.s₀.heap.objs.size <= b) /\ b ≠ X.env.locals /\ (∀ x c, X.env.cells.lookup x = some c -> c ≠ b) /\ ∀ p ∈ X.pn ++ pins, p.1 ≠ b) :
    Inv X pins σ H' { s with heap := h', gens := g', drawn := d', toks := t' } := by
  obtain ⟨m, ⟨o, es, ep, ho, r⟩, _⟩ := id I.loc
  obtain ⟨sl, hL⟩ := u.any ho I.free fun z => (hch _ z).2.1 rfl
  exact I.step (ch := ch) hch (fun b o hL hb hc e n => u.keep b o e n (fun z => (List.mem_cons.mp (I.stkSub b z)).elim hL hb) hc) (fun b o _ _ hc e n => u.any e n hc) (fun b o hc e n => u.free b o e n hc) (fun b o hc e => u.there b o e hc) u.tups u.frzs u.tbls (fun m' hm => by
    obtain ⟨o', es', ep', ho', r'⟩ := hm
    rw [ho] at ho'; cases ho'
    exact ⟨_, es', ep', hL, r'⟩) hok hg
theorem Inv.turned {t' : Nat} {it : Addr} (I : Inv X pins σ H s) (k : ∀ b o, b ≠ it -> s.heap.get? b = some o -> h'.get? b = some o) (hn : H it = none) (hL : it ≠ X.env.locals)
    (h1 : it ∈ X.ex \/ X.s₀.heap.objs.size <= it) (h2 : ∀ x c, X.env.cells.lookup x = some c -> c ≠ it) (h3 : ∀ p ∈ X.pn ++ pins, p.1 ≠ it) : Inv X pins σ H { s with heap := h', toks := t' } := by
  have nit : ∀ b u, H b = some u -> b ≠ it := fun b u e z => by rw [z, hn] at e; cases e
  refine I.step (g' := s.gens) (d' := s.drawn) (ch := [it]) (fun b hb => ?_) (fun b o _ _ hc e _ => k b o (fun z => hc (by simp [z])) e) (fun b o _ _ hc e _ => ⟨o.slots, k b o (fun z => hc (by simp [z])) e⟩) (fun _ _ _ _ n => n)
    (fun b o hc e => ⟨o, k b o (fun z => hc (by simp [z])) e⟩) (fun _ _ e => e) (fun _ _ _ e => e) (fun b ps e => ⟨#[], by rw [e]; simp⟩) (fun m hm => ?_) (fun b u e => ?_) I.bare
  · have e : b = it := by simpa using hb
    subst e
    exact ⟨h1, hL, h2, h3⟩
  · obtain ⟨o, es, ep, ho, r⟩ := hm
    exact ⟨o, es, ep, k _ o (Ne.symm hL) ho, r⟩
  · refine (I.hok b u e).stay (fun c v hc q => k c v ?_ q) (fun _ q => q) fun _ _ q => q
    rcases hc with z | z
    · rw [z]; exact nit b u e
    · exact nit c _ z
theorem Inv.tok (I : Inv X pins σ H s) (t : Nat) : Inv X pins σ H { s with toks := t } := I.un (h' := s.heap) (t' := t) Un.refl I.hok
theorem Inv.kept {t' : Nat} (I : Inv X pins σ H s) (k : ∀ b u, s.heap.get? b = some u -> h'.get? b = some u) : Inv X pins σ H { s with heap := h', toks := t' } := I.un (Un.kept k) (I.hok.kept k)
theorem Inv.laid {a : Addr} {o : HO} {t' : Nat} (I : Inv X pins σ H s) (k : ∀ b u, s.heap.get? b = some u -> h'.get? b = some u) (hp : s.heap.objs.size <= a) (new : ObjOk X.prog X.w (upd H a o) h' a o) :
    Inv X pins σ (upd H a o) { s with heap := h', toks := t' } := I.un (Un.laid k hp (I.hok.fresh hp)) (I.hok.laid k hp new)
theorem Inv.write {x e : Addr} {o : HO} {t' : Nat} (I : Inv X pins σ H s) (mu : Mut (H x)) (he : e = x \/ H e = some (.own x)) (k : ∀ b u, b ≠ e -> s.heap.get? b = some u -> h'.get? b = some u) (heo : ∃ u, h'.get? e = some u)
    (new : ObjOk X.prog X.w (upd H x o) h' x o) : Inv X pins σ (upd H x o) { s with heap := h', toks := t' } := I.un (Un.write mu he k heo) (I.hok.write mu he k heo new)
theorem Inv.weak {σ' : List (Option V)} (I : Inv X pins σ H s) (hl : σ'.length = σ.length) (w : ∀ (i : Nat) v, σ'[i]? = some (some v) -> σ[i]? = some (some v)) : Inv X pins σ' H s :=
  ⟨I.ok, I.os, I.bare, I.base, let ⟨m, hn, hl'⟩ := I.loc; ⟨m, hn, fun i x v e1 e2 e3 => hl' i x v e1 (w i v e2) e3⟩, I.cell, I.free, I.freeC, I.pin, I.hok, hl.trans I.len⟩
theorem Inv.pins_of {pins' : List (Addr × Obj)} (I : Inv X pins σ H s) (h : ∀ p ∈ pins', s.heap.get? p.1 = some p.2 /\ H p.1 = none /\ p.1 ≠ X.env.locals /\ p.1 ∉ X.fs /\ ∀ v, p.2.data ≠ .cell v) : Inv X pins' σ H s :=
  ⟨I.ok, I.os, I.bare, I.base, I.loc, I.cell, I.free, I.freeC, fun p hp => (List.mem_append.mp hp).elim (fun z => I.pin p (List.mem_append_left _ z)) (h p), I.hok, I.len⟩
theorem nodup_ix {N : List Str} (hN : N.Nodup) {i j : Nat} {x : Str} (a : N[i]? = some x) (b : N[j]? = some x) : i = j := by
  obtain ⟨h1, e1⟩ := List.getElem?_eq_some_iff.mp a
  obtain ⟨h2, e2⟩ := List.getElem?_eq_some_iff.mp b
  exact (List.getElem_inj hN).mp (e1.trans e2.symm)
theorem store_ok2 {M : Model} {A : Around} {E : Value -> Shared -> Prop} {i : Nat} {x : Str} {v : V} {u : Value} {Q : Unit -> Shared -> Prop} (I : Inv X pins σ H s) (hN : X.N.Nodup) (hi : X.N[i]? = some x) (hx : Loc X.env.scope x) (r : RelV v u)
    (h : ∀ s', Inv X pins (σ.set i (some v)) H s' -> (∃ a, Heap.SameBut a s.heap s'.heap /\ (a = X.env.locals \/ X.env.cells.lookup x = some a)) -> Q () s') (hf : X.fn x = true \/ X.env.scope.names.lookup x = some .local := by first | exact .inl rfl | exact .inr rfl | assumption) : wpAny M A (storeName X.env x u) Q E s := by
  obtain ⟨m, hn, hl⟩ := id I.loc
  have hcls : (X.env.scope.kind == .class || (X.env.scope.kind == .module && X.env.locals != X.env.globals)) = false := by rw [I.ok.kind]; rfl
  have hiσ : i < σ.length := by rw [I.len]; exact (List.getElem?_eq_some_iff.mp hi).1
  have cne := I.cne
  have tracked : ∀ {a : Addr} {h' : Heap}, (∃ o, s.heap.get? a = some o /\ H a = none) -> Heap.SameBut a s.heap h' -> HOk X.prog X.w H h' := fun {a h'} ha hs b ob e => by
    obtain ⟨_, _, hfree⟩ := ha
    refine (I.hok b ob e).stay (fun c w' hc q => (hs.2 c ?_).trans q) (fun _ q => q) fun _ _ q => q
    rintro rfl
    rcases hc with rfl | hc
    · rw [hfree] at e; cases e
    · rw [hfree] at hc; cases hc
  rcases hx with hk | hk
  · refine wpAny_storeName_local hk hn (fun h' hn' hs => ?_) hcls
    obtain ⟨oL, _, _, hoL, _⟩ := id hn
    refine h _ ⟨I.ok, I.os, I.bare, ⟨fun b o e n hb hx => ?_, fun b o e n hb hx => ?_, I.base.free, fun b o e hx => ?_, I.base.tups, I.base.frzs, I.base.tbls⟩, ⟨_, hn', fun j y v' e1 e2 e3 => ?_⟩, fun y c e => ?_, I.free, I.freeC, fun p hp => ?_, tracked ⟨oL, hoL, I.free⟩ hs, by simpa using I.len⟩ ⟨_, hs, .inl rfl⟩
    · exact (hs.2 b (Nat.ne_of_lt (Nat.lt_of_lt_of_le (Heap.lt_size e) I.ok.above))).trans (I.base.keep b o e n hb hx)
    · obtain ⟨sl, e1⟩ := I.base.slot b o e n hb hx
      exact ⟨sl, (hs.2 b (Nat.ne_of_lt (Nat.lt_of_lt_of_le (Heap.lt_size e) I.ok.above))).trans e1⟩
    · obtain ⟨o', e1⟩ := I.base.there b o e hx
      exact ⟨o', (hs.2 b (Nat.ne_of_lt (Nat.lt_of_lt_of_le (Heap.lt_size e) I.ok.above))).trans e1⟩
    · by_cases hj : j = i
      · subst hj
        rw [hi] at e1; cases e1
        rw [List.getElem?_set_self hiσ] at e2
        cases e2
        exact ⟨u, r, .inl ⟨hk, by simp⟩⟩
      · rw [List.getElem?_set_ne (Ne.symm hj)] at e2
        obtain ⟨u', r', q⟩ := hl j y v' e1 e2 e3
        refine ⟨u', r', ?_⟩
        rcases q with ⟨k, e⟩ | ⟨k, c, e, z⟩
        · refine .inl ⟨k, ?_⟩
          have : y ≠ x := fun e => hj (nodup_ix hN e1 (e ▸ hi))
          simp [this, e]
        · exact .inr ⟨k, c, e, z.sameBut hs (cne y c e)⟩
    · obtain ⟨w', z⟩ := I.cell y c e
      exact ⟨w', z.sameBut hs (cne y c e)⟩
    · obtain ⟨e, n, ne, nf, d⟩ := I.pin p hp
      exact ⟨(hs.2 p.1 ne).trans e, n, ne, nf, d⟩
  · have hfn : X.fn x = true := by
      rcases hf with z | z
      · exact z
      · rw [z] at hk; cases hk
    obtain ⟨c, hc⟩ := I.ok.has x (.inl hk)
    obtain ⟨w', z⟩ := I.cell x c hc
    refine wpAny_storeName_cell I.ok.kind hk hc z (fun h' hc' hs => ?_)
    obtain ⟨oc, hoc, hocd⟩ := id z
    refine h { s with heap := h' } ⟨I.ok, I.os, I.bare, ⟨fun b o e n hb hx => ?_, fun b o e n hb hx => ?_, I.base.free, fun b o e hx => ?_, I.base.tups, I.base.frzs, I.base.tbls⟩, ⟨m, hn.sameBut hs (Ne.symm (cne x c hc)), fun j y v' e1 e2 e3 => ?_⟩, fun y c' e => ?_, I.free, I.freeC, fun p hp => ?_, tracked ⟨oc, hoc, I.freeC x c hc⟩ hs, by simpa using I.len⟩ ⟨c, hs, .inr hc⟩
    · exact (hs.2 b (Nat.ne_of_lt (Nat.lt_of_lt_of_le (Heap.lt_size e) (I.ok.cab x c hfn hc)))).trans (I.base.keep b o e n hb hx)
    · obtain ⟨sl, e1⟩ := I.base.slot b o e n hb hx
      exact ⟨sl, (hs.2 b (Nat.ne_of_lt (Nat.lt_of_lt_of_le (Heap.lt_size e) (I.ok.cab x c hfn hc)))).trans e1⟩
    · obtain ⟨o', e1⟩ := I.base.there b o e hx
      exact ⟨o', (hs.2 b (Nat.ne_of_lt (Nat.lt_of_lt_of_le (Heap.lt_size e) (I.ok.cab x c hfn hc)))).trans e1⟩
    · by_cases hj : j = i
      · subst hj
        rw [hi] at e1; cases e1
        rw [List.getElem?_set_self hiσ] at e2
        cases e2
        exact ⟨u, r, .inr ⟨.inl hk, c, hc, hc'⟩⟩
      · rw [List.getElem?_set_ne (Ne.symm hj)] at e2
        obtain ⟨u', r', q⟩ := hl j y v' e1 e2 e3
        refine ⟨u', r', ?_⟩
        rcases q with q | ⟨k, c', e, z'⟩
        · exact .inl q
        · refine .inr ⟨k, c', e, z'.sameBut hs ?_⟩
          rintro rfl
          exact hj (nodup_ix hN e1 (I.ok.inj _ _ _ e hc ▸ hi))
    · by_cases hcc : c' = c
      · subst hcc; exact ⟨_, hc'⟩
      · obtain ⟨w2, z2⟩ := I.cell y c' e
        exact ⟨w2, z2.sameBut hs hcc⟩
    · obtain ⟨e, n, ne, nf, d⟩ := I.pin p hp
      refine ⟨(hs.2 p.1 ?_).trans e, n, ne, nf, d⟩
      intro q
      rw [q, hoc] at e
      have q' : oc = p.2 := Option.some.inj e
      exact d w' (by rw [← q']; exact hocd)
theorem store_ok {M : Model} {A : Around} {E : Value -> Shared -> Prop} {i : Nat} {x : Str} {v : V} {u : Value} {Q : Unit -> Shared -> Prop} (I : Inv X pins σ H s) (hN : X.N.Nodup) (hi : X.N[i]? = some x) (hx : Loc X.env.scope x) (r : RelV v u)
    (h : ∀ s', Inv X pins (σ.set i (some v)) H s' -> Q () s') (hf : X.fn x = true \/ X.env.scope.names.lookup x = some .local := by first | exact .inl rfl | exact .inr rfl | assumption) : wpAny M A (storeName X.env x u) Q E s :=
  store_ok2 I hN hi hx r (fun s' I' _ => h s' I') hf
theorem Inv.call' {s' : Shared} {ch : List Addr} (I : Inv X pins σ H s) (ho : s'.os = s.os) (u : Un (frs X.stack) ch H H' s.heap s'.heap) (hok : HOk X.prog X.w H' s'.heap) (hg : AllBare s'.gens)
    (hch : ∀ b ∈ ch, (b ∈ X.ex \/ X.s₀.heap.objs.size <= b) /\ b ≠ X.env.locals /\ (∀ x c, X.env.cells.lookup x = some c -> c ≠ b) /\ ∀ p ∈ X.pn ++ pins, p.1 ≠ b) : Inv X pins σ H' s' := by
  obtain ⟨h', g', d', t', o'⟩ := s'
  have e : o' = s.os := ho
  subst e
  exact I.call (g' := g') (t' := t') (d' := d') u hok hg hch
end
noncomputable abbrev XK := Value -> Option Addr -> Hp -> Prop
noncomputable abbrev St := List (Option V)
noncomputable abbrev VK := V -> Hp -> Prop
noncomputable abbrev TE := St -> Hp -> VK -> Prop
noncomputable abbrev TT := St -> Hp -> (Bool -> Hp -> Prop) -> Prop
noncomputable abbrev TA := St -> Hp -> (List V -> Hp -> Prop) -> Prop
structure Ends where
  nx : St -> Hp -> Prop
  rt : VK
  bk : St -> Hp -> Prop := fun _ _ => False
  ct : St -> Hp -> Prop := fun _ _ => False
noncomputable abbrev TS := Ends -> St -> Hp -> Prop
noncomputable def EP (X : Cx) (pins : List (Addr × Obj)) (σ : St) (Q : VK) (u : Value) (s' : Shared) : Prop := ∃ v H', Inv X pins σ H' s' /\ RelV v u /\ Q v H'
noncomputable def TP (X : Cx) (pins : List (Addr × Obj)) (σ : St) (Q : Bool -> Hp -> Prop) (b : Bool) (s' : Shared) : Prop := ∃ H', Inv X pins σ H' s' /\ Q b H'
noncomputable def AP (X : Cx) (pins : List (Addr × Obj)) (σ : St) (Q : List V -> Hp -> Prop) (us : List Value) (s' : Shared) : Prop := ∃ vs H', Inv X pins σ H' s' /\ Vals vs us /\ Q vs H'
noncomputable def SP (X : Cx) (pins : List (Addr × Obj)) (D : Ends) (f : Flow) (s' : Shared) : Prop :=
  match f with
  | .next => ∃ σ' H', Inv X pins σ' H' s' /\ D.nx σ' H'
  | .brk => ∃ σ' H', Inv X pins σ' H' s' /\ D.bk σ' H'
  | .cont => ∃ σ' H', Inv X pins σ' H' s' /\ D.ct σ' H'
  | .ret u => ∃ v σ' H', Inv X pins σ' H' s' /\ RelV v u /\ D.rt v H'
noncomputable def PE (X : Cx) (e : Expr) (t : TE) : Prop :=
  ∀ (pins : List (Addr × Obj)) (s : Shared) (σ : St) (H : Hp) (Q : VK), Inv X pins σ H s -> t σ H Q -> wpAny (model X.prog X.w) X.A (eval e X.env) (EP X pins σ Q) X.xe s
noncomputable def PT (X : Cx) (e : Expr) (t : TT) : Prop :=
  ∀ (pins : List (Addr × Obj)) (s : Shared) (σ : St) (H : Hp) (Q : Bool -> Hp -> Prop), Inv X pins σ H s -> t σ H Q -> wpAny (model X.prog X.w) X.A (isTrue e X.env (eval e X.env)) (TP X pins σ Q) X.xe s
noncomputable def PW (X : Cx) (e : Expr) (t : TT) : Prop :=
  ∀ (whole : Sem Value) (pins : List (Addr × Obj)) (s : Shared) (σ : St) (H : Hp) (Q : Bool -> Hp -> Prop), Inv X pins σ H s -> t σ H Q -> wpAny (model X.prog X.w) X.A (isTrue e X.env whole) (TP X pins σ Q) X.xe s
theorem PW.pt {X : Cx} {e : Expr} {t : TT} (h : PW X e t) : PT X e t := h _
noncomputable def PA (X : Cx) (es : List Expr) (t : TA) : Prop :=
  ∀ (pos : Pos) (pins : List (Addr × Obj)) (s : Shared) (σ : St) (H : Hp) (Q : List V -> Hp -> Prop), Inv X pins σ H s -> t σ H Q -> wpAny (model X.prog X.w) X.A (spliced (backTo pos (starEach es X.env))) (AP X pins σ Q) X.xe s
noncomputable def PS (X : Cx) (st : Stmt) (t : TS) : Prop :=
  ∀ (pins : List (Addr × Obj)) (s : Shared) (σ : St) (H : Hp) (D : Ends), Inv X pins σ H s -> t D σ H -> wpAny (model X.prog X.w) X.A (exec st X.env) (SP X pins D) X.xe s
noncomputable def PSs (X : Cx) (st : List Stmt) (t : TS) : Prop :=
  ∀ (pins : List (Addr × Obj)) (s : Shared) (σ : St) (H : Hp) (D : Ends), Inv X pins σ H s -> t D σ H -> wpAny (model X.prog X.w) X.A (execs st X.env) (SP X pins D) X.xe s
theorem thn {α : Type} {t : Sem α} {Q Q' : α -> Shared -> Prop} {M : Model} {A : Around} {E : Value -> Shared -> Prop} {s : Shared} (h : wpAny M A t Q E s) (hQ : ∀ a s, Q a s -> Q' a s) : wpAny M A t Q' E s := wpAny_mono h hQ fun _ _ x => x
end L2
namespace L2
open PySem PySem.Spec PyProof.Rows
section
variable {X : Cx}
noncomputable def tVar (i : Nat) : TE := fun σ H Q => ∃ v, σ[i]? = some (some v) /\ Q v H
noncomputable def tC (v : V) : TE := fun _ H Q => Q v H
theorem pe_var {i : Nat} {x : Str} {pos : Pos} (hN : X.N[i]? = some x) (hv : Vis X.env.scope x) (hd : (x == ("__debug__" : Str)) = false := by decide) (hcd : (x == ("__classdict__" : Str)) = false := by decide) : PE X (.Name x pos) (tVar i) := by
  intro pins s σ H Q I h
  obtain ⟨v, e, h⟩ := h
  obtain ⟨m, hn, hl⟩ := I.loc
  obtain ⟨u, r, l⟩ := hl i x v hN e hv
  have fin : EP X pins σ Q u s := ⟨v, H, I, r, h⟩
  rcases l with ⟨hk, hm⟩ | ⟨hk, c, hc, hcell⟩
  · exact wpAny_Name (wpAny_loadName_local I.ok.kind hk hn hm fin) hd
  · rcases hk with hk | hk
    · exact wpAny_Name (wpAny_loadName_cell I.ok.kind hk hc hcell fin) hd
    · exact wpAny_Name (wpAny_loadName_free I.ok.kind hk hc hcell fin hcd) hd
theorem pe_int {i j pos} : PE X (.Constant (.int i) j pos) (tC (.int i)) := fun _ _ _ H _ I h => wpAny_Constant_int ⟨.int i, H, I.tok _, ⟨_, rfl⟩, h⟩
theorem pe_bl {b j pos} : PE X (.Constant (.bool b) j pos) (tC (.bl b)) := fun _ _ _ H _ I h => Constant_bool ⟨.bl b, H, I, rfl, h⟩
theorem pe_str {x j pos} : PE X (.Constant (.str x) j pos) (tC (.str x)) := fun _ _ _ H _ I h => Calls.Constant_str ⟨.str x, H, I.tok _, ⟨_, rfl⟩, h⟩
noncomputable def Gl (X : Cx) (x : Str) : Prop := X.env.kindOf x = some .globalImplicit
theorem ld_glob {E : Value -> Shared -> Prop} {pins : List (Addr × Obj)} {s : Shared} {σ : St} {H : Hp} {x : Str} {u : Value} {pos : Pos} {Q : Value -> Shared -> Prop} (I : Inv X pins σ H s) (hg : Gl X x) (hm : X.mg x = some u) (h : Q u s)
    (hd : (x == ("__debug__" : Str)) = false := by decide) : wpAny (model X.prog X.w) X.A (eval (.Name x pos) X.env) Q E s :=
  Calls.Name_function_global I.ok.kind hg (Calls.loadGlobal_global (by rw [I.ok.glob]; exact I.mod.glob.keeps I.bk) hm h) hd
theorem ld_blt {E : Value -> Shared -> Prop} {pins : List (Addr × Obj)} {s : Shared} {σ : St} {H : Hp} {x : Str} {u : Value} {pos : Pos} {Q : Value -> Shared -> Prop} (I : Inv X pins σ H s) (hg : Gl X x) (hm : X.mg x = none) (hv : bootBuiltins x = some u) (h : Q u s)
    (hn : x ≠ "__name__" := by decide) (hd : (x == ("__debug__" : Str)) = false := by decide) : wpAny (model X.prog X.w) X.A (eval (.Name x pos) X.env) Q E s := by
  obtain ⟨mb, h1, h2⟩ := I.mod.blt
  exact Calls.Name_function_global I.ok.kind hg (Calls.loadGlobal_builtin (by rw [I.ok.glob]; exact I.mod.glob.keeps I.bk) hm (by rw [I.ok.blt]; exact h1.keeps I.bk) ((h2 x hn).trans hv) h) hd
theorem pe_bltn {x : Str} {v : V} {u : Value} {pos : Pos} (hg : Gl X x) (hm : X.mg x = none) (hv : bootBuiltins x = some u) (r : RelV v u) (hn : x ≠ "__name__" := by decide) (hd : (x == ("__debug__" : Str)) = false := by decide) : PE X (.Name x pos) (tC v) :=
  fun _ _ _ H _ I h => ld_blt I hg hm hv ⟨v, H, I, r, h⟩ hn hd
variable {a b : Expr} {ta tb : TE} {pos : Pos}
noncomputable def PC (X : Cx) (op : CmpOp) (a b : Expr) (t : TE) : Prop :=
  ∀ (pins : List (Addr × Obj)) (s : Shared) (σ : St) (H : Hp) (Q : VK), Inv X pins σ H s -> t σ H Q ->
    wpAny (model X.prog X.w) X.A (eval a X.env) (fun v s₁ => wpAny (model X.prog X.w) X.A (eval b X.env) (fun u s₂ => wpAny (model X.prog X.w) X.A (compareOp op v u) (EP X pins σ Q) X.xe s₂) X.xe s₁) X.xe s
noncomputable def tB (t : TE) : TT := fun σ H Q => t σ H fun x H1 => ∃ c, x = .bl c /\ Q c H1
theorem pt_cmp {op : CmpOp} {t : TE} (h : PC X op a b t) (h1 : behindInMarks op b = false := by first | exact nobehind _ (by decide) (by decide) | rfl) : PT X (.Compare a [op] [b] pos) (tB t) := by
  intro pins s σ H Q I hw
  refine wpAny_isTrue_Compare1 (thn (h pins s σ H _ I hw) fun v s1 h1 => thn h1 fun u s2 h2 => thn h2 fun c s3 ⟨x, H1, I1, r1, q1⟩ => ?_) h1
  obtain ⟨d, rfl, q⟩ := q1
  cases r1
  exact wpAny_truthy_bool ⟨H1, I1, q⟩
variable {tA tB' : TT} {rest : List Expr}
noncomputable def tAnd (t u : TT) : TT := fun σ H Q => t σ H fun c H1 => if c = true then u σ H1 Q else Q false H1
noncomputable def tOr (t u : TT) : TT := fun σ H Q => t σ H fun c H1 => if c = true then Q true H1 else u σ H1 Q
noncomputable def tNot (t : TT) : TT := fun σ H Q => t σ H fun c H1 => Q (!c) H1
theorem pw_and1 (ha : PT X a tA) : PW X (.BoolOp .And [a] pos) tA := by
  intro wh pins s σ H Q I h
  refine isTrue_and (thn (ha pins s σ H Q I h) fun c s1 e => ?_)
  cases c with
  | true => exact isTrue_and_nil e
  | false => exact e
theorem pw_or1 (ha : PT X a tA) : PW X (.BoolOp .Or [a] pos) tA := by
  intro wh pins s σ H Q I h
  refine isTrue_or (thn (ha pins s σ H Q I h) fun c s1 e => ?_)
  cases c with
  | false => exact isTrue_or_nil e
  | true => exact e
theorem pw_and (ha : PT X a tA) (hb : PW X (.BoolOp .And (b :: rest) pos) tB') : PW X (.BoolOp .And (a :: b :: rest) pos) (tAnd tA tB') := by
  intro wh pins s σ H Q I h
  refine isTrue_and (thn (ha pins s σ H _ I h) fun c s1 ⟨H1, I1, q1⟩ => ?_)
  cases c with
  | true => exact hb wh pins s1 σ H1 Q I1 q1
  | false => exact ⟨H1, I1, q1⟩
theorem pw_or (ha : PT X a tA) (hb : PW X (.BoolOp .Or (b :: rest) pos) tB') : PW X (.BoolOp .Or (a :: b :: rest) pos) (tOr tA tB') := by
  intro wh pins s σ H Q I h
  refine isTrue_or (thn (ha pins s σ H _ I h) fun c s1 ⟨H1, I1, q1⟩ => ?_)
  cases c with
  | true => exact ⟨H1, I1, q1⟩
  | false => exact hb wh pins s1 σ H1 Q I1 q1
theorem pt_not (ha : PT X a tA) : PT X (.UnaryOp .Not a pos) (tNot tA) := by
  intro pins s σ H Q I h
  exact isTrue_not (ha pins s σ H (fun c H1 => Q (!c) H1) I h)
end
end L2
namespace L2
open PySem PySem.Spec PyProof.Rows
noncomputable def SqL (K : PySem.W.Frag) (H : Hp) (a : Addr) (xs : List V) : Prop :=
  Rd H a (.lst xs) \/
    ∃ (o : Obj) (its : Array Value) (n : Nat), K.lookup a = some o /\ o.cls = .type "list" /\ o.dict = none /\ o.data = .seq its n /\ its.size <= sizeLine /\ Vals xs its.toList
noncomputable def SqT (K : PySem.W.Frag) (H : Hp) (a : Addr) (xs : List V) : Prop :=
  Rd H a (.tup xs) \/
    ∃ (o : Obj) (its : Array Value) (n : Nat), K.lookup a = some o /\ o.cls = .type "tuple" /\ o.data = .seq its n /\ its.size <= sizeLine /\ Vals xs its.toList
noncomputable def absV : Value -> Option V
  | .none => some .non
  | .bool b => some (.bl b)
  | .int i _ => some (.int i)
  | .str x _ => some (.str x)
  | .bytes b _ => some (.byt b)
  | .float b _ => some (.flt b)
  | .ref a => some (.ref a)
  | .type n => some (.ty n)
  | _ => none
theorem RelV.abs {x : V} {u : Value} (r : RelV x u) : absV u = some x := by
  cases x with
  | non => cases r; rfl
  | bl _ => cases r; rfl
  | int _ => obtain ⟨t, rfl⟩ := r; rfl
  | str _ => obtain ⟨t, rfl⟩ := r; rfl
  | byt _ => obtain ⟨t, rfl⟩ := r; rfl
  | flt _ => obtain ⟨t, rfl⟩ := r; rfl
  | ref _ => cases r; rfl
  | ty _ => cases r; rfl
theorem RelV.inj {x y : V} {u : Value} (r : RelV x u) (q : RelV y u) : x = y := Option.some.inj (r.abs.symm.trans q.abs)
theorem Vals.inj : ∀ {xs ys : List V} {us : List Value}, Vals xs us -> Vals ys us -> xs = ys
  | _, _, _, .nil, .nil => rfl
  | _, _, _, .cons r t, .cons r' t' => by rw [r.inj r', Vals.inj t t']
section
variable {X : Cx} {pins : List (Addr × Obj)} {σ : St} {H : Hp} {s : Shared} {a : Addr} {xs ys : List V}
theorem Inv.list (I : Inv X pins σ H s) (h : SqL X.K H a xs) : ∃ its : List Value, Vals xs its /\ PlainL s.heap a its.toArray /\ xs.length <= sizeLine := by
  rcases h with h | ⟨o, its, n, hk, hc, hd, hs, hz, r⟩
  · obtain ⟨z, its, n, r, e⟩ := h.ok I.hok
    exact ⟨its, r, ⟨_, n, e, rfl, rfl, rfl⟩, z⟩
  · refine ⟨its.toList, r, ⟨o, n, I.kIn a o hk, hc, hd, by simpa using hs⟩, ?_⟩
    have e := r.length
    simp only [Array.length_toList] at e
    omega
theorem Inv.tuple (I : Inv X pins σ H s) (h : SqT X.K H a xs) : ∃ its : List Value, Vals xs its /\ IsTup s.heap a its.toArray /\ xs.length <= sizeLine := by
  rcases h with h | ⟨o, its, n, hk, hc, hs, hz, r⟩
  · obtain ⟨z, its, r, p⟩ := h.ok I.hok
    exact ⟨its, r, p, z⟩
  · refine ⟨its.toList, r, ⟨o, I.kIn a o hk, hc, n, by simpa using hs⟩, ?_⟩
    have e := r.length
    simp only [Array.length_toList] at e
    omega
theorem Inv.list_inj (I : Inv X pins σ H s) (h : SqL X.K H a xs) (h' : SqL X.K H a ys) : xs = ys := by
  obtain ⟨its, r, ⟨o, n, e, _, _, d⟩, _⟩ := I.list h
  obtain ⟨its', r', ⟨o', n', e', _, _, d'⟩, _⟩ := I.list h'
  rw [e] at e'; cases e'
  rw [d] at d'
  injection d' with d1 _
  have : its = its' := by simpa using congrArg Array.toList d1
  subst this
  exact r.inj r'
theorem Inv.tuple_inj (I : Inv X pins σ H s) (h : SqT X.K H a xs) (h' : SqT X.K H a ys) : xs = ys := by
  obtain ⟨its, r, ⟨o, e, _, n, d⟩, _⟩ := I.tuple h
  obtain ⟨its', r', ⟨o', e', _, n', d'⟩, _⟩ := I.tuple h'
  rw [e] at e'; cases e'
  rw [d] at d'
  injection d' with d1 _
  have : its = its' := by simpa using congrArg Array.toList d1
  subst this
  exact r.inj r'
end
section
variable {X : Cx} {pins : List (Addr × Obj)} {σ : St} {H : Hp} {s : Shared} {E : Value -> Shared -> Prop}
end
section
variable {X : Cx} {st : Stmt} {rest : List Stmt} {t u : TS} {e : Expr} {te : TE} {pos : Pos}
noncomputable def tNext : TS := fun D σ H => D.nx σ H
noncomputable def tSeq (t u : TS) : TS := fun D σ H => t { D with nx := u D } σ H
theorem pss_nil : PSs X [] tNext := fun _ _ σ H _ I h => wpAny_execs_nil ⟨σ, H, I, h⟩
theorem pss_cons (h1 : PS X st t) (h2 : PSs X rest u) : PSs X (st :: rest) (tSeq t u) := by
  intro pins s σ H D I h
  refine wpAny_execs_cons (thn (h1 pins s σ H { D with nx := u D } I h) fun f s1 q => ?_)
  cases f with
  | next =>
    obtain ⟨σ', H', I', q⟩ := q
    exact h2 pins s1 σ' H' D I' q
  | ret v => exact q
  | brk => exact q
  | cont => exact q
theorem pss_one (h1 : PS X st t) : PSs X [st] t := by
  intro pins s σ H D I h
  refine wpAny_execs_cons (thn (h1 pins s σ H D I h) fun f s1 q => ?_)
  cases f with
  | next => exact wpAny_execs_nil q
  | ret v => exact q
  | brk => exact q
  | cont => exact q
theorem Inv.quiet {pins : List (Addr × Obj)} {σ : St} {H : Hp} {s : Shared} (I : Inv X pins σ H s) : interactive X.env = false := by simp [interactive, I.ok.kind]
noncomputable def tDrop (te : TE) : TS := fun D σ H => te σ H fun _ H1 => D.nx σ H1
theorem ps_expr (he : PE X e te) (hs : swapsWith e none pos.line X.env = pure false := by rfl) : PS X (.Expr e pos) (tDrop te) := by
  intro pins s σ H D I h
  exact wpAny_Expr_any (thn (he pins s σ H _ I h) fun v s1 ⟨x, H1, I1, r1, q1⟩ => ⟨σ, H1, I1, q1⟩) I.quiet hs
noncomputable def tRet (te : TE) : TS := fun D σ H => te σ H D.rt
theorem ps_ret (he : PE X e te) : PS X (.Return (some e) pos) (tRet te) := by
  intro pins s σ H D I h
  exact wpAny_Return_some (thn (he pins s σ H _ I h) fun v s1 ⟨x, H1, I1, r1, q1⟩ => ⟨x, σ, H1, I1, r1, q1⟩)
noncomputable def tIfS (c : TT) (t u : TS) : TS := fun D σ H => c σ H fun b H1 => if b = true then t D σ H1 else u D σ H1
theorem ps_if {c : Expr} {a b : List Stmt} {tc : TT} (hc : PT X c tc) (ha : PSs X a t) (hb : PSs X b u) : PS X (.If c a b pos) (tIfS tc t u) := by
  intro pins s σ H D I h
  refine wpAny_If (thn (hc pins s σ H _ I h) fun d s1 ⟨H1, I1, q1⟩ => ?_)
  cases d with
  | true => exact ha pins s1 σ H1 D I1 q1
  | false => exact hb pins s1 σ H1 D I1 q1
end
noncomputable abbrev TG := V -> St -> Hp -> (St -> Hp -> Prop) -> Prop
noncomputable def PG (X : Cx) (target : Expr) (t : TG) : Prop :=
  ∀ (pins : List (Addr × Obj)) (s : Shared) (σ : St) (H : Hp) (v : V) (u : Value) (Q : St -> Hp -> Prop), Inv X pins σ H s -> RelV v u -> t v σ H Q ->
    wpAny (model X.prog X.w) X.A (assign target X.env u) (fun _ s' => ∃ σ' H', Inv X pins σ' H' s' /\ Q σ' H') X.xe s
section
variable {X : Cx} {pos : Pos}
noncomputable def gName (i : Nat) : TG := fun v σ H Q => Q (σ.set i (some v)) H
theorem pg_name {i : Nat} {x : Str} (hN : X.N.Nodup) (hi : X.N[i]? = some x) (hx : Loc X.env.scope x) (hf : X.fn x = true \/ X.env.scope.names.lookup x = some .local := by first | exact .inl rfl | exact .inr rfl | assumption) : PG X (.Name x pos) (gName i) := by
  intro pins s σ H v u Q I r h
  exact wpAny_assign_Name (store_ok I hN hi hx r (fun s' I' => ⟨_, H, I', h⟩) hf)
noncomputable def tAsg (te : TE) (g : TG) : TS := fun D σ H => te σ H fun x H1 => g x σ H1 D.nx
theorem ps_set {i : Nat} {x : Str} {e : Expr} {te : TE} {pos' : Pos} (hN : X.N.Nodup) (hi : X.N[i]? = some x) (hx : Loc X.env.scope x) (he : PE X e te) (hs : swapsWith e (some (.Name x pos')) pos.line X.env = pure false := by rfl) (hf : X.fn x = true \/ X.env.scope.names.lookup x = some .local := by first | exact .inl rfl | exact .inr rfl | assumption) :
    PS X (.Assign [.Name x pos'] e pos) (tAsg te (gName i)) := by
  intro pins s σ H D I h
  refine wpAny_Assign_Name (thn (he pins s σ H _ I h) fun v s1 ⟨y, H1, I1, r1, q1⟩ => ?_) hs
  exact store_ok I1 hN hi hx r1 (fun s2 I2 => ⟨_, H1, I2, q1⟩) hf
end
section
variable {X : Cx} {pos : Pos}
end
structure It where
  go : Nat -> Hp -> Prop
  yld : Nat -> Hp -> V -> Hp -> Prop
  stop : Nat -> Hp -> Prop
noncomputable def FpOk (X : Cx) (pins : List (Addr × Obj)) (H : Hp) (b : Addr) : Prop :=
  H b = none /\ b ≠ X.env.locals /\ b ∉ X.fs /\ (b ∈ X.ex \/ X.s₀.heap.objs.size <= b) /\ (∀ x c, X.env.cells.lookup x = some c -> c ≠ b) /\ ∀ p ∈ X.pn ++ pins, p.1 ≠ b
theorem Inv.fpOk {X : Cx} {pins : List (Addr × Obj)} {σ : St} {H H' : Hp} {s : Shared} {b : Addr} (I : Inv X pins σ H s) (hb : s.heap.objs.size <= b) (hn : H' b = none) : FpOk X pins H' b := by
  refine ⟨hn, Nat.ne_of_gt (Nat.lt_of_lt_of_le I.lt hb), I.nofs hb, .inr (Nat.le_trans I.sz hb), fun x c e z => ?_, fun p hp z => ?_⟩
  · obtain ⟨v, q⟩ := I.cell x c e
    exact absurd (Nat.lt_of_lt_of_le q.lt (by rw [z]; exact hb)) (Nat.lt_irrefl _)
  · exact absurd (Nat.lt_of_lt_of_le (Heap.lt_size (I.pin p hp).1) (by rw [z]; exact hb)) (Nat.lt_irrefl _)
structure Turn (P : Program) (w : World) (K : PySem.W.Frag) (tg : Expr) (J : It) (fp : List Addr) (it : Addr) (tn : Nat -> Heap -> Prop) : Prop where
  mem : it ∈ fp
  obj : ∀ i h, tn i h -> ∀ b ∈ fp, ∃ o, h.get? b = some o /\ ∀ v, o.data ≠ .cell v
  keep : ∀ i h h', tn i h -> (∀ b ∈ fp, ∀ o, h.get? b = some o -> h'.get? b = some o) -> tn i h'
  item : ∀ (X : Cx), X.prog = P -> X.w = w -> X.K = K -> X.calm = true -> ∀ (i : Nat) (pins : List (Addr × Obj)) (s : Shared) (σ : St) (H : Hp) (E : Value -> Shared -> Prop), Inv X pins σ H s -> (∀ b ∈ fp, FpOk X pins H b) -> tn i s.heap -> J.go i H ->
    wpAny (model P w) X.A (pyNext (.ref it)) (fun r s1 => ∃ u, r = some u /\
      wpAny (model P w) X.A (letOwnedTupleGo tg (.ref it) u) (fun _ s2 => ∃ x H', Inv X pins σ H' s2 /\ RelV x u /\ J.yld i H x H' /\ tn (i + 1) s2.heap /\ ∀ b ∈ fp, H' b = none) E s1) E s
  done : ∀ (X : Cx), X.prog = P -> X.w = w -> X.K = K -> X.calm = true -> ∀ (i : Nat) (pins : List (Addr × Obj)) (s : Shared) (σ : St) (H : Hp) (E : Value -> Shared -> Prop), Inv X pins σ H s -> (∀ b ∈ fp, FpOk X pins H b) -> tn i s.heap -> J.stop i H ->
    wpAny (model P w) X.A (pyNext (.ref it)) (fun r s1 => r = none /\ Inv X pins σ H s1) E s
  self : ∀ (A : Around) (i : Nat) (s : Shared) (Q : Value -> Shared -> Prop) (E : Value -> Shared -> Prop), tn i s.heap -> Q (.ref it) s -> wpAny (model P w) A (pyIter (.ref it)) Q E s
noncomputable abbrev TI := St -> Hp -> (It -> Hp -> Prop) -> Prop
noncomputable def PIE (X : Cx) (pins : List (Addr × Obj)) (σ : St) (tg : Expr) (R : It -> Hp -> Prop) (itv : Value) (s2 : Shared) : Prop :=
  ∃ (it : Addr) (fp : List Addr) (tn : Nat -> Heap -> Prop) (J : It) (H' : Hp), itv = .ref it /\ Inv X pins σ H' s2 /\ Turn X.prog X.w X.K tg J fp it tn /\ tn 0 s2.heap /\ (∀ b ∈ fp, FpOk X pins H' b) /\ R J H'
noncomputable def PI (X : Cx) (tg iter : Expr) (wi : TI) : Prop :=
  ∀ (pins : List (Addr × Obj)) (s : Shared) (σ : St) (H : Hp) (R : It -> Hp -> Prop), Inv X pins σ H s -> wi σ H R ->
    wpAny (model X.prog X.w) X.A (eval iter X.env) (fun v s1 => wpAny (model X.prog X.w) X.A (pyIter v) (PIE X pins σ tg R) X.xe s1) X.xe s
theorem go_of {M : Model} {A : Around} {E : Value -> Shared -> Prop} {s : Shared} {tg : Expr} {it : Addr} {u : Value} {o : Obj} {n : String} {vs : Array Value} {Q : Unit -> Shared -> Prop} (ho : s.heap.get? it = some o) (hc : o.cls = .type n) (hd : o.data = .fields vs)
    (hn : ["enumerate", "zip", "dict_itemiterator", "dict_reverseitemiterator", "odict_iterator", "itertools.zip_longest", "itertools.pairwise"].contains n = false) (hQ : Q () s) : wpAny M A (letOwnedTupleGo tg (.ref it) u) Q E s := by
  unfold letOwnedTupleGo
  cases tg <;> first
    | exact wpAny_pure hQ
    | (cases u <;> first
        | exact wpAny_pure hQ
        | (refine wpAny_bind (wpAny_load ho ?_)
           rw [hc, hd]
           show wpAny M A (if (["enumerate", "zip", "dict_itemiterator", "dict_reverseitemiterator", "odict_iterator", "itertools.zip_longest", "itertools.pairwise"].contains n && vs[0]? == some (rawInt _)) = true then _ else _) Q E s
           rw [if_neg (by intro h; rw [hn, Bool.false_and] at h; cases h)]
           exact wpAny_pure hQ))
noncomputable def Itl (K : PySem.W.Frag) (a : Addr) : It :=
  ⟨fun i H => ∃ xs x, SqL K H a xs /\ xs[i]? = some x, fun i H x H' => H' = H /\ ∀ xs, SqL K H a xs -> xs[i]? = some x, fun i H => ∃ xs, SqL K H a xs /\ xs.length <= i⟩
noncomputable def Itt (K : PySem.W.Frag) (a : Addr) : It :=
  ⟨fun i H => ∃ xs x, SqT K H a xs /\ xs[i]? = some x, fun i H x H' => H' = H /\ ∀ xs, SqT K H a xs -> xs[i]? = some x, fun i H => ∃ xs, SqT K H a xs /\ xs.length <= i⟩
noncomputable def Itr (lo : Int) (n : Nat) : It := ⟨fun i _ => i < n, fun i H x H' => H' = H /\ x = .int (lo + i), fun i _ => n <= i⟩
theorem turn_list {P : Program} {w : World} {K : PySem.W.Frag} {tg : Expr} (a it : Addr) : Turn P w K tg (Itl K a) [it] it (fun i h => h.IsListIter it a i) where
  mem := by simp
  obj := fun i h st b hb => by
    have e : b = it := by simpa using hb
    subst e
    obtain ⟨o, e, c, d⟩ := st
    exact ⟨o, e, fun v z => by rw [d] at z; cases z⟩
  keep := fun i h h' st k => st.at fun o e => k it (by simp) o e
  item := by
    intro X hP hw hK hc i pins s σ H E I hf st hg
    subst hP hw hK
    obtain ⟨xs, x, hq, hx⟩ := hg
    obtain ⟨its, rv, p, hz⟩ := I.list hq
    obtain ⟨u, hu, ru⟩ := rv.get hx
    obtain ⟨f0, f1, f2, f3, f4, f5⟩ := hf it (by simp)
    refine wpAny_pyNext_list_item st p.isList (x := u) (by simpa using hu) fun h' st' sb => ?_
    have I1 : Inv X pins σ H { s with heap := h' } := I.turned (t' := s.toks) (fun b o hb e => (sb.2 b hb).trans e) f0 f1 f3 f4 f5
    obtain ⟨o, e, c, d⟩ := id st'
    exact ⟨u, rfl, go_of (s := { s with heap := h' }) e c d (by decide) ⟨x, H, I1, ru, ⟨rfl, fun ys hy => by rw [I.list_inj hy hq]; exact hx⟩, st', fun b hb => (hf b hb).1⟩⟩
  done := by
    intro X hP hw hK hc i pins s σ H E I hf st hg
    subst hP hw hK
    obtain ⟨xs, hq, hx⟩ := hg
    obtain ⟨its, rv, p, hz⟩ := I.list hq
    obtain ⟨f0, f1, f2, f3, f4, f5⟩ := hf it (by simp)
    have hl := rv.length
    exact wpAny_pyNext_list_end (I.ok.hd hc) st p.isList (by simp; omega) fun h' eb => ⟨rfl, I.turned (t' := s.toks) (fun b o hb e => eb b o hb e) f0 f1 f3 f4 f5⟩
  self := fun _ _ _ _ _ st h => wpAny_pyIter_listiter st h
theorem turn_tuple {P : Program} {w : World} {K : PySem.W.Frag} {tg : Expr} (a it : Addr) : Turn P w K tg (Itt K a) [it] it (fun i h => h.IsTupleIter it a i) where
  mem := by simp
  obj := fun i h st b hb => by
    have e : b = it := by simpa using hb
    subst e
    obtain ⟨o, e, c, d⟩ := st
    exact ⟨o, e, fun v z => by rw [d] at z; cases z⟩
  keep := fun i h h' st k => st.at fun o e => k it (by simp) o e
  item := by
    intro X hP hw hK hc i pins s σ H E I hf st hg
    subst hP hw hK
    obtain ⟨xs, x, hq, hx⟩ := hg
    obtain ⟨its, rv, p, hz⟩ := I.tuple hq
    obtain ⟨u, hu, ru⟩ := rv.get hx
    obtain ⟨f0, f1, f2, f3, f4, f5⟩ := hf it (by simp)
    refine wpAny_pyNext_tuple_item st (show s.heap.IsTuple a its.toArray from p) (x := u) (by simpa using hu) fun h' st' sb => ?_
    have I1 : Inv X pins σ H { s with heap := h' } := I.turned (t' := s.toks) (fun b o hb e => (sb.2 b hb).trans e) f0 f1 f3 f4 f5
    obtain ⟨o, e, c, d⟩ := id st'
    exact ⟨u, rfl, go_of (s := { s with heap := h' }) e c d (by decide) ⟨x, H, I1, ru, ⟨rfl, fun ys hy => by rw [I.tuple_inj hy hq]; exact hx⟩, st', fun b hb => (hf b hb).1⟩⟩
  done := by
    intro X hP hw hK hc i pins s σ H E I hf st hg
    subst hP hw hK
    obtain ⟨xs, hq, hx⟩ := hg
    obtain ⟨its, rv, p, hz⟩ := I.tuple hq
    obtain ⟨f0, f1, f2, f3, f4, f5⟩ := hf it (by simp)
    have hl := rv.length
    exact wpAny_pyNext_tuple_end (I.ok.hd hc) st (show s.heap.IsTuple a its.toArray from p) (by simp; omega) fun h' eb => ⟨rfl, I.turned (t' := s.toks) (fun b o hb e => eb b o hb e) f0 f1 f3 f4 f5⟩
  self := fun _ _ _ _ _ st h => wpAny_pyIter_tupleiter st h
theorem turn_range {P : Program} {w : World} {K : PySem.W.Frag} {tg : Expr} (it : Addr) (lo : Int) (n : Nat) : Turn P w K tg (Itr lo n) [it] it (fun i h => IsRangeIter h it (lo + (i : Nat) * 1) ((n : Int) - (i : Nat)) 1) where
  mem := by simp
  obj := fun i h st b hb => by
    have e : b = it := by simpa using hb
    subst e
    exact ⟨_, st, fun v z => by
      have z' : Data.fields _ = Data.cell v := z
      cases z'⟩
  keep := fun i h h' st k => k it (by simp) _ st
  item := by
    intro X hP hw hK hc i pins s σ H E I hf st hg
    subst hP hw hK
    obtain ⟨f0, f1, f2, f3, f4, f5⟩ := hf it (by simp)
    have W := Walks.range (prog := X.prog) (w := X.w) (I.ok.hd hc) it lo 1 n
    refine W.item i s _ _ hg st fun v h' tk hv st' kk => ?_
    obtain ⟨t, rfl⟩ := hv
    have I1 : Inv X pins σ H { s with heap := h', toks := tk } := I.turned (fun b o hb e => kk b o (by simpa using hb) e) f0 f1 f3 f4 f5
    refine ⟨_, rfl, go_of (s := { s with heap := h', toks := tk }) (n := "range_iterator") st' rfl rfl (by decide) ⟨.int (lo + i), H, I1, ⟨t, ?_⟩, ⟨rfl, rfl⟩, st', fun b hb => (hf b hb).1⟩⟩
    rw [Int.mul_one]
  done := by
    intro X hP hw hK hc i pins s σ H E I hf st hg
    subst hP hw hK
    obtain ⟨f0, f1, f2, f3, f4, f5⟩ := hf it (by simp)
    exact wpAny_pyNext_range_end (I.ok.hd hc) st (by have : n <= i := hg; omega) fun h' eb => ⟨rfl, I.turned (t' := s.toks) (fun b o hb e => eb b o hb e) f0 f1 f3 f4 f5⟩
  self := fun _ _ _ _ _ st h => wpAny_pyIter_rangeiter st h
end L2
namespace L2
open PySem PySem.Spec PyProof.Rows
section
variable {X : Cx} {tg : Expr}
noncomputable def iList (K : PySem.W.Frag) (tl : TE) : TI := fun σ H R => tl σ H fun x H1 => ∃ a, x = .ref a /\ (∃ xs, SqL K H1 a xs) /\ R (Itl K a) H1
noncomputable def iTup (K : PySem.W.Frag) (tl : TE) : TI := fun σ H R => tl σ H fun x H1 => ∃ a, x = .ref a /\ (∃ xs, SqT K H1 a xs) /\ R (Itt K a) H1
theorem pi_list {l : Expr} {tl : TE} (hl : PE X l tl) : PI X tg l (iList X.K tl) := by
  intro pins s σ H R I h
  refine thn (hl pins s σ H _ I h) fun v s1 ⟨x, H1, I1, r1, q1⟩ => ?_
  obtain ⟨a, e, ⟨xs, hq⟩, q⟩ := q1
  subst e
  cases r1
  obtain ⟨its, rv, p, hz⟩ := I1.list hq
  refine wpAny_pyIter_list p.isList ?_
  refine ⟨s1.heap.objs.size, [s1.heap.objs.size], _, _, H1, rfl, I1.kept (t' := s1.toks) fun b o e => Heap.get?_push_of_some _ e, turn_list a _, ⟨_, Heap.get?_push_size _ rfl, rfl, rfl⟩, fun b hb => ?_, q⟩
  have e : b = s1.heap.objs.size := by simpa using hb
  subst e
  exact I1.fpOk (Nat.le_refl _) (I1.hok.fresh (Nat.le_refl _))
theorem pi_tup {l : Expr} {tl : TE} (hl : PE X l tl) : PI X tg l (iTup X.K tl) := by
  intro pins s σ H R I h
  refine thn (hl pins s σ H _ I h) fun v s1 ⟨x, H1, I1, r1, q1⟩ => ?_
  obtain ⟨a, e, ⟨xs, hq⟩, q⟩ := q1
  subst e
  cases r1
  obtain ⟨its, rv, p, hz⟩ := I1.tuple hq
  refine wpAny_pyIter_tuple (show s1.heap.IsTuple a its.toArray from p) ?_
  refine ⟨s1.heap.objs.size, [s1.heap.objs.size], _, _, H1, rfl, I1.kept (t' := s1.toks) fun b o e => Heap.get?_push_of_some _ e, turn_tuple a _, ⟨_, Heap.get?_push_size _ rfl, rfl, rfl⟩, fun b hb => ?_, q⟩
  have e : b = s1.heap.objs.size := by simpa using hb
  subst e
  exact I1.fpOk (Nat.le_refl _) (I1.hok.fresh (Nat.le_refl _))
theorem range_it {pins : List (Addr × Obj)} {σ : St} {H : Hp} {s : Shared} {R : It -> Hp -> Prop} {E : Value -> Shared -> Prop} {lo hi : Int} {t u v : Tok} {tk : Nat} (I : Inv X pins σ H s) (h1 : -(2 ^ 62) <= lo) (h2 : lo < 2 ^ 62) (h3 : -(2 ^ 62) <= hi) (h4 : hi < 2 ^ 62)
    (q : R (Itr lo (hi - lo).toNat) H) : wpAny (model X.prog X.w) X.A (pyIter (.ref s.heap.objs.size)) (PIE X pins σ tg R) E { s with heap := s.heap.push { cls := .type "range", data := .fields #[.int lo t, .int hi u, .int 1 v] }, toks := tk } := by
  refine wpAny_pyIter_range (IsRange.new ..) (small_one h1 h2 h3 h4) ?_
  have I1 : Inv X pins σ H { s with heap := s.heap.push { cls := .type "range", data := .fields #[.int lo t, .int hi u, .int 1 v] }, toks := tk } := I.kept fun b o e => Heap.get?_push_of_some _ e
  refine ⟨(s.heap.push { cls := .type "range", data := .fields #[.int lo t, .int hi u, .int 1 v] }).objs.size, [(s.heap.push { cls := .type "range", data := .fields #[.int lo t, .int hi u, .int 1 v] }).objs.size], _, _, H, rfl,
    I1.kept (t' := tk) fun b o e => Heap.get?_push_of_some _ e, turn_range _ lo (hi - lo).toNat, ?_, fun b hb => ?_, q⟩
  · have e1 : lo + ((0 : Nat) : Int) * 1 = lo := by simp
    have e2 : (((hi - lo).toNat : Nat) : Int) - ((0 : Nat) : Int) = Builtin.Range.rangeSize lo hi 1 := by rw [rangeSize_one]; split <;> omega
    show IsRangeIter _ _ (lo + ((0 : Nat) : Int) * 1) ((((hi - lo).toNat : Nat) : Int) - ((0 : Nat) : Int)) 1
    rw [e1, e2]
    exact Heap.get?_push_size _ rfl
  · have e : b = (s.heap.push { cls := .type "range", data := .fields #[.int lo t, .int hi u, .int 1 v] }).objs.size := by simpa using hb
    subst e
    exact I1.fpOk (Nat.le_refl _) (I1.hok.fresh (Nat.le_refl _))
noncomputable def iRng1 (ta : TA) : TI := fun σ H R => ta σ H fun vs H1 => ∃ j : Int, vs = [.int j] /\ -(2 ^ 62) <= j /\ j < 2 ^ 62 /\ R (Itr 0 j.toNat) H1
theorem pi_range1 {a : Expr} {ta : TA} {p pos : Pos} (hg : Gl X "range") (hm : X.mg "range" = none) (ha : PA X [a] ta) (hs : starEach [a] X.env = [(false, eval a X.env)] := by rfl) : PI X tg (.Call (.Name "range" p) [a] [] pos) (iRng1 ta) := by
  intro pins s σ H R I h
  refine Call_ (ld_blt I hg hm boot_range (PyProof.Rows.callWith_type1 (thn (ha pos pins s σ H _ I h) fun us s1 ⟨vs, H1, I1, r1, q1⟩ => ?_) hs rfl))
  obtain ⟨j, e, q1, q2, q⟩ := q1
  subst e
  cases r1 with
  | cons r rr =>
    cases rr
    obtain ⟨t, rfl⟩ := r
    exact call_range_1 (range_it I1 (by omega) (by omega) q1 q2 (by simpa using q))
noncomputable def tFor (wi : TI) (g : TG) (tb : TS) : TS := fun D σ H => wi σ H fun J H1 => ∃ W : Nat -> Nat -> St -> Hp -> Prop, (∃ m, W 0 m σ H1) /\ ∀ i m σ H, W i m σ H ->
  (J.stop i H /\ D.nx σ H) \/ (J.go i H /\ ∃ N : St -> Hp -> Prop, (∀ σ' H', N σ' H' -> ∃ m', m' < m /\ W (i + 1) m' σ' H') /\ ∀ x H', J.yld i H x H' -> g x σ H' fun σ2 H2 => tb { D with nx := N, ct := N, bk := D.nx } σ2 H2)
noncomputable def pinsAt (fp : List Addr) (h : Heap) : List (Addr × Obj) := fp.filterMap fun b => (h.get? b).map fun o => (b, o)
theorem mem_pinsAt {fp : List Addr} {h : Heap} {b : Addr} {o : Obj} (hb : b ∈ fp) (e : h.get? b = some o) : (b, o) ∈ pinsAt fp h := List.mem_filterMap.mpr ⟨b, hb, by rw [e]; rfl⟩
theorem of_pinsAt {fp : List Addr} {h : Heap} {p : Addr × Obj} (hp : p ∈ pinsAt fp h) : p.1 ∈ fp /\ h.get? p.1 = some p.2 := by
  obtain ⟨b, hb, e⟩ := List.mem_filterMap.mp hp
  cases q : h.get? b with
  | none => rw [q] at e; cases e
  | some o =>
    rw [q] at e
    have e' : (b, o) = p := Option.some.inj e
    subst e'
    exact ⟨hb, q⟩
theorem Inv.pinned {pins : List (Addr × Obj)} {σ : St} {H : Hp} {s : Shared} {fp : List Addr} (I : Inv X pins σ H s) (hf : ∀ b ∈ fp, FpOk X pins H b) (ho : ∀ b ∈ fp, ∃ o, s.heap.get? b = some o /\ ∀ v, o.data ≠ .cell v) : Inv X (pins ++ pinsAt fp s.heap) σ H s :=
  I.pins_of fun p hp => (List.mem_append.mp hp).elim (fun z => I.pin p (List.mem_append_right _ z)) fun z => by
    obtain ⟨hb, e⟩ := of_pinsAt z
    obtain ⟨f0, f1, f2, _⟩ := hf p.1 hb
    obtain ⟨o, e', d⟩ := ho p.1 hb
    rw [e] at e'; cases e'
    exact ⟨e, f0, f1, f2, d⟩
theorem Inv.unpinned {pins pl : List (Addr × Obj)} {σ : St} {H : Hp} {s : Shared} (I : Inv X (pins ++ pl) σ H s) : Inv X pins σ H s := I.pins_of fun p hp => I.pin p (List.mem_append_right _ (List.mem_append_left _ hp))
theorem ps_for {iter : Expr} {body : List Stmt} {wi : TI} {g : TG} {tb : TS} {pos : Pos} (hp : PassesOwn (model X.prog X.w) X.A X.env X.xe) (hc : X.calm = true) (hi : PI X tg iter wi) (hg : PG X tg g) (hb : PSs X body tb)
    (hs : ∀ x, foldedSetIterable iter X.env x = pure x := by intro _; rfl) : PS X (.For tg iter body [] pos) (tFor wi g tb) := by
  intro pins s σ H D I h
  refine wpAny_For (thn (hi pins s σ H _ I h) fun v s1 h1 => thn h1 fun itv s2 h2 => ?_) hs
  obtain ⟨it, fp, tn, J, H2, e, I2, T, st2, f2, W, ⟨m0, w0⟩, turn⟩ := h2
  subst e
  -- what stays true of the iterator's objects through the loop
  have stat : ∀ {H' : Hp}, (∀ b ∈ fp, H' b = none) -> ∀ b ∈ fp, FpOk X pins H' b := fun hn b hb => ⟨hn b hb, (f2 b hb).2⟩
  refine codeAny_forLoop_any (fun n s' => ∃ i σ' H', Inv X pins σ' H' s' /\ tn i s'.heap /\ (∀ b ∈ fp, H' b = none) /\ W i n σ' H') ?_ m0 ⟨0, σ, H2, I2, st2, fun b hb => (f2 b hb).1, w0⟩
  rintro n s3 ⟨i, σ3, H3, I3, st3, fr3, w3⟩
  rcases turn i n σ3 H3 w3 with ⟨stop, qn⟩ | ⟨go, N, hN, step⟩
  · refine wpAny_passesOwn hp (thn (T.done X rfl rfl rfl hc i pins s3 σ3 H3 X.xe I3 (stat fr3) st3 stop) fun r s4 ⟨hr, I4⟩ => ?_)
    subst hr
    exact wpAny_execs_nil ⟨σ3, H3, I4, qn⟩
  · refine wpAny_passesOwn hp (thn (T.item X rfl rfl rfl hc i pins s3 σ3 H3 X.xe I3 (stat fr3) st3 go) fun r s4 ⟨u, hr, h4⟩ => ?_)
    subst hr
    refine wpAny_passesOwn hp (thn h4 fun _ s5 ⟨x, H5, I5, r5, y5, st5, fr5⟩ => ?_)
    have I5' := I5.pinned (stat fr5) (T.obj _ _ st5)
    refine wpAny_passesOwn hp (thn (hg _ s5 σ3 H5 x u _ I5' r5 (step x H5 y5)) fun _ s6 ⟨σ6, H6, I6, q6⟩ => ?_)
    refine wpAny_passesOwn hp (thn (hb _ s6 σ6 H6 _ I6 q6) fun f s7 q7 => ?_)
    have again : ∀ {σ7 : St} {H7 : Hp}, Inv X (pins ++ pinsAt fp s5.heap) σ7 H7 s7 -> N σ7 H7 -> ∃ m, m < n /\ ∃ i σ' H', Inv X pins σ' H' s7 /\ tn i s7.heap /\ (∀ b ∈ fp, H' b = none) /\ W i m σ' H' := fun {σ7 H7} I7 n7 => by
      obtain ⟨m', hm, w7⟩ := hN σ7 H7 n7
      refine ⟨m', hm, i + 1, σ7, H7, I7.unpinned, T.keep _ _ _ st5 fun b hb o e => (I7.pin (b, o) (List.mem_append_right _ (List.mem_append_right _ (mem_pinsAt hb e)))).1, fun b hb => ?_, w7⟩
      obtain ⟨o, e, d⟩ := T.obj _ _ st5 b hb
      exact (I7.pin (b, o) (List.mem_append_right _ (List.mem_append_right _ (mem_pinsAt hb e)))).2.1
    cases f with
    | next => obtain ⟨σ7, H7, I7, n7⟩ := q7; exact again I7 n7
    | cont => obtain ⟨σ7, H7, I7, n7⟩ := q7; exact again I7 n7
    | brk => obtain ⟨σ7, H7, I7, q7⟩ := q7; exact ⟨σ7, H7, I7.unpinned, q7⟩
    | ret v => obtain ⟨x7, σ7, H7, I7, r7, q7⟩ := q7; exact ⟨x7, σ7, H7, I7.unpinned, r7, q7⟩
end
end L2
namespace L2
open PySem PySem.Spec PyProof.Rows
noncomputable abbrev R2 := V -> V -> Hp -> VK -> Prop
noncomputable def OpR (X : Cx) (f : Value -> Value -> Sem Value) (r : R2) : Prop :=
  ∀ (pins : List (Addr × Obj)) (s : Shared) (σ : St) (H : Hp) (x y : V) (v u : Value) (Q : VK), Inv X pins σ H s -> RelV x v -> RelV y u -> r x y H Q ->
    wpAny (model X.prog X.w) X.A (f v u) (EP X pins σ Q) X.xe s
noncomputable def CallR (X : Cx) (f : Value) (r : List V -> Hp -> VK -> Prop) : Prop :=
  ∀ (pins : List (Addr × Obj)) (s : Shared) (σ : St) (H : Hp) (xs : List V) (us : List Value) (Q : VK), Inv X pins σ H s -> Vals xs us -> r xs H Q ->
    wpAny (model X.prog X.w) X.A (call f us) (EP X pins σ Q) X.xe s
noncomputable def TruR (X : Cx) (r : V -> Hp -> (Bool -> Hp -> Prop) -> Prop) : Prop :=
  ∀ (pins : List (Addr × Obj)) (s : Shared) (σ : St) (H : Hp) (x : V) (v : Value) (Q : Bool -> Hp -> Prop), Inv X pins σ H s -> RelV x v -> r x H Q ->
    wpAny (model X.prog X.w) X.A (truthy v) (TP X pins σ Q) X.xe s
noncomputable def tOp (r : R2) (ta tb : TE) : TE := fun σ H Q => ta σ H fun x H1 => tb σ H1 fun y H2 => r x y H2 Q
noncomputable def rI (C : Int -> Int -> Prop) (g : Int -> Int -> V) : R2 := fun x y H Q => ∃ i j, x = .int i /\ y = .int j /\ C i j /\ Q (g i j) H
noncomputable def rI0 (g : Int -> Int -> V) : R2 := fun x y H Q => ∃ i j, x = .int i /\ y = .int j /\ Q (g i j) H
section
variable {X : Cx} {a b c : Expr} {ta tb tc : TE} {pos : Pos}
theorem binT (ha : PE X a ta) (hb : PE X b tb) {pins : List (Addr × Obj)} {s : Shared} {σ : St} {H : Hp} {R : V -> V -> Hp -> Prop} (I : Inv X pins σ H s)
    (h : ta σ H fun x H1 => tb σ H1 fun y H2 => R x y H2) {Q : Value -> Shared -> Prop} {f : Value -> Value -> Sem Value}
    (hf : ∀ v u s2 x y H2, Inv X pins σ H2 s2 -> RelV x v -> RelV y u -> R x y H2 -> wpAny (model X.prog X.w) X.A (f v u) Q X.xe s2) :
    wpAny (model X.prog X.w) X.A (eval a X.env) (fun v s₁ => wpAny (model X.prog X.w) X.A (eval b X.env) (fun u s₂ => wpAny (model X.prog X.w) X.A (f v u) Q X.xe s₂) X.xe s₁) X.xe s := by
  refine thn (ha pins s σ H _ I h) fun v s1 ⟨x, H1, I1, r1, q1⟩ => ?_
  refine thn (hb pins s1 σ H1 _ I1 q1) fun u s2 ⟨y, H2, I2, r2, q2⟩ => ?_
  exact hf v u s2 x y H2 I2 r1 r2 q2
theorem pe_op {op : Operator} {r : R2} (ho : OpR X (binaryOp op) r) (ha : PE X a ta) (hb : PE X b tb) : PE X (.BinOp a op b pos) (tOp r ta tb) := by
  intro pins s σ H Q I h
  exact wpAny_BinOp (binT ha hb I h fun v u s2 x y H2 I2 rx ry q => ho pins s2 σ H2 x y v u Q I2 rx ry q)
theorem opI {f : Value -> Value -> Sem Value} {C : Int -> Int -> Prop} {g : Int -> Int -> Int}
    (rule : ∀ (i j : Int) (t u : Tok) (s : Shared) (Q : Value -> Shared -> Prop) (E : Value -> Shared -> Prop), C i j -> Q (.int (g i j) s.toks) { s with toks := s.toks + 1 } -> wpAny (model X.prog X.w) X.A (f (.int i t) (.int j u)) Q E s) :
    OpR X f (rI C fun i j => .int (g i j)) := by
  intro pins s σ H x y v u Q I rx ry h
  obtain ⟨i, j, rfl, rfl, hc, q⟩ := h
  obtain ⟨t, rfl⟩ := rx
  obtain ⟨t', rfl⟩ := ry
  exact rule i j t t' s _ _ hc ⟨.int (g i j), H, I.tok _, ⟨_, rfl⟩, q⟩
theorem opI0 {f : Value -> Value -> Sem Value} {g : Int -> Int -> Int}
    (rule : ∀ (i j : Int) (t u : Tok) (s : Shared) (Q : Value -> Shared -> Prop) (E : Value -> Shared -> Prop), Q (.int (g i j) s.toks) { s with toks := s.toks + 1 } -> wpAny (model X.prog X.w) X.A (f (.int i t) (.int j u)) Q E s) :
    OpR X f (rI0 fun i j => .int (g i j)) := by
  intro pins s σ H x y v u Q I rx ry h
  obtain ⟨i, j, rfl, rfl, q⟩ := h
  obtain ⟨t, rfl⟩ := rx
  obtain ⟨t', rfl⟩ := ry
  exact rule i j t t' s _ _ ⟨.int (g i j), H, I.tok _, ⟨_, rfl⟩, q⟩
theorem opB0 {f : Value -> Value -> Sem Value} {g : Int -> Int -> Bool}
    (rule : ∀ (i j : Int) (t u : Tok) (s : Shared) (Q : Value -> Shared -> Prop) (E : Value -> Shared -> Prop), Q (.bool (g i j)) s -> wpAny (model X.prog X.w) X.A (f (.int i t) (.int j u)) Q E s) :
    OpR X f (rI0 fun i j => .bl (g i j)) := by
  intro pins s σ H x y v u Q I rx ry h
  obtain ⟨i, j, rfl, rfl, q⟩ := h
  obtain ⟨t, rfl⟩ := rx
  obtain ⟨t', rfl⟩ := ry
  exact rule i j t t' s _ _ ⟨.bl (g i j), H, I, rfl, q⟩
noncomputable def CPow (i j : Int) : Prop := 0 <= j /\ j <= 1000000 /\ i.natAbs < 2 ^ 64
noncomputable def CMul (i j : Int) : Prop := (-(2 ^ 64) < i /\ i < 2 ^ 64) \/ (-(2 ^ 64) < j /\ j < 2 ^ 64)
theorem CMul.ok {i j : Int} (h : CMul i j) : IntMulOk i j := by
  rcases h with ⟨h1, h2⟩ | ⟨h1, h2⟩
  · exact .of_left (intBits_le_64 h1 h2)
  · exact .of_right (intBits_le_64 h1 h2)
theorem op_add : OpR X (binaryOp .Add) (rI0 fun i j => .int (i + j)) := opI0 fun _ _ _ _ _ _ _ q => add_int q
theorem op_sub : OpR X (binaryOp .Sub) (rI0 fun i j => .int (i - j)) := opI0 fun _ _ _ _ _ _ _ q => sub_int q
theorem op_mul : OpR X (binaryOp .Mult) (rI CMul fun i j => .int (i * j)) := opI fun _ _ _ _ _ _ _ hc q => mul_int q hc.ok
theorem op_modN : OpR X (binaryOp .Mod) (rI (fun _ j => j ≠ 0) fun i j => .int (i.fmod j)) := opI fun _ _ _ _ _ _ _ hc q => mod_int' hc q
theorem op_pow : OpR X (binaryOp .Pow) (rI CPow fun i j => .int (i ^ j.toNat)) := opI fun _ _ _ _ _ _ _ hc q => pow_int_small hc.1 hc.2.1 hc.2.2 q
end
noncomputable def scal : V -> V -> Bool
  | .non, .non => true | .non, .int _ => true | .int _, .non => true | .non, .bl _ => true | .bl _, .non => true | .non, .str _ => true | .str _, .non => true
  | .int _, .int _ => true | .bl _, .bl _ => true | .str _, .str _ => true | .byt _, .byt _ => true
  | .int _, .str _ => true | .str _, .int _ => true | .bl _, .str _ => true | .str _, .bl _ => true
  | _, _ => false
noncomputable def rEq : R2 := fun x y H Q => scal x y = true /\ Q (.bl (decide (x = y))) H
noncomputable def rNe : R2 := fun x y H Q => scal x y = true /\ Q (.bl (!decide (x = y))) H
theorem dec_int {i j : Int} : decide (V.int i = V.int j) = (i == j) := by
  rw [Bool.eq_iff_iff]
  simp
theorem dec_bl {i j : Bool} : decide (V.bl i = V.bl j) = (i == j) := by
  rw [Bool.eq_iff_iff]
  simp
theorem dec_str {i j : Str} : decide (V.str i = V.str j) = (i == j) := by
  rw [Bool.eq_iff_iff]
  simp
theorem dec_byt {i j : Array UInt8} : decide (V.byt i = V.byt j) = (i.toList == j.toList) := by
  rw [Bool.eq_iff_iff]
  cases i
  cases j
  simp
section
variable {X : Cx} {a b c : Expr} {ta tb tc : TE} {pos : Pos}
theorem fin_bl {pins : List (Addr × Obj)} {σ : St} {H : Hp} {s : Shared} {Q : VK} {k k' : Bool} (I : Inv X pins σ H s) (q : Q (.bl k) H) (e : k = k') : EP X pins σ Q (.bool k') s := by
  subst e
  exact ⟨.bl k, H, I, rfl, q⟩
theorem op_eq : OpR X (compareOp .Eq) rEq := by
  intro pins s σ H x y v u Q I rx ry h
  obtain ⟨hs, q⟩ := h
  cases x with
  | non =>
    cases rx
    cases y with
    | non => cases ry; exact PySem.EqNone.eq_none_none (fin_bl I q (by simp))
    | bl j => cases ry; exact PySem.EqNone.eq_none_bool (fin_bl I q (by simp))
    | int j => obtain ⟨t', rfl⟩ := ry; exact PySem.EqNone.eq_none_int (fin_bl I q (by simp))
    | str j => obtain ⟨t', rfl⟩ := ry; exact PySem.EqNone.eq_none_str (fin_bl I q (by simp))
    | _ => exact absurd (show false = true from hs) Bool.false_ne_true
  | bl i =>
    cases rx
    cases y with
    | non => cases ry; exact PySem.EqNone.eq_bool_none (fin_bl I q (by simp))
    | bl j => cases ry; exact eq_bool (fin_bl I q dec_bl)
    | str j => obtain ⟨t', rfl⟩ := ry; exact PySem.EqMixed.eq_bool_str (fin_bl I q (by simp))
    | _ => exact absurd (show false = true from hs) Bool.false_ne_true
  | int i =>
    obtain ⟨t, rfl⟩ := rx
    cases y with
    | non => cases ry; exact PySem.EqNone.eq_int_none (fin_bl I q (by simp))
    | int j => obtain ⟨t', rfl⟩ := ry; exact eq_int (fin_bl I q dec_int)
    | str j => obtain ⟨t', rfl⟩ := ry; exact PySem.EqMixed.eq_int_str (fin_bl I q (by simp))
    | _ => exact absurd (show false = true from hs) Bool.false_ne_true
  | str i =>
    obtain ⟨t, rfl⟩ := rx
    cases y with
    | non => cases ry; exact PySem.EqNone.eq_str_none (fin_bl I q (by simp))
    | bl j => cases ry; exact PySem.EqMixed.eq_str_bool (fin_bl I q (by simp))
    | int j => obtain ⟨t', rfl⟩ := ry; exact PySem.EqMixed.eq_str_int (fin_bl I q (by simp))
    | str j => obtain ⟨t', rfl⟩ := ry; exact eq_str (fin_bl I q dec_str)
    | _ => exact absurd (show false = true from hs) Bool.false_ne_true
  | byt i =>
    obtain ⟨t, rfl⟩ := rx
    cases y with
    | byt j => obtain ⟨t', rfl⟩ := ry; exact PySem.W.eq_bytes (fin_bl I q dec_byt)
    | _ => exact absurd (show false = true from hs) Bool.false_ne_true
  | _ => cases y <;> exact absurd (show false = true from hs) Bool.false_ne_true
theorem op_ne : OpR X (compareOp .NotEq) rNe := by
  intro pins s σ H x y v u Q I rx ry h
  obtain ⟨hs, q⟩ := h
  cases x with
  | non =>
    cases rx
    cases y with
    | non => cases ry; exact PySem.EqNone.ne_none_none (fin_bl I q (by simp))
    | bl j => cases ry; exact PySem.EqNone.ne_none_bool (fin_bl I q (by simp))
    | int j => obtain ⟨t', rfl⟩ := ry; exact PySem.EqNone.ne_none_int (fin_bl I q (by simp))
    | str j => obtain ⟨t', rfl⟩ := ry; exact PySem.EqNone.ne_none_str (fin_bl I q (by simp))
    | _ => exact absurd (show false = true from hs) Bool.false_ne_true
  | bl i =>
    cases rx
    cases y with
    | non => cases ry; exact PySem.EqNone.ne_bool_none (fin_bl I q (by simp))
    | bl j => cases ry; exact ne_bool (fin_bl I q (congrArg not dec_bl))
    | str j => obtain ⟨t', rfl⟩ := ry; exact PySem.EqMixed.ne_bool_str (fin_bl I q (by simp))
    | _ => exact absurd (show false = true from hs) Bool.false_ne_true
  | int i =>
    obtain ⟨t, rfl⟩ := rx
    cases y with
    | non => cases ry; exact PySem.EqNone.ne_int_none (fin_bl I q (by simp))
    | int j => obtain ⟨t', rfl⟩ := ry; exact ne_int (fin_bl I q (congrArg not dec_int))
    | str j => obtain ⟨t', rfl⟩ := ry; exact PySem.EqMixed.ne_int_str (fin_bl I q (by simp))
    | _ => exact absurd (show false = true from hs) Bool.false_ne_true
  | str i =>
    obtain ⟨t, rfl⟩ := rx
    cases y with
    | non => cases ry; exact PySem.EqNone.ne_str_none (fin_bl I q (by simp))
    | bl j => cases ry; exact PySem.EqMixed.ne_str_bool (fin_bl I q (by simp))
    | int j => obtain ⟨t', rfl⟩ := ry; exact PySem.EqMixed.ne_str_int (fin_bl I q (by simp))
    | str j => obtain ⟨t', rfl⟩ := ry; exact ne_str (fin_bl I q (congrArg not dec_str))
    | _ => exact absurd (show false = true from hs) Bool.false_ne_true
  | byt i =>
    obtain ⟨t, rfl⟩ := rx
    cases y with
    | byt j => obtain ⟨t', rfl⟩ := ry; exact PySem.W.ne_bytes (fin_bl I q (congrArg not dec_byt))
    | _ => exact absurd (show false = true from hs) Bool.false_ne_true
  | _ => cases y <;> exact absurd (show false = true from hs) Bool.false_ne_true
theorem op_lt : OpR X (compareOp .Lt) (rI0 fun i j => .bl (decide (i < j))) := opB0 fun _ _ _ _ _ _ _ q => lt_int q
theorem op_notN : OpR X (compareOp .IsNot) (fun x y H Q => y = .non /\ Q (.bl (!decide (x = .non))) H) := by
  intro pins s σ H x y v u Q I rx ry h
  obtain ⟨rfl, q⟩ := h
  cases ry
  refine isnot_none_gen (fin_bl I q ?_)
  cases x <;> first
    | (cases rx; rfl)
    | (obtain ⟨t, rfl⟩ := rx; rfl)
theorem nomark (b : Expr) {op : CmpOp} (h : op ≠ .In := by decide) (h2 : op ≠ .NotIn := by decide) : behindInMarks op b = false := by
  have e1 : (op == CmpOp.In) = false := by cases op <;> first | rfl | exact absurd rfl h
  have e2 : (op == CmpOp.NotIn) = false := by cases op <;> first | rfl | exact absurd rfl h2
  cases b <;> simp [behindInMarks, e1, e2]
noncomputable def tTest (t : TE) : TT := fun σ H Q => t σ H fun x H' => ∃ k, x = .bl k /\ Q k H'
theorem pt_cmpR {op : CmpOp} {r : R2} (ho : OpR X (compareOp op) r) (ha : PE X a ta) (hb : PE X b tb) (hm : behindInMarks op b = false) : PT X (.Compare a [op] [b] pos) (tTest (tOp r ta tb)) := by
  intro pins s σ H Q I h
  refine wpAny_isTrue_Compare1 (thn (ha pins s σ H _ I h) fun v s1 ⟨x, H1, I1, r1, q1⟩ => thn (hb pins s1 σ H1 _ I1 q1) fun u s2 ⟨y, H2, I2, r2, q2⟩ =>
    thn (ho pins s2 σ H2 x y v u _ I2 r1 r2 q2) fun c s3 ⟨z, H3, I3, r3, k, e, q3⟩ => ?_) hm
  subst e
  cases r3
  exact wpAny_truthy_bool ⟨H3, I3, q3⟩
noncomputable def TruV (K : PySem.W.Frag) (x : V) (H : Hp) (k : Bool) : Prop :=
  match x with
  | .non => k = false
  | .bl b => k = b
  | .int i => k = (i != 0)
  | .str y => y.length <= sizeLine /\ k = ((y.length : Int) != 0)
  | .byt y => y.size <= sizeLine /\ k = ((y.size : Int) != 0)
  | .ref p => (∃ xs, SqL K H p xs /\ k = !xs.isEmpty) \/ (∃ xs, SqT K H p xs /\ k = !xs.isEmpty) \/ ∃ kvs, H p = some (.dK kvs) /\ k = !kvs.isEmpty
  | _ => False
theorem isEmpty_kv {κ : Type} {kvs : List (κ × V)} {vs : List (κ × Value)} (r : KV kvs vs) : (!vs.isEmpty) = !kvs.isEmpty := by
  cases r <;> rfl
theorem isEmpty_of {xs : List V} {its : List Value} (r : Vals xs its) : (!its.toArray.isEmpty) = !xs.isEmpty := by
  cases r <;> simp
theorem line63 : (sizeLine : Nat) < 2 ^ 63 := by rw [sizeLine_eq]; decide
theorem tru_ok : TruR X (fun x H Q => ∃ k, TruV X.K x H k /\ Q k H) := by
  intro pins s σ H x v Q I rx h
  obtain ⟨k, e, q⟩ := h
  have hl := line63
  have hs : sizeLine = 16777216 := sizeLine_eq
  cases x with
  | non =>
    cases rx
    have e' : k = false := e
    subst e'
    exact truthy_none ⟨H, I, q⟩
  | bl b =>
    cases rx
    have e' : k = b := e
    subst e'
    exact wpAny_truthy_bool ⟨H, I, q⟩
  | int i =>
    obtain ⟨t, rfl⟩ := rx
    have e' : k = (i != 0) := e
    subst e'
    exact PySem.P.truthy_int ⟨H, I, q⟩
  | str y =>
    obtain ⟨t, rfl⟩ := rx
    obtain ⟨hy, e'⟩ : y.length <= sizeLine /\ k = ((y.length : Int) != 0) := e
    subst e'
    exact PySem.P.truthy_str (by omega) ⟨H, I.tok _, q⟩
  | byt y =>
    obtain ⟨t, rfl⟩ := rx
    obtain ⟨hy, e'⟩ : y.size <= sizeLine /\ k = ((y.size : Int) != 0) := e
    subst e'
    exact PySem.W.truthy_bytes (by omega) ⟨H, I.tok _, q⟩
  | ref p =>
    cases rx
    have e' : (∃ xs, SqL X.K H p xs /\ k = !xs.isEmpty) \/ (∃ xs, SqT X.K H p xs /\ k = !xs.isEmpty) \/ ∃ kvs, H p = some (.dK kvs) /\ k = !kvs.isEmpty := e
    rcases e' with ⟨xs, hx, e'⟩ | ⟨xs, hx, e'⟩ | ⟨kvs, hx, e'⟩
    · subst e'
      obtain ⟨its, r, pl, hz⟩ := I.list hx
      have hlen := r.length
      exact wpAny_truthy_list pl.isList (by simp only [List.size_toArray]; omega) ⟨H, I.tok _, by rw [isEmpty_of r]; exact q⟩
    · subst e'
      obtain ⟨its, r, pl, hz⟩ := I.tuple hx
      have hlen := r.length
      exact truthy_tuple pl (by simp only [List.size_toArray]; omega) ⟨H, I.tok _, by rw [isEmpty_of r]; exact q⟩
    · subst e'
      obtain ⟨hz, hS, vs, r, m⟩ : kvs.length <= sizeLine /\ (p == sysModules) = false /\ ∃ vs, KV kvs vs /\ s.heap.DictOf (mixKind X.prog X.w) p vs := I.hok p _ hx
      have hlen : kvs.length = vs.length := Paired.length r
      exact wpAny_truthy_dict hS m (by omega) ⟨H, I.tok _, by rw [isEmpty_kv r]; exact q⟩
  | _ => exact (show False from e).elim
theorem pt_truth (ha : PE X a ta) (he : ∀ whole, isTrue a X.env whole = (do let v ← whole; standAt a.pos; holding [v] (truthy v))) :
    PT X a (fun σ H Q => ta σ H fun x H' => ∃ k, TruV X.K x H' k /\ Q k H') := by
  intro pins s σ H Q I h
  exact isTrue_plain (thn (ha pins s σ H _ I h) fun v s1 ⟨x, H1, I1, r1, q1⟩ => tru_ok pins s1 σ H1 x v Q I1 r1 q1) (he _)
theorem op_add_str : OpR X (binaryOp .Add) (fun x y H Q => ∃ i j, x = .str i /\ y = .str j /\ i.length + j.length <= sizeLine /\ Q (.str (i ++ j)) H) := by
  intro pins s σ H x y v u Q I rx ry h
  obtain ⟨i, j, rfl, rfl, hz, q⟩ := h
  obtain ⟨t, rfl⟩ := rx
  obtain ⟨t', rfl⟩ := ry
  exact add_str (fun t' tk => ⟨.str (i ++ j), H, I.tok _, ⟨_, rfl⟩, q⟩) hz
theorem vals1 {x : V} {us : List Value} (r : Vals [x] us) : ∃ u, us = [u] /\ RelV x u := by
  cases r with
  | cons r1 r2 => cases r2; exact ⟨_, rfl, r1⟩
theorem vals2 {x y : V} {us : List Value} (r : Vals [x, y] us) : ∃ u w', us = [u, w'] /\ RelV x u /\ RelV y w' := by
  cases r with
  | cons r1 r2 =>
    cases r2 with
    | cons r3 r4 => cases r4; exact ⟨_, _, rfl, r1, r3⟩
end
end L2
namespace L2
open PySem PySem.Spec PyProof.Rows
structure ObjM (h : Heap) (x dx C : Addr) (mA : Str -> Option Value) : Prop where
  obj : h.get? x = some (PySem.W.instObj C dx)
  ns : h.Ns1 dx mA
  ne : dx ≠ x
theorem lookIn_ns {h : Heap} {dx : Addr} {mA : Str -> Option Value} (n : h.Ns1 dx mA) : ∃ od, h.get? dx = some od /\ ∀ name, PySem.W.lookIn name od = some (mA name) := by
  obtain ⟨o, es, ep, ho, hd, hk, _, hm⟩ := n
  refine ⟨o, ho, fun name => ?_⟩
  have e := hm name
  unfold nsFind findBy at e
  rw [← Array.find?_toList] at e
  unfold PySem.W.lookIn
  rw [hd]
  dsimp only
  split
  · rename_i y q
    rw [q] at e
    exact congrArg some e
  · rename_i q
    rw [q] at e
    have a : es.toList.any (·.refKey) = false := by
      rw [List.any_eq_false]
      intro y hy
      obtain ⟨z, t, hkey⟩ := hk y (Array.mem_toList_iff.mp hy)
      simp [DictEntry.refKey, hkey]
    have a' : ¬ es.toList.any (·.refKey) = true := by rw [a]; exact Bool.false_ne_true
    rw [if_neg a']
    exact congrArg some e
theorem ObjM.look {h : Heap} {x dx C : Addr} {mA : Str -> Option Value} (I : ObjM h x dx C mA) : ∃ od, PySem.W.InstAt h x (PySem.W.instObj C dx) C (some od) /\ ∀ name, PySem.W.lookIn name od = some (mA name) :=
  let ⟨od, ho, hl⟩ := lookIn_ns I.ns
  ⟨od, ⟨I.obj, rfl, rfl, ho⟩, hl⟩
section
variable {prog : Program} {w : World} {A : Around} {E : Value -> Shared -> Prop} {s : Shared} {K : PySem.W.Frag} {x dx C f : Addr} {mA : Str -> Option Value} {name : Str} {v : Value}
theorem get_map {expr : Bool} {Q : Value -> Shared -> Prop} (X : K.In s.heap) (I : ObjM s.heap x dx C mA) (hg : PySem.W.plainGet K C name = true) (hh : PySem.W.hasDictIn K C = true)
    (ha : PySem.W.findIn K (.ref C) name = some none) (hv : mA name = some v) (hv' : PySem.W.handedIn v = true) (h : Q v { s with toks := s.toks + 1 }) :
    wpAny (model prog w) A (getAttr (.ref x) name expr) Q E s := by
  obtain ⟨od, J, hl⟩ := I.look
  exact PySem.W.get_value X J (PySem.W.plainGet_of hg).1 (PySem.W.findObj_own hh ha rfl (by rw [hl, hv])) hv' h
theorem get_meth {pl : Sem Bool} {Q : Value × List Value -> Shared -> Prop} (X : K.In s.heap) (I : ObjM s.heap x dx C mA) (hg : PySem.W.plainGet K C name = true)
    (hf : PySem.W.findIn K (.ref C) name = some (some (.ref f))) (ht : PySem.W.isFn K (.ref f) = true) (hv : mA name = none) (h : Q (.ref f, [.ref x]) s) :
    wpAny (model prog w) A (getMethod (.ref x) name pl) Q E s := by
  obtain ⟨od, J, hl⟩ := I.look
  exact PySem.W.method_fn X J (PySem.W.plainGet_of hg).1 (PySem.W.plainGet_of hg).2 hf (beq_iff_eq.mp ht) (by show (PySem.W.lookIn name od).map (·.isSome) = some false; rw [hl, hv]; rfl) h
theorem set_map {ns : List Str} {Q : Unit -> Shared -> Prop} (X : K.In s.heap) (I : ObjM s.heap x dx C mA)
    (hs : PySem.W.findIn K (.ref C) "__setattr__" = some (some (.builtin "object.__setattr__"))) (hp : PySem.W.plainOver K C = true) (ht : PySem.W.takerIn K C name = some none) (hh : PySem.W.hasDictIn K C = true)
    (hw : PySem.Within mA ns) (hsz : ns.length <= sizeLine)
    (h : ∀ h', ObjM h' x dx C (fun y => if y = name then some v else mA y) -> Heap.SameBut dx s.heap h' -> Q () { s with heap := h', toks := s.toks + 2 }) :
    wpAny (model prog w) A (setAttr (.ref x) name v) Q E s := by
  obtain ⟨od, J, hl⟩ := I.look
  refine PySem.W.set_plain X J hs (PySem.W.osa_open (s := { s with toks := s.toks + 1 }) (r := none) X J hp ht fun b => ?_)
  obtain ⟨cd, hc, hd'⟩ := PySem.W.any_some hh
  have hx : s.heap.get? x = some ⟨.ref C, some dx, .plain, #[]⟩ := I.obj
  refine wpAny_bind (wpAny_pure (wpAny_bind (wpAny_bind (wpAny_loadPart hx (wpAny_bind (PySem.W.Looks.here (s := { s with toks := s.toks + 1 }) (PySem.W.looks_clsIn X hc) ?_))))))
  rw [hd']
  refine wpAny_pure (a := some dx) (wpAny_bind (wpAny_pure (wpAny_bind ?_)))
  refine wpAny_nsSet1 (s := { s with toks := s.toks + 1 }) I.ns fun h' hn2 hs2 => ?_
  obtain ⟨oD, esD, epD, hoD, hdD, hcD⟩ := hn2.count (PySem.Within.cons name v hw)
  refine wpAny_bind (wpAny_lookBehind hoD (by rw [hdD]; exact pastItsLine_dict (Nat.le_trans hcD (by rw [List.length_cons]; omega))) ?_)
  exact wpAny_pure (h _ ⟨(hs2.2 _ (Ne.symm I.ne)).trans I.obj, hn2, I.ne⟩ hs2)
theorem make_map {R : Result -> Shared -> Prop} {vs : List Value} {kw : List (Str × Value)} (X : K.In s.heap) (hm : PySem.W.makesIn K C = true)
    (hi : PySem.W.findIn K (.ref C) "__init__" = some (some (.ref f))) (hf : PySem.W.typeIn K (.ref f) = some (.type "function"))
    (h : codeAny (model prog w) (A.under (.builtin "type.__call__" ⟨.ref C :: vs, kw⟩)) (.call (.ref f) ⟨.ref (s.heap.objs.size + 1) :: vs, kw⟩) (PySem.W.InitBack (s.heap.objs.size + 1) R)
      { s with heap := (s.heap.push PySem.W.emptyDict).push (PySem.W.instObj C s.heap.objs.size) }) :
    codeAny (model prog w) A (.call (.ref C) ⟨vs, kw⟩) R s := by
  obtain ⟨hh, g, d, t, os⟩ := s
  exact PySem.W.make_core (PySem.W.makes_of X hm) (PySem.W.looks_findIn X hi) (fun self => PySem.W.bind_fn X self hf) (.inl rfl) h
end
noncomputable def putF (f : Str) (v : V) : List (Str × V) -> List (Str × V)
  | [] => [(f, v)]
  | (g, x) :: r => if g = f then (g, v) :: r else (g, x) :: putF f v r
theorem lookup_putF (f g : Str) (v : V) : ∀ fs : List (Str × V), (putF f v fs).lookup g = if g = f then some v else fs.lookup g
  | [] => by
    show List.lookup g [(f, v)] = _
    by_cases h : g = f
    · have hb : (g == f) = true := beq_iff_eq.mpr h
      simp only [List.lookup, hb, if_pos h]
    · have hb : (g == f) = false := beq_eq_false_iff_ne.mpr h
      simp only [List.lookup, hb, if_neg h]
  | (k, x) :: r => by
    have ih := lookup_putF f g v r
    rw [show putF f v ((k, x) :: r) = (if k = f then (k, v) :: r else (k, x) :: putF f v r) from rfl]
    by_cases hk : k = f
    · rw [if_pos hk]
      by_cases h : g = k
      · have hb : (g == k) = true := beq_iff_eq.mpr h
        simp only [List.lookup, hb, if_pos (h.trans hk)]
      · have hb : (g == k) = false := beq_eq_false_iff_ne.mpr h
        simp only [List.lookup, hb, if_neg (fun e : g = f => h (e.trans hk.symm))]
    · rw [if_neg hk]
      by_cases h : g = k
      · have hb : (g == k) = true := beq_iff_eq.mpr h
        simp only [List.lookup, hb, if_neg (fun e : g = f => hk (h.symm.trans e))]
      · have hb : (g == k) = false := beq_eq_false_iff_ne.mpr h
        simp only [List.lookup, hb]
        exact ih
theorem keys_putF (f : Str) (v : V) : ∀ fs : List (Str × V), f ∈ (putF f v fs).map (·.1) /\ ∀ g, g ∈ fs.map (·.1) -> g ∈ (putF f v fs).map (·.1)
  | [] => ⟨by simp [putF], fun g h => by simp at h⟩
  | (k, x) :: r => by
    obtain ⟨i1, i2⟩ := keys_putF f v r
    rw [show putF f v ((k, x) :: r) = (if k = f then (k, v) :: r else (k, x) :: putF f v r) from rfl]
    by_cases hk : k = f
    · rw [if_pos hk]
      subst hk
      exact ⟨by simp, fun g h => by simpa using h⟩
    · rw [if_neg hk]
      refine ⟨?_, fun g h => ?_⟩
      · rw [List.map_cons]
        exact List.mem_cons_of_mem _ i1
      · rw [List.map_cons] at h ⊢
        rcases List.mem_cons.mp h with e | e
        · exact List.mem_cons.mpr (.inl e)
        · exact List.mem_cons_of_mem _ (i2 g e)
theorem length_putF (f : Str) (v : V) : ∀ fs : List (Str × V), (putF f v fs).length <= fs.length + 1
  | [] => by simp [putF]
  | (k, x) :: r => by
    have ih := length_putF f v r
    rw [show putF f v ((k, x) :: r) = (if k = f then (k, v) :: r else (k, x) :: putF f v r) from rfl]
    by_cases hk : k = f
    · rw [if_pos hk, List.length_cons, List.length_cons]; omega
    · rw [if_neg hk, List.length_cons, List.length_cons]; omega
theorem RelO.some_of {v : V} {o : Option Value} (r : RelO (some v) o) : ∃ u, o = some u /\ RelV v u := by
  cases o with
  | none => exact (show False from r).elim
  | some u => exact ⟨u, rfl, r⟩
theorem RelO.none_of {o : Option Value} (r : RelO none o) : o = none := by
  cases o with
  | none => rfl
  | some u => exact (show False from r).elim
theorem handed_of {v : V} {u : Value} (r : RelV v u) : PySem.W.handedIn u = true := by
  cases v with
  | non => cases (show u = Value.none from r); rfl
  | bl b => cases (show u = Value.bool b from r); rfl
  | int i => obtain ⟨t, e⟩ := (show ∃ t, u = Value.int i t from r); cases e; rfl
  | str x => obtain ⟨t, e⟩ := (show ∃ t, u = Value.str x t from r); cases e; rfl
  | byt b => obtain ⟨t, e⟩ := (show ∃ t, u = Value.bytes b t from r); cases e; rfl
  | flt b => obtain ⟨t, e⟩ := (show ∃ t, u = Value.float b t from r); cases e; rfl
  | ref a => cases (show u = Value.ref a from r); rfl
  | ty n => cases (show u = Value.type n from r); rfl
section
variable {P : Program} {w : World} {H H' : Hp} {h h' : Heap} {a C dx : Addr} {fs fs' : List (Str × V)}
theorem ins_get (hok : HOk P w H h) (e : H a = some (.ins C dx fs)) : ∃ mA, ObjM h a dx C mA /\ (∀ f, RelO (fs.lookup f) (mA f)) /\ PySem.Within mA (fs.map (·.1)) /\ fs.length <= 1000 /\ H dx = some (.own a) := by
  obtain ⟨d, z, ne, ob, mA, n, r, q⟩ := (show ObjOk P w H h a (.ins C dx fs) from hok a _ e)
  exact ⟨mA, ⟨ob, n, ne⟩, r, q, z, d⟩
end
structure Cls (K : PySem.W.Frag) (C : Addr) : Prop where
  pg : PySem.W.plainGet K C Str.empty = true
  hd : PySem.W.hasDictIn K C = true
  po : PySem.W.plainOver K C = true
  sa : PySem.W.findIn K (.ref C) "__setattr__" = some (some (.builtin "object.__setattr__"))
theorem Cls.get {K : PySem.W.Frag} {C : Addr} (c : Cls K C) (f : Str) : PySem.W.plainGet K C f = true := c.pg
noncomputable def NoAttr (K : PySem.W.Frag) (C : Addr) (f : Str) : Prop := PySem.W.findIn K (.ref C) f = some none
theorem NoAttr.taker {K : PySem.W.Frag} {C : Addr} {f : Str} (n : NoAttr K C f) : PySem.W.takerIn K C f = some none := by
  unfold PySem.W.takerIn
  rw [show PySem.W.findIn K (.ref C) f = some none from n]
  rfl
structure Con (K : PySem.W.Frag) (C : Addr) (f : Str) (v : V) (u : Value) : Prop where
  at_ : PySem.W.findIn K (.ref C) f = some (some u)
  rel : RelV v u
  get : PySem.W.specialIn K u "__get__" = some none
  cp : PySem.W.copiedNames.contains f = false
structure Meth (K : PySem.W.Frag) (C : Addr) (m : Str) (f : Addr) : Prop where
  at_ : PySem.W.findIn K (.ref C) m = some (some (.ref f))
  fn : PySem.W.isFn K (.ref f) = true
  kp : PySem.W.keepIn K (.ref f) = true
section
variable {X : Cx} {pins : List (Addr × Obj)} {σ : St} {H : Hp} {s : Shared} {a C dx : Addr} {fs : List (Str × V)} {f : Str} {v : V} {A : Around} {E : Value -> Shared -> Prop}
theorem getattr_ok {b : Bool} {Q : Value -> Shared -> Prop} (I : Inv X pins σ H s) (e : H a = some (.ins C dx fs)) (c : Cls X.K C) (n : NoAttr X.K C f) (l : fs.lookup f = some v)
    (h : ∀ u s', Inv X pins σ H s' -> RelV v u -> Q u s') : wpAny (model X.prog X.w) A (getAttr (.ref a) f b) Q E s := by
  obtain ⟨mA, O, r, _, _, _⟩ := ins_get I.hok e
  obtain ⟨u, hu, ru⟩ := RelO.some_of (v := v) (o := mA f) (by rw [← l]; exact r f)
  exact get_map I.kIn O (c.get f) c.hd n hu (handed_of ru) (h u _ (I.tok _) ru)
theorem getmeth_ok {m : Str} {g : Addr} {pl : Sem Bool} {Q : Value × List Value -> Shared -> Prop} (I : Inv X pins σ H s) (e : H a = some (.ins C dx fs)) (c : Cls X.K C) (k : Meth X.K C m g) (l : fs.lookup m = none)
    (h : Q (.ref g, [.ref a]) s) : wpAny (model X.prog X.w) A (getMethod (.ref a) m pl) Q E s := by
  obtain ⟨mA, O, r, _, _, _⟩ := ins_get I.hok e
  have hn : mA m = none := RelO.none_of (by rw [← l]; exact r m)
  exact get_meth I.kIn O (c.get m) k.at_ k.fn hn h
theorem setattr_ok {y : V} {u : Value} {Q : Unit -> Shared -> Prop} (I : Inv X pins σ H s) (e : H a = some (.ins C dx fs)) (c : Cls X.K C) (n : NoAttr X.K C f) (hl : fs.length < 1000) (ry : RelV y u)
    (h : ∀ s', Inv X pins σ (upd H a (.ins C dx (putF f y fs))) s' -> Q () s') : wpAny (model X.prog X.w) A (setAttr (.ref a) f u) Q E s := by
  obtain ⟨mA, O, r, wi, _, ho⟩ := ins_get I.hok e
  have hz : (fs.map (·.1)).length <= sizeLine := by rw [List.length_map, sizeLine_eq]; omega
  refine set_map I.kIn O c.sa c.po n.taker c.hd wi hz fun h' O' sb => h _ ?_
  have hd : ∃ o, h'.get? dx = some o := let ⟨o, _, _, e', _⟩ := O'.ns; ⟨o, e'⟩
  refine I.write (x := a) (e := dx) (by rw [e]; exact True.intro) (.inr ho) (fun b q hb z => (sb.2 b hb).trans z) hd ?_
  refine ⟨by rw [upd_ne O.ne]; exact ho, ?_, O.ne, O'.obj, _, O'.ns, fun g => ?_, fun g hg => ?_⟩
  · have := length_putF f y fs; omega
  · show RelO ((putF f y fs).lookup g) (if g = f then some u else mA g)
    rw [lookup_putF]
    by_cases q : g = f
    · rw [if_pos q, if_pos q]; exact ry
    · rw [if_neg q, if_neg q]; exact r g
  · by_cases q : g = f
    · rw [q]; exact (keys_putF f y fs).1
    · refine (keys_putF f y fs).2 g (wi g fun z => hg ?_)
      show (if g = f then some u else mA g) = none
      rw [if_neg q]; exact z
theorem Inv.made (I : Inv X pins σ H s) : Inv X pins σ (upd (upd H s.heap.objs.size (.own (s.heap.objs.size + 1))) (s.heap.objs.size + 1) (.ins C s.heap.objs.size []))
    { s with heap := (s.heap.push PySem.W.emptyDict).push (PySem.W.instObj C s.heap.objs.size) } := by
  have e1 : (s.heap.push PySem.W.emptyDict).get? s.heap.objs.size = some PySem.W.emptyDict := Heap.get?_push_size s.heap rfl
  have e2 : ((s.heap.push PySem.W.emptyDict).push (PySem.W.instObj C s.heap.objs.size)).get? (s.heap.objs.size + 1) = some (PySem.W.instObj C s.heap.objs.size) := by
    have := Heap.get?_push_size (s.heap.push PySem.W.emptyDict) (o := PySem.W.instObj C s.heap.objs.size) rfl
    rwa [Heap.size_push] at this
  have e3 : (s.heap.push PySem.W.emptyDict).Ns s.heap.objs.size (fun _ => none) := ⟨PySem.W.emptyDict, #[], _, e1, rfl, (fun e he => absurd he (by simp)), fun _ => rfl⟩
  have I1 := I.laid (a := s.heap.objs.size) (o := .own (s.heap.objs.size + 1)) (h' := s.heap.push PySem.W.emptyDict) (t' := s.toks) (fun b u q => Heap.get?_push_of_some _ q) (Nat.le_refl _) ⟨_, e1⟩
  refine I1.laid (a := s.heap.objs.size + 1) (o := .ins C s.heap.objs.size []) (t' := s.toks) (fun b u q => Heap.get?_push_of_some _ q) (Nat.le_of_eq (Heap.size_push _ _)) ?_
  have ne : s.heap.objs.size ≠ s.heap.objs.size + 1 := Nat.ne_of_lt (Nat.lt_succ_self _)
  refine ⟨by rw [upd_ne ne, upd_same], Nat.zero_le _, ne, e2, fun _ => none, (Heap.Ns1.of_empty e3).at fun o q => Heap.get?_push_of_some _ q, fun _ => True.intro, fun y hy => absurd rfl hy⟩
theorem attr_of {prog : Program} {w : World} {env : Env} {e : Expr} {f : Str} {pos : Pos} {s : Shared} {Q : Value -> Shared -> Prop} (hb : attributeBase e f env (eval e env) = eval e env)
    (h : wpAny (model prog w) A (eval e env) (fun o s₁ => wpAny (model prog w) A (getAttr o f true) Q E s₁) E s) : wpAny (model prog w) A (eval (.Attribute e f pos) env) Q E s :=
  Attribute_any_ h (by rw [arm_eval_Attribute, hb])
end
noncomputable def tFld (K : PySem.W.Frag) (ta : TE) (f : Str) : TE := fun σ H Q => ta σ H fun x H1 => ∃ a C dx fs v, x = .ref a /\ H1 a = some (.ins C dx fs) /\ Cls K C /\ NoAttr K C f /\ fs.lookup f = some v /\ Q v H1
noncomputable def sFld (K : PySem.W.Frag) (ta tv : TE) (f : Str) : TS := fun D σ H => tv σ H fun y H1 => ta σ H1 fun x H2 => ∃ a C dx fs, x = .ref a /\ H2 a = some (.ins C dx fs) /\ Cls K C /\ NoAttr K C f /\ fs.length < 1000 /\
  D.nx σ (upd H2 a (.ins C dx (putF f y fs)))
section
variable {X : Cx} {o e value : Expr} {f : Str} {pos pos' tpos : Pos} {ta tv : TE}
theorem pe_fld (he : PE X e ta) (hb : attributeBase e f X.env (eval e X.env) = eval e X.env) : PE X (.Attribute e f pos) (tFld X.K ta f) := by
  intro pins s σ H Q I h
  refine attr_of hb (thn (he pins s σ H _ I h) fun u s1 ⟨x, H1, I1, rx, a, C, dx, fs, v, ex, ea, c, n, l, q⟩ => ?_)
  subst ex
  obtain rfl : u = Value.ref a := rx
  exact getattr_ok I1 ea c n l fun u' s2 I2 ru => ⟨v, H1, I2, ru, q⟩
theorem ps_fld (ha : PE X o ta) (hv : PE X value tv) (hs : swapsWith value (some (.Attribute o f pos')) pos.line X.env = pure false) : PS X (.Assign [.Attribute o f pos'] value pos) (sFld X.K ta tv f) := by
  intro pins s σ H D I h
  refine plainObj_wpAny_Assign_Attribute (thn (hv pins s σ H _ I h) fun u s1 ⟨y, H1, I1, ry, q⟩ => thn (ha pins s1 σ H1 _ I1 q) fun ov s2 ⟨x, H2, I2, rx, a, C, dx, fs, ex, ea, c, n, l, q2⟩ => ?_) hs
  subst ex
  obtain rfl : ov = Value.ref a := rx
  exact setattr_ok I2 ea c n l ry fun s3 I3 => ⟨σ, _, I3, q2⟩
end
section
variable {X : Cx} {pins : List (Addr × Obj)} {σ : St} {H : Hp} {s : Shared} {A : Around} {E : Value -> Shared -> Prop} {Q : Value -> Shared -> Prop} {c : Value} {b : Bool}
inductive TyOf (K : PySem.W.Frag) (H : Hp) : V -> Value -> Prop where
  | non : TyOf K H .non (.type "NoneType")
  | bl (x : Bool) : TyOf K H (.bl x) (.type "bool")
  | int (i : Int) : TyOf K H (.int i) (.type "int")
  | str (x : Str) : TyOf K H (.str x) (.type "str")
  | flt (x : UInt64) : TyOf K H (.flt x) (.type "float")
  | lst {a : Addr} {xs : List V} (e : H a = some (.lst xs)) : TyOf K H (.ref a) (.type "list")
  | frz {a : Addr} {o : Obj} {xs : List V} (e : H a = some (.frz o (.lst xs))) : TyOf K H (.ref a) (.type "list")
  | tup {a : Addr} {xs : List V} (e : H a = some (.tup xs)) : TyOf K H (.ref a) (.type "tuple")
  | dK {a : Addr} {kvs : List (Key × V)} (e : H a = some (.dK kvs)) : TyOf K H (.ref a) (.type "dict")
  | dT {a : Addr} {kvs : List (List Key × V)} (e : H a = some (.dT kvs)) : TyOf K H (.ref a) (.type "dict")
  | ins {a C dx : Addr} {fs : List (Str × V)} (e : H a = some (.ins C dx fs)) (cl : Cls K C) (ha : PySem.W.findIn K (.ref C) "__class__" = some (some (.builtin "object.__class__")))
      (hn : PySem.W.specialIn K (.builtin "object.__class__") "__get__" = some (some (.builtin "getset_descriptor.__get__"))) (htk : PySem.W.takesIn K (.builtin "object.__class__") = some true)
      (hm : PySem.W.mroIn K C (.type "object") = some true) : TyOf K H (.ref a) (.ref C)
end
end L2
namespace L2
open PySem PySem.Spec PyProof.Rows
structure Room (k : Nat) (A : Around) : Prop where
  hd : A.handled = none
  dp : A.depth + 3 * k + 5 < recursionLimit
  un : A.units + 16 * k + 200 < cLine
theorem Room.mono {j k : Nat} {A : Around} (r : Room k A) (h : j <= k) : Room j A := ⟨r.hd, by have := r.dp; omega, by have := r.un; omega⟩
theorem Room.deeper {k : Nat} {A : Around} (r : Room (k + 1) A) (env : Env) : Room k (A.deeper env) :=
  ⟨r.hd, by have := r.dp; show A.depth + 1 + 3 * k + 5 < _; omega, by have := r.un; show A.units + 3 + 16 * k + 200 < _; omega⟩
theorem make_depth {A : Around} {C : Addr} {us : List Value} {kw : List (Str × Value)} : (A.under (.builtin "type.__call__" ⟨.ref C :: us, kw⟩)).depth = A.depth + 1 := by
  first | rfl | simp [Around.under, Code.weight, Code.isCreation, Code.isGuard, Code.isCaller, Code.frames, Code.isFrame, guardIds]
theorem make_units {A : Around} {C : Addr} {us : List Value} {kw : List (Str × Value)} : (A.under (.builtin "type.__call__" ⟨.ref C :: us, kw⟩)).units = A.units + 1 := by
  first | rfl | simp [Around.under, Code.cUnits, Code.frames, Code.isFrame]
theorem Room.make {k : Nat} {A : Around} (r : Room (k + 1) A) (C : Addr) (us : List Value) (kw : List (Str × Value)) : Room k (A.under (.builtin "type.__call__" ⟨.ref C :: us, kw⟩)) :=
  ⟨r.hd, by have := r.dp; rw [make_depth]; omega, by have := r.un; rw [make_units]; omega⟩
theorem Room.depth {k : Nat} {A : Around} (r : Room k A) : A.depth < recursionLimit := by have := r.dp; omega
theorem Room.units {k : Nat} {A : Around} (r : Room k A) : A.units + 64 < cLine := by have := r.un; omega
noncomputable def tNil : TA := fun _ H Q => Q [] H
noncomputable def tCons (ta : TE) (tr : TA) : TA := fun σ H Q => ta σ H fun x H1 => tr σ H1 fun xs H2 => Q (x :: xs) H2
section
variable {X : Cx} {e : Expr} {es : List Expr} {te : TE} {t : TA} {pos : Pos}
theorem pa_nil : PA X [] tNil := fun _ _ _ _ H Q I h => Calls.spliced_nil ⟨[], H, I, .nil, h⟩
theorem pa_cons (ha : PE X e te) (hr : PA X es t) (hs : starEach (e :: es) X.env = (false, eval e X.env) :: starEach es X.env := by rfl) : PA X (e :: es) (tCons te t) := by
  intro pos pins s σ H Q I h
  rw [hs]
  show wpAny _ _ (spliced ((false, eval e X.env) :: backTo pos (starEach es X.env))) _ _ s
  refine Calls.spliced_cons (thn (ha pins s σ H _ I h) fun u s1 ⟨x, H1, I1, r1, q1⟩ => ?_)
  exact thn (hr pos pins s1 σ H1 _ I1 q1) fun us s2 ⟨xs, H2, I2, r2, q2⟩ => ⟨x :: xs, H2, I2, .cons r1 r2, q2⟩
noncomputable def tTup (t : TA) : TE := fun σ H Q => t σ H fun xs H1 => xs.length <= sizeLine /\ ∀ p, H1 p = none -> Q (.ref p) (upd H1 p (.tup xs))
theorem pe_tup {x1} (h : PA X es t) : PE X (.Tuple es x1 pos) (tTup t) := by
  intro pins s σ H Q I hq
  refine wpAny_Tuple_spliced (thn (h pos pins s σ H _ I hq) fun us s1 ⟨xs, H1, I1, r, z, q⟩ => ⟨by rw [← r.length]; exact z, ?_⟩)
  have hf : H1 s1.heap.objs.size = none := I1.hok.fresh (Nat.le_refl _)
  refine ⟨.ref s1.heap.objs.size, upd H1 s1.heap.objs.size (.tup xs), I1.laid (t' := s1.toks) (fun b u e => Heap.get?_push_of_some _ e) (Nat.le_refl _) ?_, rfl, q _ hf⟩
  exact ⟨z, us, r, ⟨_, Heap.get?_push_size _ rfl, rfl, _, rfl⟩⟩
end
noncomputable abbrev Sp := List V -> Hp -> VK -> XK -> Prop
noncomputable abbrev CXT := List Env -> Hp -> Shared -> XK -> Value -> Shared -> Prop
structure Env0 (P : Program) (w : World) (K : PySem.W.Frag) (mg : Str -> Option Value) (base : Heap) (A : Around) (outer : List Env) (s : Shared) (H : Hp) : Prop where
  frames : A.frames = some outer
  mod : Mod K mg base
  bs : ∀ b o, base.get? b = some o -> s.heap.get? b = some o /\ H b = none
  bsz : base.objs.size <= s.heap.objs.size
  funs : s.heap.FunFrames base outer
  frf : ∀ b ∈ frs outer, H b = none
  hok : HOk P w H s.heap
  bare : AllBare s.gens
noncomputable def CE (outer : List Env) (P : Program) (w : World) (H : Hp) (s : Shared) (Q : VK) (u : Value) (s' : Shared) : Prop :=
  ∃ v H', s'.os = s.os /\ AllBare s'.gens /\ Un (frs outer) [] H H' s.heap s'.heap /\ HOk P w H' s'.heap /\ RelV v u /\ Q v H'
noncomputable def CR (CX : CXT) (outer : List Env) (P : Program) (w : World) (H : Hp) (s : Shared) (Q : VK) (E : XK) (r : Result) (s' : Shared) : Prop :=
  match r with
  | .ok (.ret u) => CE outer P w H s Q u s'
  | .ok _ => False
  | .error e => CX outer H s E e s'
structure FnOk (P : Program) (w : World) (K : PySem.W.Frag) (mg : Str -> Option Value) (base : Heap) (CX : CXT) (k : Nat) (f : Addr) (fd : FuncData) (ps : List Str) (sp : Sp) : Prop where
  len : ∀ vs H Q E, sp vs H Q E -> vs.length = ps.length
  run : ∀ (A : Around) (outer : List Env) (s : Shared) (H : Hp) (args : Args) (us : List Value) (vs : List V) (Q : VK) (E : XK), Room k A -> Env0 P w K mg base A outer s H -> BindsTo s fd args (ps.zip us) -> Vals vs us -> sp vs H Q E ->
    codeAny (model P w) A (.call (.ref f) args) (CR CX outer P w H s Q E) s
theorem FnOk.mono {P : Program} {w : World} {K : PySem.W.Frag} {mg : Str -> Option Value} {base : Heap} {CX : CXT} {j k : Nat} {f : Addr} {fd : FuncData} {ps : List Str} {sp : Sp} (F : FnOk P w K mg base CX j f fd ps sp) (h : j <= k) :
    FnOk P w K mg base CX k f fd ps sp := ⟨F.len, fun A outer s H args us vs Q E hr => F.run A outer s H args us vs Q E (hr.mono h)⟩
theorem FnOk.imp {P : Program} {w : World} {K : PySem.W.Frag} {mg : Str -> Option Value} {base : Heap} {CX : CXT} {k : Nat} {f : Addr} {fd : FuncData} {ps : List Str} {sp sp' : Sp} (F : FnOk P w K mg base CX k f fd ps sp)
    (h : ∀ vs H Q E, sp' vs H Q E -> sp vs H Q E) : FnOk P w K mg base CX k f fd ps sp' :=
  ⟨fun vs H Q E q => F.len vs H Q E (h _ _ _ _ q), fun A outer s H args us vs Q E hr he hb hv hs => F.run A outer s H args us vs Q E hr he hb hv (h _ _ _ _ hs)⟩
theorem Env0.make {P : Program} {w : World} {K : PySem.W.Frag} {mg : Str -> Option Value} {base : Heap} {A : Around} {outer : List Env} {s : Shared} {H : Hp} (e : Env0 P w K mg base A outer s H) (C : Addr) (us : List Value) (kw : List (Str × Value)) :
    Env0 P w K mg base (A.under (.builtin "type.__call__" ⟨.ref C :: us, kw⟩)) outer s H := ⟨by first | exact e.frames | (simpa [Around.under, Code.envs, Code.isFrame, pushEnvs] using e.frames), e.mod, e.bs, e.bsz, e.funs, e.frf, e.hok, e.bare⟩
section
variable {X : Cx} {pins : List (Addr × Obj)} {σ : St} {H : Hp} {s s' : Shared}
theorem Inv.env0 (I : Inv X pins σ H s) : Env0 X.prog X.w X.K X.mg X.base X.A X.stack s H :=
  ⟨I.ok.frames, I.ok.mod, I.bs, Nat.le_trans I.ok.bsz I.sz, I.stack, I.stkFree, I.hok, I.bare⟩
theorem Inv.after {Q : VK} {u : Value} (I : Inv X pins σ H s) (h : CE X.stack X.prog X.w H s Q u s') : EP X pins σ Q u s' := by
  obtain ⟨v, H', os, bare, un, hok, r, q⟩ := h
  obtain ⟨hh, g, d, t, os'⟩ := s'
  obtain rfl : os' = s.os := os
  exact ⟨v, H', I.call (h' := hh) (g' := g) (d' := d) (t' := t) (ch := []) un hok bare (fun b z => absurd z (by simp)), r, q⟩
end
noncomputable def tCall (sp : Sp) (dvs : List V) (E : XK) (t : TA) : TE := fun σ H Q => t σ H fun vs H1 => sp (vs ++ dvs) H1 Q E
noncomputable def tMeth (C : Addr) (m : Str) (sp : Sp) (dvs : List V) (E : XK) (ta : TE) (t : TA) : TE := fun σ H Q => ta σ H fun x H1 => ∃ a dx fs, x = .ref a /\ H1 a = some (.ins C dx fs) /\ fs.lookup m = none /\
  t σ H1 fun vs H2 => sp (x :: (vs ++ dvs)) H2 Q E
noncomputable def tMake (C : Addr) (sp : Sp) (dvs : List V) (E : XK) (t : TA) : TE := fun σ H Q => t σ H fun vs H1 => ∀ x dx, H1 x = none -> H1 dx = none -> dx ≠ x ->
  sp (.ref x :: (vs ++ dvs)) (upd (upd H1 dx (.own x)) x (.ins C dx [])) (fun v H2 => v = .non /\ Q (.ref x) H2) E
noncomputable def Binds (K : PySem.W.Frag) (fd : FuncData) (ps : List Str) (ds : List Value) : Prop :=
  ∀ (s : Shared) (us : List Value), K.In s.heap -> (us ++ ds).length = ps.length -> BindsTo s fd ⟨us, []⟩ (ps.zip (us ++ ds))
theorem Binds.all {K : PySem.W.Frag} {fd : FuncData} {ps : List Str} (h : ∀ us : List Value, us.length = ps.length -> bindArgs fd ⟨us, []⟩ = pure (ps.zip us)) : Binds K fd ps [] := fun s us _ hl => by
  rw [List.append_nil] at hl ⊢
  exact .of_eq (h us hl)
noncomputable def Passes (CX : CXT) (X : Cx) (E : XK) : Prop := ∀ (pins : List (Addr × Obj)) (σ : St) (H : Hp) (s : Shared) (e : Value) (s' : Shared), Inv X pins σ H s -> CX X.stack H s E e s' -> X.xe e s'
section
variable {X : Cx} {CX : CXT} {k : Nat} {f C : Addr} {fd : FuncData} {ps : List Str} {sp : Sp} {dvs : List V} {ds : List Value} {E : XK} {x m : Str} {p pos apos : Pos} {e o : Expr} {es : List Expr} {ta : TE} {t : TA}
theorem run_fn {pins : List (Addr × Obj)} {σ : St} {H : Hp} {s : Shared} {Q : VK} {us : List Value} {vs : List V} (F : FnOk X.prog X.w X.K X.mg X.base CX k f fd ps sp) (hr : Room k X.A) (hb : Binds X.K fd ps ds) (hd : Vals dvs ds) (hx : Passes CX X E)
    (I : Inv X pins σ H s) (r : Vals vs us) (h : sp (vs ++ dvs) H Q E) : wpAny (model X.prog X.w) X.A (call (.ref f) us) (EP X pins σ Q) X.xe s := by
  have r2 : Vals (vs ++ dvs) (us ++ ds) := r.append hd
  have hl : (us ++ ds).length = ps.length := by rw [← r2.length]; exact F.len _ _ _ _ h
  refine wpAny_call (codeAny_mono (F.run X.A X.stack s H ⟨us, []⟩ (us ++ ds) (vs ++ dvs) Q E hr I.env0 (hb s us I.kIn hl) r2 h) fun r s' hq => ?_)
  cases r with
  | error e => exact hx pins σ H s e s' I hq
  | ok fl =>
    cases fl with
    | ret u => exact I.after hq
    | next => exact False.elim hq
    | brk => exact False.elim hq
    | cont => exact False.elim hq
theorem pe_call (F : FnOk X.prog X.w X.K X.mg X.base CX k f fd ps sp) (hr : Room k X.A) (hg : Gl X x) (hm : X.mg x = some (.ref f)) (hk : PySem.W.keepIn X.K (.ref f) = true) (hb : Binds X.K fd ps ds) (hd : Vals dvs ds) (hx : Passes CX X E)
    (ha : PA X (e :: es) t) (hdb : (x == ("__debug__" : Str)) = false := by decide) (he : starEach (e :: es) X.env = (false, eval e X.env) :: starEach es X.env := by rfl) (hpl : (backTo pos (starEach es X.env)).any (·.1) = false := by rfl) :
    PE X (.Call (.Name x p) (e :: es) [] pos) (tCall sp dvs E t) := by
  intro pins s σ H Q I h
  refine wpAny_Call_Name_kw (ld_glob I hg hm ?_ hdb)
  refine PySem.W.callWith_K (h₀ := X.base) I.ok.mod.kin hk (thn (ha pos pins s σ H _ I h) fun us s1 ⟨vs, H1, I1, r, q⟩ => ⟨I1.kIn, ?_⟩) he hpl
  exact run_fn F hr hb hd hx I1 r q
theorem pe_meth {pl : Sem Bool} (he : PE X o ta) (c : Cls X.K C) (hm : Meth X.K C m f) (F : FnOk X.prog X.w X.K X.mg X.base CX k f fd ps sp) (hr : Room k X.A) (hb : Binds X.K fd ps ds) (hd : Vals dvs ds) (hx : Passes CX X E) (ha : PA X (e :: es) t)
    (hst : starEach (e :: es) X.env = (false, eval e X.env) :: starEach es X.env := by rfl) (hpl : (backTo pos (starEach es X.env)).any (·.1) = false := by rfl)
    (ht : eval (.Call (.Attribute o m apos) (e :: es) [] pos) X.env = (do
      let ov ← eval o X.env
      standAt apos.atName
      let (f, first) ← holding [ov] (getMethod ov m pl)
      callWith pos f first (backTo pos (starEach (e :: es) X.env)) (backToKw pos (keywordEach [] X.env))) := by rfl) :
    PE X (.Call (.Attribute o m apos) (e :: es) [] pos) (tMeth C m sp dvs E ta t) := by
  intro pins s σ H Q I h
  refine PySem.W.methodCall_KW (pl := pl) (thn (he pins s σ H _ I h) fun u s1 ⟨x, H1, I1, rx, a, dx, fs, ex, ea, l, q⟩ => ?_) ht
  subst ex
  obtain rfl : u = Value.ref a := rx
  refine getmeth_ok I1 ea c hm l ?_
  refine PySem.W.callWith_K (first := [.ref a]) (h₀ := X.base) I.ok.mod.kin hm.kp (thn (ha pos pins s1 σ H1 _ I1 q) fun us s2 ⟨vs, H2, I2, r, q2⟩ => ⟨I2.kIn, ?_⟩) hst hpl
  exact run_fn (us := .ref a :: us) (vs := .ref a :: vs) F hr hb hd hx I2 (.cons rfl r) q2
theorem pe_meth0 {pl : Sem Bool} (he : PE X o ta) (c : Cls X.K C) (hm : Meth X.K C m f) (F : FnOk X.prog X.w X.K X.mg X.base CX k f fd ps sp) (hr : Room k X.A) (hb : Binds X.K fd ps ds) (hd : Vals dvs ds) (hx : Passes CX X E)
    (ht : eval (.Call (.Attribute o m apos) [] [] pos) X.env = (do
      let ov ← eval o X.env
      standAt apos.atName
      let (f, first) ← holding [ov] (getMethod ov m pl)
      callWith pos f first (backTo pos (starEach [] X.env)) (backToKw pos (keywordEach [] X.env))) := by rfl) :
    PE X (.Call (.Attribute o m apos) [] [] pos) (tMeth C m sp dvs E ta tNil) := by
  intro pins s σ H Q I h
  refine PySem.W.methodCall_KW (pl := pl) (thn (he pins s σ H _ I h) fun u s1 ⟨x, H1, I1, rx, a, dx, fs, ex, ea, l, q⟩ => ?_) ht
  subst ex
  obtain rfl : u = Value.ref a := rx
  refine getmeth_ok I1 ea c hm l ?_
  exact PySem.W.callWith_K0 (first := [.ref a]) I1.kIn hm.kp (run_fn (us := [.ref a]) (vs := [.ref a]) F hr hb hd hx I1 (.cons rfl .nil) q)
structure Mk (K : PySem.W.Frag) (C f : Addr) : Prop where
  makes : PySem.W.makesIn K C = true
  init : PySem.W.findIn K (.ref C) "__init__" = some (some (.ref f))
  fn : PySem.W.isFn K (.ref f) = true
  kp : PySem.W.keepIn K (.ref C) = true
theorem run_make {pins : List (Addr × Obj)} {σ : St} {H : Hp} {s : Shared} {Q : VK} {us : List Value} {vs : List V} (M : Mk X.K C f) (F : FnOk X.prog X.w X.K X.mg X.base CX k f fd ps sp) (hr : Room (k + 1) X.A) (hb : Binds X.K fd ps ds) (hd : Vals dvs ds)
    (hx : Passes CX X E) (I : Inv X pins σ H s) (r : Vals vs us)
    (h : ∀ x dx, H x = none -> H dx = none -> dx ≠ x -> sp (.ref x :: (vs ++ dvs)) (upd (upd H dx (.own x)) x (.ins C dx [])) (fun v H2 => v = .non /\ Q (.ref x) H2) E) :
    wpAny (model X.prog X.w) X.A (call (.ref C) us) (EP X pins σ Q) X.xe s := by
  have hq := h (s.heap.objs.size + 1) s.heap.objs.size (I.hok.fresh (Nat.le_succ _)) (I.hok.fresh (Nat.le_refl _)) (Nat.ne_of_lt (Nat.lt_succ_self _))
  have I2 := Inv.made (C := C) I
  have r2 : Vals (V.ref (s.heap.objs.size + 1) :: (vs ++ dvs)) (Value.ref (s.heap.objs.size + 1) :: (us ++ ds)) := .cons rfl (r.append hd)
  have hl : (Value.ref (s.heap.objs.size + 1) :: us ++ ds).length = ps.length := by
    have e := r2.length
    rw [F.len _ _ _ _ hq] at e
    exact e.symm
  refine wpAny_call (make_map (f := f) I.kIn M.makes M.init (beq_iff_eq.mp M.fn) (codeAny_mono (F.run _ X.stack _ _ ⟨Value.ref (s.heap.objs.size + 1) :: us, []⟩ (Value.ref (s.heap.objs.size + 1) :: (us ++ ds)) _ _ E (hr.make C us [])
    (I2.env0.make C us []) (hb _ (Value.ref (s.heap.objs.size + 1) :: us) I2.kIn hl) r2 hq) fun r s' hq' => ?_))
  cases r with
  | error e => exact hx pins σ _ _ e s' I2 hq'
  | ok fl =>
    cases fl with
    | ret u =>
      obtain ⟨v, H', I3, rv, ev, q3⟩ := I2.after hq'
      subst ev
      exact ⟨rv, ⟨V.ref (s.heap.objs.size + 1), H', I3, rfl, q3⟩⟩
    | next => exact False.elim hq'
    | brk => exact False.elim hq'
    | cont => exact False.elim hq'
theorem pe_make0 (M : Mk X.K C f) (F : FnOk X.prog X.w X.K X.mg X.base CX k f fd ps sp) (hr : Room (k + 1) X.A) (hg : Gl X x) (hm : X.mg x = some (.ref C)) (hb : Binds X.K fd ps ds) (hd : Vals dvs ds) (hx : Passes CX X E)
    (hdb : (x == ("__debug__" : Str)) = false := by decide) : PE X (.Call (.Name x p) [] [] pos) (tMake C sp dvs E tNil) := by
  intro pins s σ H Q I h
  refine wpAny_Call_Name_kw (ld_glob I hg hm ?_ hdb)
  exact PySem.W.callWith_K0 I.kIn M.kp (run_make (us := []) M F hr hb hd hx I .nil h)
end
section
variable {X : Cx} {CX : CXT} {k : Nat} {f C : Addr} {fd : FuncData} {ps ks : List Str} {sp : Sp} {E : XK} {x m : Str} {p pos apos kpos : Pos} {e o : Expr} {es : List Expr} {kws : List Keyword} {te ta : TE} {t tk : TA} {nm : Option Str}
structure KBinds (K : PySem.W.Frag) (fd : FuncData) (ps ks : List Str) (g : List Value -> List Value -> List Value) (gV : List V -> List V -> List V) : Prop where
  to : ∀ (s : Shared) (us ws : List Value), K.In s.heap -> (g us ws).length = ps.length -> BindsTo s fd ⟨us, ks.zip ws⟩ (ps.zip (g us ws))
  rel : ∀ {vs : List V} {us : List Value} {zs : List V} {ws : List Value}, Vals vs us -> Vals zs ws -> Vals (gV vs zs) (g us ws)
variable {g : List Value -> List Value -> List Value} {gV : List V -> List V -> List V}
end
structure FnScope (N P : List Str) (sc : Scope) : Prop where
  kind : sc.kind = .function
  co : sc.isCoroutine = false
  gen : sc.isGenerator = false
  nd : N.Nodup
  pre : N.take P.length = P
  par : ∀ x ∈ P, sc.names.lookup x = some .local \/ sc.names.lookup x = some .cell
  nofree : ∀ y ∈ sc.names, y.2 ≠ .free
theorem bindL_out {kindOf : Str -> Option NameKind} {x : Str} : ∀ {binds : List (Str × Value)} {m : Str -> Option Value}, (∀ v, (x, v) ∉ binds) -> bindL kindOf binds m x = m x
  | [], _, _ => rfl
  | (n, v) :: r, m, h => by
    unfold bindL
    rw [bindL_out fun w hw => h w (List.mem_cons_of_mem _ hw)]
    split
    · have : x ≠ n := by rintro rfl; exact h v List.mem_cons_self
      simp [this]
    · rfl
theorem bindC_out {kindOf : Str -> Option NameKind} {x : Str} : ∀ {binds : List (Str × Value)} {m : Str -> Option Value}, (∀ v, (x, v) ∉ binds) -> bindC kindOf binds m x = m x
  | [], _, _ => rfl
  | (n, v) :: r, m, h => by
    unfold bindC
    rw [bindC_out fun w hw => h w (List.mem_cons_of_mem _ hw)]
    split
    · rfl
    · have : x ≠ n := by rintro rfl; exact h v List.mem_cons_self
      simp [this]
theorem bindL_get {kindOf : Str -> Option NameKind} {x : Str} {v : Value} : ∀ {P : List Str} {vs : List Value} {i : Nat} {m : Str -> Option Value}, P.Nodup -> P[i]? = some x -> vs[i]? = some v -> kindOf x = some .local ->
    bindL kindOf (P.zip vs) m x = some v
  | [], _, _, _, _, h, _, _ => by simp at h
  | _ :: _, [], _, _, _, _, h, _ => by simp at h
  | p :: P, w :: vs, 0, m, nd, h1, h2, hk => by
    simp at h1 h2; subst h1; subst h2
    show bindL kindOf ((p, w) :: P.zip vs) m p = _
    unfold bindL
    rw [bindL_out fun v hv => (List.nodup_cons.mp nd).1 (List.of_mem_zip hv).1, if_pos hk]
    simp
  | p :: P, w :: vs, i + 1, m, nd, h1, h2, hk => by
    show bindL kindOf ((p, w) :: P.zip vs) m x = _
    unfold bindL
    exact bindL_get (i := i) (List.nodup_cons.mp nd).2 (by simpa using h1) (by simpa using h2) hk
theorem bindC_get {kindOf : Str -> Option NameKind} {x : Str} {v : Value} : ∀ {P : List Str} {vs : List Value} {i : Nat} {m : Str -> Option Value}, P.Nodup -> P[i]? = some x -> vs[i]? = some v -> kindOf x ≠ some .local ->
    bindC kindOf (P.zip vs) m x = some v
  | [], _, _, _, _, h, _, _ => by simp at h
  | _ :: _, [], _, _, _, _, h, _ => by simp at h
  | p :: P, w :: vs, 0, m, nd, h1, h2, hk => by
    simp at h1 h2; subst h1; subst h2
    show bindC kindOf ((p, w) :: P.zip vs) m p = _
    unfold bindC
    rw [bindC_out fun v hv => (List.nodup_cons.mp nd).1 (List.of_mem_zip hv).1, if_neg hk]
    simp
  | p :: P, w :: vs, i + 1, m, nd, h1, h2, hk => by
    show bindC kindOf ((p, w) :: P.zip vs) m x = _
    unfold bindC
    exact bindC_get (i := i) (List.nodup_cons.mp nd).2 (by simpa using h1) (by simpa using h2) hk
noncomputable def start (N : List Str) (vs : List V) : St := vs.map some ++ List.replicate (N.length - vs.length) none
noncomputable def cxOf (CX : CXT) (P : Program) (w : World) (K : PySem.W.Frag) (mg : Str -> Option Value) (base : Heap) (N : List Str) (qual : Str) (scope : Scope) (f : Addr) (cd : Value) (A : Around) (outer : List Env) (s : Shared) (H : Hp) (E : XK) : Cx where
  prog := P
  w := w
  K := K
  mg := mg
  base := base
  A := A.deeper (envOfC qual scope s.heap.objs.size f cd)
  N := N
  s₀ := s
  H₀ := H
  env := envOfC qual scope s.heap.objs.size f cd
  outer := outer
  stack := envOfC qual scope s.heap.objs.size f cd :: outer
  ex := []
  calm := true
  fn := fun _ => true
  pn := []
  xe := fun e s' => wpAny (model P w) (A.deeper (envOfC qual scope s.heap.objs.size f cd)) (leaving (envOfC qual scope s.heap.objs.size f cd) e) (fun _ s'' => CX outer H s E e s'') (fun e' s'' => CX outer H s E e' s'') s'
theorem cell_has {sc : Scope} {n : Nat} {x : Str} (h : sc.names.lookup x = some .cell) : ∃ c, (cellsFrom n sc.names []).lookup x = some c := by
  have q := PySem.W.cellsFrom_some sc.names n [] (.inl h)
  exact Option.isSome_iff_exists.mp q
theorem inv_start {CX : CXT} {P : Program} {w : World} {K : PySem.W.Frag} {mg : Str -> Option Value} {base : Heap} {N ps : List Str} {qual : Str} {scope : Scope} {f : Addr} {cd : Value} {A : Around} {outer : List Env} {s s1 : Shared} {H : Hp} {E : XK} {us : List Value} {vs : List V}
    (S : FnScope N ps scope) (hd : A.handled = none) (e0 : Env0 P w K mg base A outer s H) (hl : vs.length = ps.length) (r : Vals vs us)
    (x : InCallC s s.heap.objs.size (bindL (envOfC qual scope s.heap.objs.size f cd).kindOf (ps.zip us) fun _ => none) (cellsFrom (s.heap.objs.size + 1) scope.names []) (bindC (envOfC qual scope s.heap.objs.size f cd).kindOf (ps.zip us) fun _ => none) s1) :
    Inv (cxOf CX P w K mg base N qual scope f cd A outer s H E) [] (start N vs) H s1 := by
  have hpl : ps.length <= N.length := by have := congrArg List.length S.pre; rw [List.length_take] at this; omega
  obtain ⟨h1, tk, rfl, hk⟩ := x.done
  have noA : ∀ b : Addr, b ∉ (cxOf CX P w K mg base N qual scope f cd A outer s H E).ex := fun b z => absurd (show b ∈ ([] : List Addr) from z) (by simp)
  refine ⟨⟨e0.mod, S.kind, rfl, rfl, Nat.le_refl _, fun y z c h1 h2 => ?_, fun y hy => ?_, fun y c _ h => ?_, fun _ => hd, Around.frames_deeper e0.frames, .inr ⟨rfl, rfl⟩, fun b z => absurd z (noA b), e0.bs, e0.bsz, fun b _ _ => noA b, fun b z => absurd z (noA b), e0.funs, e0.frf⟩,
    rfl, e0.bare, Un.kept hk, ⟨_, x.toInCall.ns, fun i y v h1 h2 h3 => ?_⟩, fun y c h => ⟨_, x.cell y c h⟩, e0.hok.fresh (Nat.le_refl _), fun y c h => ?_, fun p hp => absurd (show p ∈ ([] : List (Addr × Obj)) from hp) (by simp), e0.hok.kept hk, ?_⟩
  · exact name_of_addr x.apart (PySem.mem_of_lookup h1) (PySem.mem_of_lookup h2)
  · have hy : scope.names.lookup y = some .cell \/ scope.names.lookup y = some .free := hy
    rcases hy with hy | hy
    · exact cell_has hy
    · exact absurd rfl (S.nofree _ (PySem.mem_of_lookup hy))
  · exact Nat.le_of_lt (x.above y c (PySem.mem_of_lookup h))
  · have hi : i < vs.length := by
      unfold start at h2
      by_cases hi : i < vs.length
      · exact hi
      · rw [List.getElem?_append_right (by simpa using hi)] at h2
        rw [List.getElem?_replicate] at h2
        split at h2 <;> cases h2
    have ha : vs[i]? = some v := by
      unfold start at h2
      rw [List.getElem?_append_left (by simpa using hi), List.getElem?_map] at h2
      cases e : vs[i]? with
      | none => rw [e] at h2; cases h2
      | some a => rw [e] at h2; cases h2; rfl
    obtain ⟨u, hu, rv⟩ := r.get ha
    have hp : ps[i]? = some y := by
      rw [← S.pre, List.getElem?_take_of_lt (by omega)]; exact h1
    have ndP : ps.Nodup := by rw [← S.pre]; exact S.nd.sublist (List.take_sublist _ _)
    refine ⟨u, rv, ?_⟩
    rcases S.par y (List.mem_of_getElem? hp) with k | k
    · exact .inl ⟨k, bindL_get ndP hp hu k⟩
    · obtain ⟨c, e⟩ := cell_has (n := s.heap.objs.size + 1) k
      refine .inr ⟨.inl k, c, e, ?_⟩
      have q := x.cell y c e
      rw [bindC_get ndP hp hu (by show scope.names.lookup y ≠ _; rw [k]; decide)] at q
      exact q
  · exact e0.hok.fresh (Nat.le_of_lt (x.above y c (PySem.mem_of_lookup h)))
  · unfold start
    show _ = N.length
    rw [List.length_append, List.length_map, List.length_replicate]
    omega
theorem fn_of {CX : CXT} {P : Program} {w : World} {K : PySem.W.Frag} {mg : Str -> Option Value} {base : Heap} {k : Nat} {f : Addr} {name qual : Str} {params : Arguments} {body : List Stmt} {scope : Scope} {dV kV doc pm cdv ct oc : Value} {an od : Option Addr}
    {osl : Array (Option Value)} {N ps : List Str} {sp : Sp} (lk : K.lookup f = some ⟨oc, od, .func (PySem.W.fnOf name qual params body scope dV kV doc pm an cdv ct), osl⟩) (hcd : PySem.W.codeIn K cdv qual = true) (S : FnScope N ps scope)
    (len : ∀ vs H Q E, sp vs H Q E -> vs.length = ps.length)
    (hbody : ∀ (A : Around) (outer : List Env) (s : Shared) (H : Hp) (vs : List V) (Q : VK) (E : XK), Room k (A.deeper (envOfC qual scope s.heap.objs.size f cdv)) -> sp vs H Q E ->
      ∃ t, PSs (cxOf CX P w K mg base N qual scope f cdv A outer s H E) body t /\ t { nx := fun _ H' => Q .non H', rt := Q } (start N vs) H) :
    FnOk P w K mg base CX (k + 1) f (PySem.W.fnOf name qual params body scope dV kV doc pm an cdv ct) ps sp := by
  refine ⟨len, fun A outer s H args us vs Q E hr e0 hb r hsp => ?_⟩
  have hl := len _ _ _ _ hsp
  have KX : K.In s.heap := e0.mod.kin.keeps fun b o e => (e0.bs b o e).1
  have lim : s.heap.NoLimit := e0.mod.nolimit.keeps fun b o e => (e0.bs b o e).1
  have hkind : ∀ y ∈ ps.zip us, scope.names.lookup y.1 = some .local \/ (scope.names.lookup y.1 = some .cell /\ ((cellsFrom (s.heap.objs.size + 1) scope.names []).lookup y.1).isSome = true) := fun ⟨n, v⟩ hy => by
    rcases S.par n (List.of_mem_zip hy).1 with q | q
    · exact .inl q
    · exact .inr ⟨q, PySem.W.cellsFrom_some _ _ _ (.inl q)⟩
  refine codeAny_call_function hr.depth (KX _ _ lk) rfl S.co S.gen rfl (PySem.W.codeRec_of KX hcd) (hb _ _ _ _ ?_)
  refine wpAny_newFunctionEnv_cells S.kind hkind fun env he s1 x => ?_
  subst he
  refine ⟨lim.keeps x.toInCall.keep, codeAny_func ?_⟩
  obtain ⟨t, ht, hq⟩ := hbody A outer s H vs Q E (hr.deeper _) hsp
  have I : Inv (cxOf CX P w K mg base N qual scope f cdv A outer s H E) [] (start N vs) H s1 := inv_start S hr.hd e0 hl r x
  refine wpAny_mono (ht [] s1 (start N vs) H _ I hq) (fun fl s' hs => ?_) fun e s' hs => hs
  have fin : ∀ {σ' : St} {H' : Hp} {v : V} {u : Value}, Inv (cxOf CX P w K mg base N qual scope f cdv A outer s H E) [] σ' H' s' -> RelV v u -> Q v H' -> CE outer P w H s Q u s' :=
    fun {σ' H' v u} J rv q => ⟨v, H', J.os, J.bare, J.base, J.hok, rv, q⟩
  cases fl with
  | ret u =>
    obtain ⟨v, σ', H', J, rv, q⟩ := hs
    exact fin J rv q
  | next =>
    obtain ⟨σ', H', J, q⟩ := hs
    exact fin (v := V.non) (u := Value.none) J rfl q
  | brk =>
    obtain ⟨_, _, _, q⟩ := hs
    exact False.elim q
  | cont =>
    obtain ⟨_, _, _, q⟩ := hs
    exact False.elim q
end L2
namespace L2
open PySem PySem.Spec PyProof.Rows
section
variable {X : Cx} {x : Str} {p pos : Pos} {e : Expr} {es : List Expr} {t : TA} {id T : String} {r : List V -> Hp -> VK -> Prop}
noncomputable def tCB (r : List V -> Hp -> VK -> Prop) (t : TA) : TE := fun σ H Q => t σ H fun vs H1 => r vs H1 Q
theorem pe_callB (hc : CallR X (.builtin id) r) (hg : Gl X x) (hm : X.mg x = none) (hv : bootBuiltins x = some (.builtin id)) (ha : PA X (e :: es) t) (hn : x ≠ "__name__" := by decide) (hdb : (x == ("__debug__" : Str)) = false := by decide)
    (he : starEach (e :: es) X.env = (false, eval e X.env) :: starEach es X.env := by rfl) (hpl : (backTo pos (starEach es X.env)).any (·.1) = false := by rfl) : PE X (.Call (.Name x p) (e :: es) [] pos) (tCB r t) := by
  intro pins s σ H Q I h
  refine wpAny_Call_Name_kw (ld_blt I hg hm hv ?_ hn hdb)
  exact PyProof.Rows.callWith_builtin1 (thn (ha pos pins s σ H _ I h) fun us s1 ⟨vs, H1, I1, r1, q1⟩ => hc pins s1 σ H1 vs us Q I1 r1 q1) he hpl
theorem pe_callTy (hc : CallR X (.type T) r) (hg : Gl X x) (hm : X.mg x = none) (hv : bootBuiltins x = some (.type T)) (ha : PA X (e :: es) t) (hn : x ≠ "__name__" := by decide) (hdb : (x == ("__debug__" : Str)) = false := by decide)
    (he : starEach (e :: es) X.env = (false, eval e X.env) :: starEach es X.env := by rfl) (hpl : (backTo pos (starEach es X.env)).any (·.1) = false := by rfl) : PE X (.Call (.Name x p) (e :: es) [] pos) (tCB r t) := by
  intro pins s σ H Q I h
  refine wpAny_Call_Name_kw (ld_blt I hg hm hv ?_ hn hdb)
  exact PyProof.Rows.callWith_type1 (thn (ha pos pins s σ H _ I h) fun us s1 ⟨vs, H1, I1, r1, q1⟩ => hc pins s1 σ H1 vs us Q I1 r1 q1) he hpl
end
end L2
namespace HT
open PySem PyProof.Rows
section
open PySem.SeqAt
open PySem.AutoSeq1 (wpAny_loadPart')
open PySem.MeetsSeq PySem.MeetsSeq2 PySem.MeetsSeq3
end
section
variable {prog : Program} {w : World} {A : Around} {E : Value -> Shared -> Prop} {s : Shared}
theorem cat_tup {t b : Addr} {vs ws : List Value} {Q : Value -> Shared -> Prop} (ht : IsTup s.heap t vs.toArray) (hb : IsTup s.heap b ws.toArray) (hv : vs ≠ [])
    (h1 : ws = [] -> Q (.ref t) s) (h2 : ws ≠ [] -> Q (.ref s.heap.objs.size) { s with heap := s.heap.push { cls := .type "tuple", data := .seq (vs ++ ws).toArray } })
    (hsz : vs.length + ws.length <= sizeLine) : wpAny (model prog w) A (binaryOp .Add (.ref t) (.ref b)) Q E s := by
  obtain ⟨⟨cls, dd, data, sl⟩, ho, hc, n, hd⟩ := id ht
  obtain ⟨⟨cls2, dd2, data2, sl2⟩, ho2, hc2, n2, hd2⟩ := id hb
  simp only at hc hd hc2 hd2
  subst hc hd hc2 hd2
  have e : vs.toArray ++ ws.toArray = (vs ++ ws).toArray := by simp
  by_cases hw : ws = []
  · exact concat_meets ⟨_, ho, rfl⟩ ⟨_, ho2, rfl⟩ noFill_tuple_add seq_tuple_add PySem.F.slot_tuple_add PySem.F.entry_tuple_add (PySem.F.args_tuple_add_2 _ _)
      (tuple_addW1 t b vs.toArray ws.toArray n n2 dd dd2 sl sl2 (by simpa using hv) (by simp [hw])) ⟨ho, ho2, h1 hw⟩
  · refine concat_meets ⟨_, ho, rfl⟩ ⟨_, ho2, rfl⟩ noFill_tuple_add seq_tuple_add PySem.F.slot_tuple_add PySem.F.entry_tuple_add (PySem.F.args_tuple_add_2 _ _)
      (tuple_addW2 t b vs.toArray ws.toArray n n2 dd dd2 sl sl2 (by simpa using hv) (by simpa using hw) (by rw [List.size_toArray, List.size_toArray]; exact hsz)) ⟨ho, ho2, ?_⟩
    rw [e]
    exact h2 hw
noncomputable def sIx (n d : Nat) : Option Int -> Nat
  | none => d
  | some v => if v < 0 then (v + (n : Int)).toNat else min v.toNat n
theorem sIx_none (n d : Nat) : sIx n d none = d := rfl
theorem sIx_nat (n d k : Nat) : sIx n d (some (k : Int)) = min k n := by
  show (if (k : Int) < 0 then ((k : Int) + (n : Int)).toNat else min (k : Int).toNat n) = min k n
  rw [if_neg (by omega), Int.toNat_natCast]
theorem sIx_le (n d : Nat) (hd : d <= n) (o : Option Int) : sIx n d o <= n := by
  cases o with
  | none => exact hd
  | some v =>
    show (if v < 0 then (v + (n : Int)).toNat else min v.toNat n) <= n
    by_cases hv : v < 0
    · rw [if_pos hv]; omega
    · rw [if_neg hv]; exact Nat.min_le_right _ _
theorem clip_eq (v : Int) (n d : Nat) : (if v < 0 then max (v + (n : Int)) 0 else min v (n : Int)) = ((sIx n d (some v) : Nat) : Int) := by
  show (if v < 0 then max (v + (n : Int)) 0 else min v (n : Int)) = (((if v < 0 then (v + (n : Int)).toNat else min v.toNat n) : Nat) : Int)
  by_cases hv : v < 0
  · simp only [if_pos hv]; omega
  · simp only [if_neg hv]; omega
theorem adjust_gen (lo hi : Option Int) (n : Nat) : Builtin.Slice.sliceAdjust lo hi 1 (n : Int) = (((sIx n 0 lo : Nat) : Int), ((sIx n n hi : Nat) : Int)) := by
  have h1 : ¬ ((1 : Int) < 0) := by omega
  unfold Builtin.Slice.sliceAdjust
  simp only [h1, if_false]
  refine Prod.ext ?_ ?_
  · cases lo with
    | none => rfl
    | some v => exact clip_eq v n 0
  · cases hi with
    | none => rfl
    | some v => exact clip_eq v n n
theorem places_gen (i j : Nat) : Builtin.Slice.slicePlaces (i : Int) (j : Int) 1 = j - i := by
  unfold Builtin.Slice.slicePlaces
  have h1 : (1 : Int) > 0 := by omega
  simp only [h1, if_true, Int.ediv_one]
  split <;> omega
theorem slicePart_ {v : Value} {o : Option Int} {Q : Option Int -> Shared -> Prop} (p : IsPart v o) (h : Q o s) : wpAny (model prog w) A (Builtin.Slice.slicePartIndex v) Q E s := by
  cases p with
  | none => exact slicePart_none h
  | int i t => exact slicePart_int h
theorem sliceApplied_gen {sl : Addr} {vl vu : Value} {lo hi : Option Int} {n : Nat} {Q : Int × Int × Nat -> Shared -> Prop} (hs : s.heap.IsSliceOf sl vl vu .none) (pl : IsPart vl lo) (pu : IsPart vu hi)
    (h : Q (((sIx n 0 lo : Nat) : Int), 1, sIx n n hi - sIx n 0 lo) s) : wpAny (model prog w) A (Builtin.Slice.sliceApplied (.ref sl) (pure (n : Int))) Q E s := by
  obtain ⟨os, hos, hcs, hds⟩ := id hs
  unfold Builtin.Slice.sliceApplied Builtin.Slice.sliceFields
  refine wpAny_bind (wpAny_bind (wpAny_field hos hds (x := vl) rfl (wpAny_bind (wpAny_field hos hds (x := vu) rfl (wpAny_bind (wpAny_field hos hds (x := .none) rfl (wpAny_pure ?_)))))))
  refine wpAny_bind (slicePart_none ?_)
  show wpAny _ _ (if ((1 : Int) == 0) = true then _ else _) _ _ s
  rw [if_neg (by decide)]
  refine wpAny_bind (slicePart_ pl (wpAny_bind (slicePart_ pu (wpAny_bind (wpAny_pure ?_)))))
  show wpAny _ _ (match Builtin.Slice.sliceAdjust lo hi 1 (n : Int) with | (lo, hi) => pure (lo, (1 : Int), Builtin.Slice.slicePlaces lo hi 1)) _ _ s
  rw [adjust_gen lo hi n]
  show wpAny _ _ (pure (((sIx n 0 lo : Nat) : Int), (1 : Int), Builtin.Slice.slicePlaces ((sIx n 0 lo : Nat) : Int) ((sIx n n hi : Nat) : Int) 1)) _ _ s
  rw [places_gen]
  exact wpAny_pure h
theorem pick_gen (xs : Array Value) (i k : Nat) : ((List.range k).filterMap fun (m : Nat) => xs[((i : Int) + (m : Int) * 1).toNat]?).toArray = ((xs.toList.drop i).take k).toArray := by
  have e : (fun (m : Nat) => xs[((i : Int) + (m : Int) * 1).toNat]?) = fun m => xs[i + m]? := by
    funext m
    have : ((i : Int) + (m : Int) * 1).toNat = i + m := by omega
    rw [this]
  rw [e]
  have := pick_run xs i k
  rw [List.filterMap_map] at this
  have e2 : ((fun x => xs[x]?) ∘ fun x => i + x) = fun m => xs[i + m]? := rfl
  rw [e2] at this
  rw [this]
theorem getItem_tuple_cut {t sl : Addr} {items : Array Value} {vl vu : Value} {lo hi : Option Int} {Q : Value -> Shared -> Prop} (ht : IsTup s.heap t items) (hs : s.heap.IsSliceOf sl vl vu .none) (pl : IsPart vl lo) (pu : IsPart vu hi)
    (hw : ¬ (sIx items.size 0 lo = 0 /\ sIx items.size items.size hi = items.size))
    (h : Q (.ref s.heap.objs.size) { s with heap := s.heap.push { cls := .type "tuple", data := .seq ((items.toList.drop (sIx items.size 0 lo)).take (sIx items.size items.size hi - sIx items.size 0 lo)).toArray } })
    (hsz : items.size <= sizeLine) : wpAny (model prog w) A (getItem (.ref t) (.ref sl)) Q E s := by
  have htake : sizeOk (.seq ((items.toList.drop (sIx items.size 0 lo)).take (sIx items.size items.size hi - sIx items.size 0 lo)).toArray) := by
    show ((items.toList.drop (sIx items.size 0 lo)).take (sIx items.size items.size hi - sIx items.size 0 lo)).toArray.size <= sizeLine
    rw [List.size_toArray, List.length_take, List.length_drop, Array.length_toList]
    omega
  have hj : sIx items.size items.size hi <= items.size := sIx_le _ _ (Nat.le_refl _) hi
  obtain ⟨os, hos, hcs, hds⟩ := id hs
  have hTs : s.TypeIs (.ref sl) "slice" := ⟨os, hos, hcs⟩
  unfold getItem
  try with_reducible refine wpAny_holding ?_
  first | refine wpAny_bind (wpAny_pure ?_) | skip
  refine wpAny_bind (wpAny_sequenceKey ht.typeIs (by decide) ?_)
  refine wpAny_bind (wpAny_callSpecial?_slot (name := Str.ofString "__getitem__") ht.typeIs PyProof.Rows.slot_tuple_getitem
    (wpAny_call_entry PyProof.Rows.slot_tuple_getitem ht.typeIs entry_tuple_getitem ?_ (args_tuple_getitem _ _)))
  show wpAny _ _ (Builtin.Tuple.tupleItemsOf (.ref t) >>= _) _ _ s
  refine wpAny_bind (tupleItemsOf_ ht ?_)
  refine wpAny_bind (wpAny_typeOf hTs ?_)
  rw [if_pos (by decide)]
  refine wpAny_bind (sliceApplied_gen hs pl pu ?_)
  have hno : ¬ ((((sIx items.size 0 lo : Nat) : Int) == 0 && (1 : Int) == 1 && (sIx items.size items.size hi - sIx items.size 0 lo) == items.size) = true) := by
    intro q
    rw [Bool.and_eq_true, Bool.and_eq_true] at q
    have q1 : ((sIx items.size 0 lo : Nat) : Int) = 0 := eq_of_beq q.1.1
    have q2 : sIx items.size items.size hi - sIx items.size 0 lo = items.size := eq_of_beq q.2
    exact hw ⟨by omega, by omega⟩
  show wpAny _ _ (if (((sIx items.size 0 lo : Nat) : Int) == 0 && (1 : Int) == 1 && (sIx items.size items.size hi - sIx items.size 0 lo) == items.size) = true then _ else _) _ _ s
  rw [if_neg hno, pick_gen]
  first
    | exact wpAny_bind (m := Builtin.Tuple.tupleExact _) (wpAny_newObj_type (wpAny_pure ⟨_, rfl, wpAny_pure h⟩) htake)
    | exact wpAny_bind (m := Builtin.Tuple.tupleExact _) (wpAny_newObj_type (wpAny_bind (wpAny_pure (wpAny_pure ⟨_, rfl, wpAny_pure h⟩))) htake)
    | exact wpAny_bind (wpAny_bind (m := Builtin.Tuple.tupleExact _) (wpAny_newObj_type (wpAny_pure (wpAny_pure ⟨_, rfl, wpAny_pure h⟩)) htake))
    | exact wpAny_bind (wpAny_bind (m := Builtin.Tuple.tupleExact _) (wpAny_newObj_type (wpAny_pure ⟨_, rfl, wpAny_pure h⟩) htake))
end
end HT
namespace L2
open PySem PySem.Spec PyProof.Rows
noncomputable abbrev TO := St -> Hp -> (Option Int -> Hp -> Prop) -> Prop
noncomputable def PO (X : Cx) (e : Option Expr) (t : TO) : Prop :=
  ∀ (pins : List (Addr × Obj)) (s : Shared) (σ : St) (H : Hp) (Q : Option Int -> Hp -> Prop), Inv X pins σ H s -> t σ H Q ->
    wpAny (model X.prog X.w) X.A (evalPart e X.env) (fun u s' => ∃ o H', Inv X pins σ H' s' /\ IsPart u o /\ Q o H') X.xe s
noncomputable def tNoPart : TO := fun _ H Q => Q none H
noncomputable def tPart (t : TE) : TO := fun σ H Q => t σ H fun x H1 => ∃ i, x = .int i /\ Q (some i) H1
section
variable {X : Cx} {e : Expr} {te : TE} {lo hi : Option Expr} {tl th : TO} {pos p2 : Pos}
theorem po_none : PO X none tNoPart := by
  intro pins s σ H Q I h
  rw [evalPart_none]
  exact wpAny_pure ⟨none, H, I, .none, h⟩
theorem po_some (h : PE X e te) : PO X (some e) (tPart te) := by
  intro pins s σ H Q I hw
  rw [evalPart_some]
  refine thn (h pins s σ H _ I hw) fun u s1 ⟨x, H1, I1, r1, q1⟩ => ?_
  obtain ⟨i, rfl, q⟩ := q1
  obtain ⟨t, rfl⟩ := r1
  exact ⟨some i, H1, I1, .int i t, q⟩
noncomputable def SlR (X : Cx) (r : V -> Option Int -> Option Int -> Hp -> VK -> Prop) : Prop :=
  ∀ (pins : List (Addr × Obj)) (s : Shared) (σ : St) (H : Hp) (x : V) (v vl vu : Value) (lo hi : Option Int) (sl : Addr) (Q : VK), Inv X pins σ H s -> RelV x v -> s.heap.IsSliceOf sl vl vu .none -> IsPart vl lo -> IsPart vu hi -> r x lo hi H Q ->
    ∃ T id, typeLookup (.type T) "__getitem__" = pure (some (.builtin id)) /\ s.TypeIs v T /\ wpAny (model X.prog X.w) X.A (getItem v (.ref sl)) (EP X pins σ Q) X.xe s
theorem SlR.or {r r' : V -> Option Int -> Option Int -> Hp -> VK -> Prop} (h : SlR X r) (h' : SlR X r') : SlR X (fun x lo hi H Q => r x lo hi H Q \/ r' x lo hi H Q) := by
  intro pins s σ H x v vl vu lo hi sl Q I rx hs pl pu q
  rcases q with q | q
  · exact h pins s σ H x v vl vu lo hi sl Q I rx hs pl pu q
  · exact h' pins s σ H x v vl vu lo hi sl Q I rx hs pl pu q
noncomputable def tSl (r : V -> Option Int -> Option Int -> Hp -> VK -> Prop) (te : TE) (tl th : TO) : TE := fun σ H Q => te σ H fun x H1 => tl σ H1 fun l H2 => th σ H2 fun u H3 => r x l u H3 Q
theorem pe_slice {r : V -> Option Int -> Option Int -> Hp -> VK -> Prop} (hr : SlR X r) (he : PE X e te) (hl : PO X lo tl) (hu : PO X hi th) : PE X (.Subscript e (.Slice lo hi none p2) pos) (tSl r te tl th) := by
  intro pins s σ H Q I h
  refine Subscript_ (thn (he pins s σ H _ I h) fun v s1 ⟨x, H1, I1, r1, q1⟩ => ?_)
  refine wpAny_Slice (thn (hl pins s1 σ H1 _ I1 q1) fun vl s2 ⟨l, H2, I2, pl, q2⟩ => thn (hu pins s2 σ H2 _ I2 q2) fun vu s3 ⟨u, H3, I3, pu, q3⟩ => ?_)
  rw [evalPart_none]
  refine wpAny_pure ?_
  have I4 : Inv X pins σ H3 { s3 with heap := s3.heap.push { cls := .type "slice", data := .fields #[vl, vu, .none] } } := I3.kept (t' := s3.toks) fun b ob q => Heap.get?_push_of_some _ q
  obtain ⟨T, id, hT, ht, hg⟩ := hr pins { s3 with heap := s3.heap.push { cls := .type "slice", data := .fields #[vl, vu, .none] } } σ H3 x v vl vu l u s3.heap.objs.size Q I4 r1 (Heap.IsSliceOf.new ..) pl pu q3
  show wpAny (model X.prog X.w) X.A (subscriptTail e (.Slice lo hi none p2) v (.ref s3.heap.objs.size)) (EP X pins σ Q) X.xe { s3 with heap := s3.heap.push { cls := .type "slice", data := .fields #[vl, vu, .none] } }
  exact tail_any (ops := [.ref s3.heap.objs.size, v]) ht hT hg (by with_unfolding_all rfl)
noncomputable def cutV (xs : List V) (lo hi : Option Int) : List V := (xs.drop (HT.sIx xs.length 0 lo)).take (HT.sIx xs.length xs.length hi - HT.sIx xs.length 0 lo)
theorem cutV_length (xs : List V) (lo hi : Option Int) : (cutV xs lo hi).length <= xs.length := by
  unfold cutV
  rw [List.length_take, List.length_drop]
  omega
noncomputable def rSlT (K : PySem.W.Frag) : V -> Option Int -> Option Int -> Hp -> VK -> Prop := fun x lo hi H Q => ∃ a xs, x = .ref a /\ SqT K H a xs /\
  ¬ (HT.sIx xs.length 0 lo = 0 /\ HT.sIx xs.length xs.length hi = xs.length) /\ ∀ p, H p = none -> Q (.ref p) (upd H p (.tup (cutV xs lo hi)))
theorem sl_tup : SlR X (rSlT X.K) := by
  intro pins s σ H x v vl vu lo hi sl Q I rx hs pl pu h
  obtain ⟨a, xs, rfl, hx, hw, q⟩ := h
  cases rx
  obtain ⟨its, r, ht, hz⟩ := I.tuple hx
  have hlen : its.toArray.size = xs.length := by rw [List.size_toArray]; exact r.length.symm
  refine ⟨"tuple", _, PyProof.Rows.slot_tuple_getitem.lookup, ht.typeIs, ?_⟩
  refine HT.getItem_tuple_cut ht hs pl pu (by rw [hlen]; exact hw) ?_ (by rw [hlen]; exact hz)
  rw [hlen]
  refine ⟨.ref s.heap.objs.size, _, I.laid (t' := s.toks) (o := .tup (cutV xs lo hi)) (fun b ob q => Heap.get?_push_of_some _ q) (Nat.le_refl _) ?_, rfl, q _ (I.hok.fresh (Nat.le_refl _))⟩
  exact ⟨Nat.le_trans (cutV_length xs lo hi) hz, _, (r.drop (HT.sIx xs.length 0 lo)).take (HT.sIx xs.length xs.length hi - HT.sIx xs.length 0 lo), IsTup.new _ _⟩
noncomputable def rCatT (K : PySem.W.Frag) : R2 := fun x y H Q => ∃ a b xs ys, x = .ref a /\ y = .ref b /\ SqT K H a xs /\ SqT K H b ys /\ xs ≠ [] /\ xs.length + ys.length <= sizeLine /\
  (ys = [] -> Q (.ref a) H) /\ (ys ≠ [] -> ∀ p, H p = none -> Q (.ref p) (upd H p (.tup (xs ++ ys))))
theorem Vals.nil_iff {xs : List V} {us : List Value} (r : Vals xs us) : us = [] ↔ xs = [] := by
  cases r with
  | nil => simp
  | cons _ _ => simp
theorem op_catT : OpR X (binaryOp .Add) (rCatT X.K) := by
  intro pins s σ H x y v u Q I rx ry h
  obtain ⟨a, b, xs, ys, rfl, rfl, ha, hb, hx, hz, q1, q2⟩ := h
  cases rx
  cases ry
  obtain ⟨its, r1, p1, _⟩ := I.tuple ha
  obtain ⟨its2, r2, p2, _⟩ := I.tuple hb
  refine HT.cat_tup p1 p2 (fun z => hx (r1.nil_iff.mp z)) (fun z => ⟨.ref a, H, I, rfl, q1 (r2.nil_iff.mp z)⟩) (fun z => ?_) (by rw [← r1.length, ← r2.length]; exact hz)
  refine ⟨.ref s.heap.objs.size, _, I.laid (t' := s.toks) (o := .tup (xs ++ ys)) (fun b ob q => Heap.get?_push_of_some _ q) (Nat.le_refl _) ?_, rfl, q2 (fun w => z (r2.nil_iff.mpr w)) _ (I.hok.fresh (Nat.le_refl _))⟩
  exact ⟨by rw [List.length_append]; exact hz, _, r1.append r2, IsTup.new _ _⟩
end
end L2
namespace L2
open PySem PySem.Spec PyProof.Rows
noncomputable def ixN (n : Nat) (i : Int) : Option Nat := if 0 <= i then (if i < n then some i.toNat else none) else if -(n : Int) <= i then some (i + n).toNat else none
noncomputable def atI {α : Type} (xs : List α) (i : Int) : Option α := (ixN xs.length i).bind fun j => xs[j]?
theorem ixN_seq {n : Nat} {i : Int} {j : Nat} (h : ixN n i = some j) : seqIndex? i n = some j /\ j < n /\ -(n : Int) <= i /\ i < n := by
  unfold ixN at h
  by_cases h0 : 0 <= i
  · rw [if_pos h0] at h
    by_cases h1 : i < n
    · rw [if_pos h1] at h
      have e : i.toNat = j := Option.some.inj h
      exact ⟨by rw [seqIndex_of h0 h1, e], by omega, by omega, h1⟩
    · rw [if_neg h1] at h; cases h
  · rw [if_neg h0] at h
    by_cases h1 : -(n : Int) <= i
    · rw [if_pos h1] at h
      have e : (i + n).toNat = j := Option.some.inj h
      exact ⟨by rw [seqIndex_neg (by omega) h1, e], by omega, h1, by omega⟩
    · rw [if_neg h1] at h; cases h
theorem atI_get {α : Type} {xs : List α} {i : Int} {v : α} (h : atI xs i = some v) : ∃ j, seqIndex? i xs.length = some j /\ xs[j]? = some v /\ j < xs.length /\ -(xs.length : Int) <= i /\ i < xs.length := by
  unfold atI at h
  cases e : ixN xs.length i with
  | none => rw [e] at h; cases h
  | some j =>
    rw [e] at h
    obtain ⟨h1, h2, h3, h4⟩ := ixN_seq e
    exact ⟨j, h1, h, h2, h3, h4⟩
theorem atI_nat {α : Type} {xs : List α} {j : Nat} {v : α} (h : xs[j]? = some v) : atI xs (j : Int) = some v := by
  have hj : j < xs.length := (List.getElem?_eq_some_iff.mp h).1
  have e : ixN xs.length (j : Int) = some j := by
    unfold ixN
    rw [if_pos (by omega), if_pos (by omega)]; simp
  unfold atI; rw [e]; exact h
noncomputable def PlainIx (b : Expr) : Prop := ∀ o i, subscripted b false o i = operate [o, i] (getItem o i)
noncomputable def IxR (X : Cx) (r : R2) : Prop :=
  ∀ (value slice : Expr) (pins : List (Addr × Obj)) (s : Shared) (σ : St) (H : Hp) (x y : V) (v u : Value) (Q : VK), Inv X pins σ H s -> RelV x v -> RelV y u -> r x y H Q ->
    subscripted slice false v u = operate [v, u] (getItem v u) -> wpAny (model X.prog X.w) X.A (subscriptTail value slice v u) (EP X pins σ Q) X.xe s
noncomputable def MtR (X : Cx) (id : String) (r : V -> List V -> Hp -> VK -> Prop) : Prop :=
  ∀ (pins : List (Addr × Obj)) (s : Shared) (σ : St) (H : Hp) (x : V) (xs : List V) (v : Value) (us : List Value) (Q : VK), Inv X pins σ H s -> RelV x v -> Vals xs us -> r x xs H Q ->
    wpAny (model X.prog X.w) X.A (call (.builtin id) (v :: us)) (EP X pins σ Q) X.xe s
section
variable {X : Cx} {a b : Expr} {ta tb : TE} {pos : Pos}
theorem IxR.or {r r' : R2} (h : IxR X r) (h' : IxR X r') : IxR X (fun x y H Q => r x y H Q \/ r' x y H Q) := by
  intro value slice pins s σ H x y v u Q I rx ry q hs
  rcases q with q | q
  · exact h value slice pins s σ H x y v u Q I rx ry q hs
  · exact h' value slice pins s σ H x y v u Q I rx ry q hs
theorem pe_ix {r : R2} (hr : IxR X r) (ha : PE X a ta) (hb : PE X b tb) (hs : PlainIx b) : PE X (.Subscript a b pos) (tOp r ta tb) := by
  intro pins s σ H Q I h
  exact Subscript_ (binT ha hb I h fun v u s2 x y H2 I2 rx ry q => hr a b pins s2 σ H2 x y v u Q I2 rx ry q (hs _ _))
noncomputable def rIxL (K : PySem.W.Frag) : R2 := fun x y H Q => ∃ p xs i v, x = .ref p /\ y = .int i /\ SqL K H p xs /\ atI xs i = some v /\ Q v H
noncomputable def rIxT (K : PySem.W.Frag) : R2 := fun x y H Q => ∃ p xs i v, x = .ref p /\ y = .int i /\ SqT K H p xs /\ atI xs i = some v /\ Q v H
noncomputable def rIxS : R2 := fun x y H Q => ∃ z i c, x = .str z /\ y = .int i /\ z.length <= sizeLine /\ atI z.cps.toList i = some c /\ Q (.str ⟨#[c]⟩) H
theorem ix_list : IxR X (rIxL X.K) := by
  intro value slice pins s σ H x y v u Q I rx ry h hs
  obtain ⟨p, xs, i, z, rfl, rfl, hq, he, q⟩ := h
  cases rx
  obtain ⟨t, rfl⟩ := ry
  obtain ⟨its, r, pl, hz⟩ := I.list hq
  obtain ⟨j, h1, h2, h3, h4, h5⟩ := atI_get he
  obtain ⟨w, ew, rw'⟩ := r.get h2
  have hl := r.length
  have hn := line63
  have fin : EP X pins σ Q w s := ⟨z, H, I, rw', q⟩
  by_cases h0 : 0 <= i
  · have hj : i.toNat = j := by
      rw [seqIndex_of h0 h5] at h1
      exact Option.some.inj h1
    exact item_listR pl.isList h0 (by omega) (by rw [hj]; simpa using ew) fin hs
  · have hj : (i + (its.toArray.size : Int)).toNat = j := by
      rw [seqIndex_neg (by omega) h4] at h1
      rw [List.size_toArray, ← hl]
      exact Option.some.inj h1
    exact subscriptTail_builtinR (x := w) pl.isList.typeIs slot_list_getitem.lookup
      (wpAny_getItem_list_neg (Q := fun r s' => r = w /\ EP X pins σ Q r s') pl.isList (by omega) (by rw [List.size_toArray] <;> omega) (by omega) (by rw [hj]; simpa using ew) ⟨rfl, fin⟩) hs
theorem ix_tup : IxR X (rIxT X.K) := by
  intro value slice pins s σ H x y v u Q I rx ry h hs
  obtain ⟨p, xs, i, z, rfl, rfl, hq, he, q⟩ := h
  cases rx
  obtain ⟨t, rfl⟩ := ry
  obtain ⟨its, r, pl, hz⟩ := I.tuple hq
  obtain ⟨j, h1, h2, h3, h4, h5⟩ := atI_get he
  obtain ⟨w, ew, rw'⟩ := r.get h2
  have hl := r.length
  have hn := line63
  have fin : EP X pins σ Q w s := ⟨z, H, I, rw', q⟩
  exact subscriptTail_builtinR (x := w) pl.typeIs slot_tuple_getitem.lookup
    (getItem_tuple (j := j) (Q := fun r s' => r = w /\ EP X pins σ Q r s') pl (by omega) (by omega) (by rw [List.size_toArray, ← hl]; exact h1) (by simpa using ew) ⟨rfl, fin⟩) hs
theorem ix_str : IxR X rIxS := by
  intro value slice pins s σ H x y v u Q I rx ry h hs
  obtain ⟨z, i, c, rfl, rfl, hz, he, q⟩ := h
  obtain ⟨t, rfl⟩ := rx
  obtain ⟨t', rfl⟩ := ry
  obtain ⟨j, h1, h2, h3, h4, h5⟩ := atI_get he
  have hl : z.cps.toList.length = z.length := by simp [Str.length]
  rw [hl] at h1 h4 h5
  have hn := line63
  exact tail_any (typeIs_str s z t) slot_str_getitem.lookup (getItem_str (c := c) (by
    have e1 : decide (i < -(2 ^ 63 : Int)) = false := decide_eq_false (by omega)
    have e2 : decide (i ≥ 2 ^ 63) = false := decide_eq_false (by omega)
    rw [e1, e2, Bool.or_false]) (by rw [h1]; simpa using h2) ⟨.str ⟨#[c]⟩, H, I.tok _, ⟨_, rfl⟩, q⟩) hs
noncomputable def rIx (K : PySem.W.Frag) : R2 := fun x y H Q => rIxL K x y H Q \/ rIxT K x y H Q \/ rIxS x y H Q
theorem ix_seq : IxR X (rIx X.K) := ix_list.or (ix_tup.or ix_str)
theorem slice_bounds (lo hi : Option Int) (n : Nat) : (sliceBounds lo hi none n).1 = ((HT.sIx n 0 lo : Nat) : Int) /\ (sliceBounds lo hi none n).2.1 = ((HT.sIx n n hi : Nat) : Int) /\ (sliceBounds lo hi none n).2.2 = 1 := by
  refine ⟨?_, ?_, rfl⟩
  · cases lo with
    | none => simp [sliceBounds, HT.sIx]
    | some i =>
      simp only [sliceBounds, HT.sIx, Option.getD_none, show (1 : Int) > 0 by decide, if_true]
      by_cases h : i < 0
      · simp only [h, if_true] <;> omega
      · simp only [h, if_false] <;> omega
  · cases hi with
    | none => simp [sliceBounds, HT.sIx]
    | some i =>
      simp only [sliceBounds, HT.sIx, Option.getD_none, show (1 : Int) > 0 by decide, if_true]
      by_cases h : i < 0
      · simp only [h, if_true] <;> omega
      · simp only [h, if_false] <;> omega
theorem slicePick_cut (its : List Value) (lo hi : Option Int) : slicePick its.toArray lo hi none = ((its.drop (HT.sIx its.length 0 lo)).take (HT.sIx its.length its.length hi - HT.sIx its.length 0 lo)).toArray := by
  obtain ⟨h1, h2, h3⟩ := slice_bounds lo hi its.toArray.size
  unfold slicePick
  rw [h1, h2, h3]
  simp only [sliceRange_one, pick_run, List.size_toArray] <;> rfl
noncomputable def rSlL (K : PySem.W.Frag) : V -> Option Int -> Option Int -> Hp -> VK -> Prop := fun x lo hi H Q => ∃ a xs, x = .ref a /\ SqL K H a xs /\ ∀ p, H p = none -> Q (.ref p) (upd H p (.lst (cutV xs lo hi)))
theorem sl_list : SlR X (rSlL X.K) := by
  intro pins s σ H x v vl vu lo hi sl Q I rx hs pl pu h
  obtain ⟨a, xs, rfl, hx, q⟩ := h
  cases rx
  obtain ⟨its, r, ht, hz⟩ := I.list hx
  have hlen := r.length
  refine ⟨"list", _, slot_list_getitem.lookup, ht.isList.typeIs, ?_⟩
  refine wpAny_getItem_list_slice ht.isList hs pl pu .none (by simp) ?_ (by rw [List.size_toArray] <;> omega)
  rw [slicePick_cut, ← hlen]
  refine ⟨.ref s.heap.objs.size, _, I.laid (t' := s.toks) (o := .lst (cutV xs lo hi)) (fun b ob q => Heap.get?_push_of_some _ q) (Nat.le_refl _) ?_, rfl, q _ (I.hok.fresh (Nat.le_refl _))⟩
  exact ⟨Nat.le_trans (cutV_length xs lo hi) hz, _, 0, (r.drop (HT.sIx xs.length 0 lo)).take (HT.sIx xs.length xs.length hi - HT.sIx xs.length 0 lo), Heap.get?_push_size _ rfl⟩
theorem call_len_seq : CallR X (.builtin "len") (fun xs H Q => ∃ p ys, xs = [.ref p] /\ (SqL X.K H p ys \/ SqT X.K H p ys) /\ Q (.int ys.length) H) := by
  intro pins s σ H xs us Q I r h
  obtain ⟨p, ys, rfl, hq, q⟩ := h
  obtain ⟨u, rfl, rx⟩ := vals1 r
  cases rx
  have hn := line63
  rcases hq with hq | hq
  · obtain ⟨its, r', pl, hz⟩ := I.list hq
    have hlen := r'.length
    exact Calls.call_len_list pl.isList (by simp only [List.size_toArray] <;> omega) ⟨.int ys.length, H, I.tok _, ⟨s.toks + 1, by rw [List.size_toArray, hlen]⟩, q⟩
  · obtain ⟨its, r', pl, hz⟩ := I.tuple hq
    have hlen := r'.length
    exact len_tuple pl (by simp only [List.size_toArray] <;> omega) ⟨.int ys.length, H, I.tok _, ⟨s.toks + 1, by rw [List.size_toArray, hlen]⟩, q⟩
theorem call_len_str : CallR X (.builtin "len") (fun xs H Q => ∃ z, xs = [.str z] /\ z.length <= sizeLine /\ Q (.int z.length) H) := by
  intro pins s σ H xs us Q I r h
  obtain ⟨z, rfl, hz, q⟩ := h
  obtain ⟨u, rfl, t, rfl⟩ := vals1 r
  have hn := line63
  exact len_str (by omega) ⟨.int z.length, H, I.tok _, ⟨_, rfl⟩, q⟩
theorem CallR.or {f : Value} {r r' : List V -> Hp -> VK -> Prop} (h : CallR X f r) (h' : CallR X f r') : CallR X f (fun xs H Q => r xs H Q \/ r' xs H Q) := by
  intro pins s σ H xs us Q I rs q
  rcases q with q | q
  · exact h pins s σ H xs us Q I rs q
  · exact h' pins s σ H xs us Q I rs q
noncomputable def tyV (K : PySem.W.Frag) (T : String) (x : V) (H : Hp) : Prop := match x with
  | .str _ => T = "str"
  | .int _ => T = "int"
  | .ref p => (T = "list" /\ ∃ xs, SqL K H p xs) \/ (T = "tuple" /\ ∃ o, K.lookup p = some o /\ o.cls = .type "tuple" /\ o.dict = none) \/
      (T = "dict" /\ ((∃ kvs, H p = some (.dK kvs)) \/ ∃ kvs, H p = some (.dT kvs))) \/ (T = "set" /\ ∃ S n, H p = some (.set S n))
  | _ => False
theorem tyV_is {pins : List (Addr × Obj)} {σ : St} {H : Hp} {s : Shared} {T : String} {x : V} {v : Value} (I : Inv X pins σ H s) (r : RelV x v) (ty : tyV X.K T x H) :
    s.TypeIs v T /\ ∀ a, v = .ref a -> ∃ ob, s.heap.get? a = some ob /\ ob.dict = none := by
  cases x with
  | str z =>
    obtain ⟨t, rfl⟩ := r
    cases (show T = "str" from ty)
    exact ⟨typeIs_str s z t, fun _ e => nomatch e⟩
  | int i =>
    obtain ⟨t, rfl⟩ := r
    cases (show T = "int" from ty)
    exact ⟨typeIs_int s i t, fun _ e => nomatch e⟩
  | ref p =>
    cases r
    rcases ty with ⟨rfl, xs, hq⟩ | ⟨rfl, o, hk, hc, hd⟩ | ⟨rfl, hk⟩ | ⟨rfl, S, n, hk⟩
    · obtain ⟨its, _, pl, _⟩ := I.list hq
      refine ⟨pl.isList.typeIs, fun a e => ?_⟩
      cases e
      obtain ⟨o, n, e, c, hd, _⟩ := pl
      exact ⟨o, e, hd⟩
    · refine ⟨⟨o, I.kIn p o hk, hc⟩, fun a e => ?_⟩
      cases e
      exact ⟨o, I.kIn _ o hk, hd⟩
    · have z : ∃ o, s.heap.get? p = some o /\ o.ExactDict := by
        rcases hk with ⟨kvs, hk⟩ | ⟨kvs, hk⟩
        · obtain ⟨_, _, _, _, o, _, _, e, ex, _⟩ := I.hok p _ hk
          exact ⟨o, e, ex⟩
        · obtain ⟨_, _, _, _, o, _, _, e, ex, _⟩ := I.hok p _ hk
          exact ⟨o, e, ex⟩
      obtain ⟨o, e, ex⟩ := z
      refine ⟨⟨o, e, ex.1⟩, fun a e2 => ?_⟩
      cases e2
      exact ⟨o, e, ex.2.1⟩
    · obtain ⟨o, _, _, _, e, ex, _⟩ := I.hok p _ hk
      refine ⟨⟨o, e, ex.1⟩, fun a e2 => ?_⟩
      cases e2
      exact ⟨o, e, ex.2.1⟩
  | _ => exact False.elim ty
noncomputable def tBM0 (K : PySem.W.Frag) (T : String) (r : V -> List V -> Hp -> VK -> Prop) (to : TE) : TE := fun σ H Q => to σ H fun x H1 => tyV K T x H1 /\ r x [] H1 Q
noncomputable def tBM (K : PySem.W.Frag) (T : String) (r : V -> List V -> Hp -> VK -> Prop) (to : TE) (t : TA) : TE := fun σ H Q => to σ H fun x H1 => tyV K T x H1 /\ t σ H1 fun xs H2 => r x xs H2 Q
variable {o e : Expr} {es : List Expr} {to : TE} {t : TA} {name : Str} {apos cpos : Pos} {T id : String} {r : V -> List V -> Hp -> VK -> Prop}
theorem pe_bm0 (pa : PlainAttrs T) (slot : Slot T name id) (hty : typeOf (.builtin id) = pure (.type "method_descriptor")) (hm : MtR X id r) (ho : PE X o to)
    (hbase : attributeBase o name X.env (eval o X.env) = eval o X.env := by rfl) (hline : (apos.endLine == cpos.line) = true := by rfl) : PE X (.Call (.Attribute o name apos) [] [] cpos) (tBM0 X.K T r to) := by
  intro pins s σ H Q I h
  refine wpAny_Call_method0_late hbase hline (thn (ho pins s σ H _ I h) fun v s1 ⟨x, H1, I1, r1, ty, q1⟩ => ?_)
  obtain ⟨h1, h2⟩ := tyV_is I1 r1 ty
  exact ⟨T, id, pa, slot, hty, h1, h2, Calls.callWith_builtin rfl (PySem.evalArgs_none (hm pins s1 σ H1 x [] v [] Q I1 r1 .nil q1))⟩
theorem pe_bm (pa : PlainAttrs T) (slot : Slot T name id) (hty : typeOf (.builtin id) = pure (.type "method_descriptor")) (hm : MtR X id r) (ho : PE X o to) (ha : PA X (e :: es) t)
    (hbase : attributeBase o name X.env (eval o X.env) = eval o X.env := by rfl)
    (hfew : ((backTo cpos (starEach (e :: es) X.env)).all (fun x => !x.1) && (backToKw cpos (keywordEach [] X.env)).all (fun x => x.1.isSome)
      && decide ((e :: es).length + ([] : List Keyword).length + (if ([] : List Keyword).isEmpty then 0 else 1) < 30)) = true := by rfl)
    (hline : (apos.endLine == cpos.line) = true := by rfl) (hs : starEach (e :: es) X.env = (false, eval e X.env) :: starEach es X.env := by rfl) (hplain : (backTo cpos (starEach es X.env)).any (·.1) = false := by rfl) :
    PE X (.Call (.Attribute o name apos) (e :: es) [] cpos) (tBM X.K T r to t) := by
  intro pins s σ H Q I h
  refine wpAny_Call_method_late hbase hfew hline rfl (thn (ho pins s σ H _ I h) fun v s1 ⟨x, H1, I1, r1, ty, q1⟩ => ?_)
  obtain ⟨h1, h2⟩ := tyV_is I1 r1 ty
  refine ⟨T, id, pa, slot, hty, h1, h2, ?_⟩
  have hA := ha cpos pins s1 σ H1 _ I1 q1
  rw [hs] at hA ⊢
  refine Calls.callWith_builtin (by show (false || (backTo cpos (starEach es X.env)).any (·.1)) = false; rw [hplain] <;> rfl) (Calls.evalArgs_plain ?_)
  exact thn hA fun us s2 ⟨vs, H2, I2, r2, q2⟩ => hm pins s2 σ H2 x vs v us Q I2 r1 r2 q2
end
end L2
namespace L2
open PySem PySem.Spec PyProof.Rows
noncomputable def MtM (X : Cx) (id : String) (r : V -> List V -> Hp -> VK -> Prop) : Prop :=
  ∀ (pins : List (Addr × Obj)) (s : Shared) (σ : St) (H : Hp) (x : V) (xs : List V) (v : Value) (us : List Value) (Q : VK), Inv X pins σ H s -> RelV x v -> Vals xs us -> r x xs H Q ->
    wpAny (model X.prog X.w) X.A (call (.builtin id) (v :: us)) (EP X pins σ Q) X.xe s
theorem Vals.one : ∀ {x : V} {us : List Value}, Vals [x] us -> ∃ u, us = [u] /\ RelV x u
  | _, _, .cons r .nil => ⟨_, rfl, r⟩
theorem Vals.zero : ∀ {us : List Value}, Vals [] us -> us = []
  | _, .nil => rfl
section
variable {X : Cx} {pins : List (Addr × Obj)} {σ : St} {H : Hp} {s : Shared} {l b : Addr} {xs ys zs : List V}
theorem Inv.lset {its its' : List Value} {n : Nat} {f : Array Value -> Array Value} {t' : Nat} (I : Inv X pins σ H s) (hH : H l = some (.lst xs))
    (e : s.heap.get? l = some { cls := .type "list", data := .seq its.toArray n }) (hf : f its.toArray = its'.toArray) (hv : Vals ys its') (hz : ys.length <= sizeLine) :
    Inv X pins σ (upd H l (.lst ys)) { s with heap := s.heap.update l (Obj.mapSeq f), toks := t' } := by
  have q := PySem.IsL.update e f
  rw [hf] at q
  refine I.write (x := l) (e := l) (by rw [hH]; exact trivial) (.inl rfl) (fun b' u hb hu => (Heap.get?_update_other s.heap (Obj.mapSeq f) (Ne.symm hb)).trans hu) ⟨_, q⟩ ?_
  exact ⟨hz, its', _, hv, q⟩
theorem Inv.lnew {its : List Value} {t' : Nat} (I : Inv X pins σ H s) (hv : Vals ys its) (hz : ys.length <= sizeLine) :
    Inv X pins σ (upd H s.heap.objs.size (.lst ys)) { s with heap := s.heap.push { cls := .type "list", data := .seq its.toArray }, toks := t' } :=
  I.laid (fun _ _ q => Heap.get?_push_of_some _ q) (Nat.le_refl _) ⟨hz, its, 0, hv, Heap.get?_push_size _ rfl⟩
theorem Inv.fresh (I : Inv X pins σ H s) : H s.heap.objs.size = none := I.hok.fresh (Nat.le_refl _)
theorem Inv.lstM (I : Inv X pins σ H s) (hH : H l = some (.lst xs)) : xs.length <= sizeLine /\ ∃ (its : List Value) (n : Nat), Vals xs its /\ xs.length = its.length /\ s.heap.get? l = some { cls := .type "list", data := .seq its.toArray n } := by
  obtain ⟨z, its, n, r, e⟩ := I.hok l _ hH
  exact ⟨z, its, n, r, r.length, e⟩
end
section
variable {X : Cx}
noncomputable def rAppend : V -> List V -> Hp -> VK -> Prop := fun x vs H Q => ∃ l xs y, x = .ref l /\ vs = [y] /\ H l = some (.lst xs) /\ xs.length < sizeLine /\ Q .non (upd H l (.lst (xs ++ [y])))
theorem mt_append : MtM X "list.append" rAppend := by
  intro pins s σ H x vs v us Q I rx rv h
  obtain ⟨l, xs, y, rfl, rfl, hH, hz, q⟩ := h
  cases rx
  obtain ⟨u, rfl, ru⟩ := rv.one
  obtain ⟨z, its, n, r, hl, e⟩ := I.lstM hH
  refine call_meets F.slot_list_append ⟨_, e, rfl⟩ F.entry_list_append (F.args_list_append_2 _ _) (PySem.list_append l its.toArray n u (by rw [List.size_toArray]; omega)) ⟨e, ?_⟩
  refine ⟨.non, _, I.lset (its' := its ++ [u]) hH e (by simp) (r.append (.cons ru .nil)) ?_, rfl, q⟩
  rw [List.length_append, List.length_singleton]
  omega
noncomputable def rClear : V -> List V -> Hp -> VK -> Prop := fun x vs H Q => ∃ l xs, x = .ref l /\ vs = [] /\ H l = some (.lst xs) /\ Q .non (upd H l (.lst []))
theorem mt_clear : MtM X "list.clear" rClear := by
  intro pins s σ H x vs v us Q I rx rv h
  obtain ⟨l, xs, rfl, rfl, hH, q⟩ := h
  cases rx
  have hus := rv.zero
  subst hus
  obtain ⟨z, its, n, r, hl, e⟩ := I.lstM hH
  refine call_meets F.slot_list_clear ⟨_, e, rfl⟩ F.entry_list_clear (F.args_list_clear_1 _) (AutoSeq1.list_clear_list_0 l its.toArray n (by rw [List.size_toArray]; omega)) ⟨e, ?_⟩
  exact ⟨.non, _, I.lset (its' := []) (ys := []) hH e rfl .nil (Nat.zero_le _), rfl, q⟩
end
section
variable {prog : Program} {w : World} {A : Around} {E : Value -> Shared -> Prop} {s : Shared}
end
section
variable {X : Cx}
end
end L2
namespace Att
open PySem PySem.W PySem.Calls PyProof.Rows
theorem ints_of_wellAll {P : Params} {h : Heap} : ∀ (ns : List Int) (vs : List Value), WellAll P h vs (ns.map WData.int) -> IntsAre vs ns := by
  intro ns
  induction ns with
  | nil =>
    intro vs w
    rw [List.map_nil] at w
    cases w
    exact .nil
  | cons n ns ih =>
    intro vs w
    rw [List.map_cons] at w
    cases w with
    | cons a b =>
      cases a
      exact .cons _ _ (ih _ b)
theorem script_of {l : OpenLaw} {n : Nat} (hn : l.most = some n) {P : Params} {h : Heap} {args : List WData} {vals : List Value}
    (hpre : l.row.toRowW.claim.pre args = true) (hwl : WellAll P h vals args) :
    ∃ a vs ns, vals = [Value.ref a] /\ args = [WData.list (ns.map WData.int)] /\ h.get? a = some { cls := .type "list", data := .seq vs.toArray } /\ IntsAre vs ns /\ ns.length <= n := by
  have hsh : WShape.hasAll [] args [.list .int] = true := (pre_splitW hpre).1
  have hc : l.pre.holds [] { args := args } = true := (pre_splitW hpre).2
  obtain ⟨d, r, rfl, h1, h2⟩ := hasAllW_cons hsh
  obtain rfl := hasAllW_nil h2
  obtain ⟨xs, rfl, h3⟩ := hasW_list h1
  obtain ⟨ns, rfl⟩ := items_int h3
  have hlen : ns.length <= n := by
    unfold OpenLaw.pre at hc
    have h4 : (WTm.not (.lt (.lit (.int (n : Int))) (.len (.arg 0)))).holds [] { args := [.list (ns.map .int)] } = true := by
      have h4 := (holds_andW hc).1
      rw [hn] at h4
      exact h4
    have h5 := condW_of h4 (w_not (w_lt w_lit (w_len_list (w_arg rfl))))
    rw [List.length_map] at h5
    refine Nat.le_of_not_lt fun q => ?_
    have q' : (n : Int) < ((ns.length : Nat) : Int) := by omega
    first
      | (rw [decide_eq_true q'] at h5; exact absurd h5 (by decide))
      | (simp at h5; omega)
  cases hwl with
  | cons w1 w2 =>
    cases w2
    cases w1 with
    | list ho hall => exact ⟨_, _, ns, rfl, rfl, ho, ints_of_wellAll ns _ hall, hlen⟩
theorem post_true (l : OpenLaw) (args : List WData) : l.row.toRowW.claim.post args (.bool true) args = true :=
  postW_of (r := l.row.toRowW) (X := (true == true))
    (show WShape.has [] (.bool true) .bool = true by first | rfl | decide | simp [WShape.has, WShape.arms, WShape.armsAll])
    (show (WTm.eq .res (.lit (.bool true))).value [] { args := args, res := some (.bool true), after := args } = some (.bool (true == true)) from w_eq_bool (w_res rfl) w_lit) rfl
theorem attach_call {l : OpenLaw} {n : Nat} {q : Program} {loose : List Str} {XP : (Str -> Option Value) -> Heap -> Prop} {YP : World -> Heap -> Prop} {d : DefRec}
    (hn : l.most = some n) (hdf : d.params.defaults = [])
    (call : ∀ (w : World) (s₀ s₁ : Shared) (mg mb : Str -> Option Value) (fa : Addr) (o : Obj) (pm cd doc : Value) (a : Addr) (vs : List Value) (ns : List Int),
      Ground q loose [] XP w s₀ mg mb s₁.heap -> YP w s₁.heap ->
      s₁.heap.get? fa = some o -> o.data = .func (docDef d.name d.params d.body d.scope pm cd doc) -> s₁.heap.CodeRec cd d.name -> mg d.name = some (.ref fa) ->
      s₁.heap.get? a = some { cls := .type "list", data := .seq vs.toArray } -> IntsAre vs ns -> ns.length <= n -> s₁.gens = #[] ->
      codeAny (model l.prog w) callerA (.call (.ref fa) ⟨[.ref a], []⟩) (fun r s' => r = .ok (.ret (.bool true)) /\ OldK s₁.heap s'.heap /\ s'.os = s₁.os /\ AllBare s'.gens) s₁) :
    WalkO q loose XP YP l.row.toRowW d [] (fun f vs => PySem.call f vs) := by
  intro w s₀ s₁ mg mb G Y fa o pm cd doc dV kV ho hd hcd hD hmg hg args vals as hpre hlay hrd hwl hlo
  obtain rfl : dV = .none := Dflts.none hD hdf
  obtain rfl : kV = .none := Dflts.noKw hD
  obtain ⟨a, vs, ns, rfl, rfl, hobj, hints, hlen⟩ := script_of hn hpre hwl
  refine enter_call (codeAny_mono (call w s₀ s₁ mg mb fa o pm cd doc a vs ns G Y ho (fd_plain hd) hcd hmg hobj hints hlen hg) fun r s' hq => ?_)
  obtain ⟨rfl, h2, h3, h4⟩ := hq
  exact ⟨.inl ⟨.bool true, .bool true, [], rfl, fun _ => rfl, .bool true, post_true l _, fun _ => ⟨List.Pairwise.nil, fun _ hm => (nomatch hm)⟩⟩, h2, h3, h4⟩
section
variable {prog : Program} {w : World} {A : Around} {E : Value -> Shared -> Prop} {s : Shared} {K : Frag}
end
end Att
namespace L2
open PySem PySem.Spec PyProof.Rows
theorem vals_ints : ∀ {vs : List Value} {ns : List Int}, IntsAre vs ns -> Vals (ns.map V.int) vs
  | _, _, .nil => .nil
  | _, _, .cons n t h => .cons ⟨t, rfl⟩ (vals_ints h)
end L2
namespace L2
open PySem PySem.Spec PyProof.Rows
end L2
namespace L2
open PySem PySem.Spec PyProof.Rows
noncomputable def inClass (s : Stmt) (j : Nat) : Stmt := match s with
  | .ClassDef _ _ _ body _ _ _ _ _ _ _ => body.getD j (.Pass ⟨0, 0, 0, 0⟩)
  | _ => .Pass ⟨0, 0, 0, 0⟩
noncomputable def defArgs (s : Stmt) : Arguments := match s with
  | .FunctionDef _ a _ _ _ _ _ _ _ _ => a
  | _ => { posonlyargs := [], args := [], vararg := none, kwonlyargs := [], kw_defaults := [], kwarg := none, defaults := [] }
noncomputable def defBody (s : Stmt) : List Stmt := match s with
  | .FunctionDef _ _ b _ _ _ _ _ _ _ => b
  | _ => []
noncomputable def defScope (s : Stmt) : Scope := match s with
  | .FunctionDef _ _ _ _ _ _ sc _ _ _ => sc
  | _ => { kind := .function, names := [], isGenerator := false, isCoroutine := false }
noncomputable abbrev E0 : XK := fun _ _ _ => False
structure Fun (K : PySem.W.Frag) (x qual : Str) (st : Stmt) (f : Addr) (fd : FuncData) : Prop where
  ex : ∃ (oc : Value) (od : Option Addr) (kV doc pm : Value) (an : Option Addr) (cdv ct : Value) (osl : Array (Option Value)),
    fd = PySem.W.fnOf x qual (defArgs st) (defBody st) (defScope st) .none kV doc pm an cdv ct /\ K.lookup f = some ⟨oc, od, .func fd, osl⟩ /\ PySem.W.codeIn K cdv qual = true
  kp : PySem.W.keepIn K (.ref f) = true
section
variable {P : Program} {w : World} {K : PySem.W.Frag} {mg : Str -> Option Value} {base : Heap}
theorem Fun.binds {x qual : Str} {st : Stmt} {f : Addr} {fd : FuncData} {ps : List Str} (F : Fun K x qual st f fd)
    (h : ∀ (kV doc pm : Value) (an : Option Addr) (cdv ct : Value) (us : List Value), us.length = ps.length -> bindArgs (PySem.W.fnOf x qual (defArgs st) (defBody st) (defScope st) .none kV doc pm an cdv ct) ⟨us, []⟩ = pure (ps.zip us)) : Binds K fd ps [] := by
  obtain ⟨oc, od, kV, doc, pm, an, cdv, ct, osl, rfl, lk, hcd⟩ := F.ex
  exact .all (h kV doc pm an cdv ct)
theorem fun_mk {x qual : Str} {st : Stmt} {f : Addr} {oc : Value} {od an : Option Addr} {osl : Array (Option Value)} {kV doc pm cdv ct : Value} (l : K.lookup f = some ⟨oc, od, .func (PySem.W.fnOf x qual (defArgs st) (defBody st) (defScope st) .none kV doc pm an cdv ct), osl⟩)
    (c : PySem.W.codeIn K cdv qual = true) (k : PySem.W.keepIn K (.ref f) = true) : Fun K x qual st f (PySem.W.fnOf x qual (defArgs st) (defBody st) (defScope st) .none kV doc pm an cdv ct) := ⟨⟨oc, od, kV, doc, pm, an, cdv, ct, osl, rfl, l, c⟩, k⟩
end
section
variable {X : Cx}
end
theorem iteF {A B : Prop} (h : B) : if false = true then A else B := by
  rw [if_neg Bool.false_ne_true]
  exact h
theorem iteT {A B : Prop} (h : A) : if true = true then A else B := by
  rw [if_pos rfl]
  exact h
noncomputable def Same (H H' : Hp) : Prop := ∀ b o, H b = some o -> H' b = some o
end L2
namespace Fx
open PySem
theorem dict_mapF (o : Obj) (f : Array Value -> Array Value) : (o.mapFields f).dict = o.dict := by
  rcases o with ⟨c, d, dt, sl⟩
  cases dt <;> rfl
noncomputable def Dk (h : Heap) (e : Addr) (d : Option Addr) : Prop := ∀ dx, d = some dx -> ∃ oe, h.get? e = some oe /\ oe.dict = some dx
noncomputable def Fly (B : Heap) (l : List Env) (e : Addr) (cls : Value) (d : Option Addr) (h : Heap) : Prop :=
  (∃ a0, Heap.FlyingW B l e cls a0 h) /\ Dk h e d
noncomputable def Held (B : Heap) (l : List Env) (e : Addr) (cls : Value) (d : Option Addr) (L : Addr) (h : Heap) : Prop :=
  (∃ a0, Heap.HeldW B l e cls a0 L h) /\ Dk h e d
theorem dk_upd {h : Heap} {e b : Addr} {d : Option Addr} {f : Array Value -> Array Value} {o : Obj} {vs : Array Value} (hb : h.get? b = some o) (hd : o.data = .fields vs) (k : Dk h e d) :
    Dk (h.update b (Obj.mapFields f)) e d := by
  intro dx hx
  obtain ⟨oe, h1, h2⟩ := k dx hx
  by_cases q : b = e
  · subst q
    rw [hb] at h1
    cases h1
    exact ⟨_, Heap.get?_update_self _ hb (Obj.isFreed_of_fields (Obj.data_mapFields hd f)), by rw [dict_mapF]; exact h2⟩
  · exact ⟨oe, by rw [Heap.get?_update_other _ _ q]; exact h1, h2⟩
section
variable {M : Model} {A : Around} {E : Value -> Shared -> Prop} {s : Shared} {B : Heap} {env : Env} {outer l : List Env} {L e : Addr} {cls : Value} {d : Option Addr} {Q : Unit -> Shared -> Prop}
theorem entry_held {oe : Obj} {vs : Array Value} {head a0 : Value} {more : Bool} (hfr : A.frames = some (env :: outer)) (ff : s.heap.FunFrames B (env :: outer)) (hf : env.frame = some L)
    (he : s.heap.get? e = some oe) (st : B.StaysIn s.heap) (fe : B.get? e = none) (hd : oe.data = .fields vs) (hz : 1 < vs.size) (h0 : vs[0]? = some a0) (dk : Dk s.heap e d)
    (hQ : ∀ h1, Held B (env :: outer) e oe.cls d L h1 -> s.heap.UpToSlots h1 -> Q () { s with heap := h1 }) :
    wpAny M A (do
      let fr ← frameOf env
      let at_ ← entryPlaceOf L more
      let tb ← EntryCells.newEntry head fr .none (rawInt L) .none at_
      setField (.ref e) 1 tb) Q E s := by
  have ne : e ∉ (env :: outer).filterMap (·.frame) := fun z => by
    obtain ⟨_, o2, g1, g2⟩ := ff.mem z
    rw [he] at g1; cases g1; exact g2 vs hd
  refine wpAny_bind (wpAny_frameOf_fun hfr ff hf fun h2 so => ?_)
  refine wpAny_bind (wpAny_entryPlaceOf fun places ok => ?_)
  unfold EntryCells.newEntry newFields
  refine wpAny_bind (wpAny_newObj_type ?_ (ok.sizeOk5 _ _ _ _ _))
  have he2 : h2.get? e = some oe := by rw [so.2.1 e ne]; exact he
  have st2 : B.StaysIn h2 := fun b o q => by
    rw [so.2.1 b fun z => by rw [(ff.mem z).1] at q; cases q]
    exact st b o q
  generalize hO : ({ cls := .type "traceback", dict := none, data := .fields ([head, .ref L, .none, rawInt L, .none] ++ (if places.isEmpty then List.replicate 6 Value.none else places)).toArray } : Obj) = tbo
  have he3 : (h2.push tbo).get? e = some oe := Heap.get?_push_of_some _ he2
  refine wpAny_setField he3 hd hz (hQ _ ?_ ?_)
  all_goals
    have nT : h2.objs.size ≠ e := Nat.ne_of_gt (Heap.lt_size he2)
    have keep : ∀ b o, b ≠ e -> h2.get? b = some o -> ((h2.push tbo).update e (Obj.mapFields (·.setIfInBounds 1 (Value.ref h2.objs.size)))).get? b = some o := fun b o nb hb => by
      rw [Heap.get?_update_other _ _ (Ne.symm nb)]
      exact Heap.get?_push_of_some _ hb
    have nrec : ∀ b o, s.heap.get? b = some o -> (∀ ws, o.data ≠ .fields ws) -> b ≠ e := fun b o hb nf z => by
      subst z; rw [he] at hb; cases hb; exact nf vs hd
  · have hd4 := Obj.data_mapFields hd (·.setIfInBounds 1 (Value.ref h2.objs.size))
    have he4 := Heap.get?_update_self (Obj.mapFields (·.setIfInBounds 1 (Value.ref h2.objs.size))) he3 (Obj.isFreed_of_fields hd4)
    have hT4 : ((h2.push tbo).update e (Obj.mapFields (·.setIfInBounds 1 (Value.ref h2.objs.size)))).get? h2.objs.size = some tbo := by
      rw [Heap.get?_update_other _ _ (Ne.symm nT)]
      exact Heap.get?_push_size h2 (by rw [← hO]; rfl)
    refine ⟨⟨a0, fun b o q => keep b o (fun z => by rw [z, fe] at q; cases q) (st2 b o q), fe, ff.of_keeps fun b o hb nf => ?_, ?_⟩, fun dx hx => ?_⟩
    · obtain ⟨sl, z⟩ := so.2.2 b o hb
      exact ⟨_, keep b _ (nrec b o hb nf) z, rfl⟩
    · refine ⟨_, _, h2.objs.size, tbo, _, he4, ⟨Obj.cls_mapFields _ _, ?_⟩, hd4, by simp [hz], st2.fresh, nT, hT4, by rw [← hO], ?_⟩
      · rw [Array.getElem?_setIfInBounds_ne (by decide)]; exact h0
      · rcases ok with z | ⟨_, _, _, _, _, _, _, z⟩ <;> (rw [z]; simp)
    · obtain ⟨o1, g1, g2⟩ := dk dx hx
      rw [he] at g1; cases g1
      exact ⟨_, he4, by rw [dict_mapF]; exact g2⟩
  · intro b o hb nf
    obtain ⟨sl, z⟩ := so.2.2 b o hb
    exact ⟨sl, keep b _ (nrec b o hb nf) z⟩
theorem fly_note (hfr : A.frames = some (env :: outer)) (hf : env.frame = some L) (x : Fly B (env :: outer) e cls d s.heap)
    (hQ : ∀ h1, Held B (env :: outer) e cls d L h1 -> s.heap.UpToSlots h1 -> Q () { s with heap := h1 }) : wpAny M A (noteFrame (.ref e) env) Q E s := by
  obtain ⟨⟨a0, st, fe, ff, oe, vs, T, oT, ts, he, ⟨hc, h0⟩, hd, h1, bT, Te, hT, hdT, h3⟩, dk⟩ := x
  subst hc
  unfold noteFrame
  simp only [hf]
  refine wpAny_bind (wpAny_field he hd h1 ?_)
  rw [if_pos (by simp)]
  refine wpAny_bind (wpAny_field hT hdT h3 ?_)
  rw [if_neg (by simp [rawInt])]
  refine wpAny_bind (wpAny_setField hT hdT (Array.getElem?_eq_some_iff.mp h3).1 ?_)
  have oth : ∀ b, b ≠ T -> (s.heap.update T (Obj.mapFields (·.setIfInBounds 3 Value.none))).get? b = s.heap.get? b := fun b z => Heap.get?_update_other _ _ (Ne.symm z)
  have nrec : ∀ b o, s.heap.get? b = some o -> (∀ ws, o.data ≠ .fields ws) -> b ≠ T := fun b o hb nf z => by
    subst z; rw [hT] at hb; cases hb; exact nf ts hdT
  refine entry_held (s := { s with heap := s.heap.update T (Obj.mapFields (·.setIfInBounds 3 Value.none)) }) hfr (ff.of_keeps fun b o hb nf => ⟨o, by rw [oth b (nrec b o hb nf)]; exact hb, rfl⟩) hf
    (by rw [oth e (Ne.symm Te)]; exact he) (fun b o q => by rw [oth b fun z => by rw [z, bT] at q; cases q]; exact st b o q) fe hd (Array.getElem?_eq_some_iff.mp h1).1 h0 (dk_upd hT hdT dk) fun h5 hl up => ?_
  exact hQ h5 hl fun b o hb nf => up b o (by rw [oth b (nrec b o hb nf)]; exact hb) nf
theorem land_core {fl a0 : Value} (st : B.StaysIn s.heap) (fe : B.get? e = none) (ff : s.heap.FunFrames B l) (tr : s.heap.TracedAtW B e cls a0 fl) (dk : Dk s.heap e d)
    (hQ : ∀ h1, Fly B l e cls d h1 -> s.heap.UpToSlots h1 -> Q () { s with heap := h1 }) : wpAny M A (setFlight (.ref e) none) Q E s := by
  obtain ⟨oe, vs, T, oT, ts, he, hc, hd, h1, bT, Te, hT, hdT, h3⟩ := tr
  have z3 : 3 < ts.size := (Array.getElem?_eq_some_iff.mp h3).1
  unfold setFlight
  refine wpAny_bind (wpAny_field he hd h1 ?_)
  rw [if_pos (by simp)]
  refine wpAny_setField hT hdT z3 (hQ _ ⟨⟨a0, ?_⟩, dk_upd hT hdT dk⟩ ?_)
  all_goals
    have oth : ∀ b, b ≠ T -> (s.heap.update T (Obj.mapFields (·.setIfInBounds 3 ((none : Option Addr).elim Value.none fun f => rawInt f)))).get? b = s.heap.get? b := fun b z => Heap.get?_update_other _ _ (Ne.symm z)
    have nrec : ∀ b o, s.heap.get? b = some o -> (∀ ws, o.data ≠ .fields ws) -> b ≠ T := fun b o hb nf z => by
      subst z; rw [hT] at hb; cases hb; exact nf ts hdT
  · refine ⟨fun b o q => by rw [oth b fun z => by rw [z, bT] at q; cases q]; exact st b o q, fe, ff.of_keeps fun b o hb nf => ⟨o, by rw [oth b (nrec b o hb nf)]; exact hb, rfl⟩, ?_⟩
    exact ⟨oe, vs, T, _, _, by rw [oth e (Ne.symm Te)]; exact he, hc, hd, h1, bT, Te, Heap.get?_update_self _ hT (Obj.isFreed_of_fields (Obj.data_mapFields hdT _)), Obj.data_mapFields hdT _, by simp [z3]⟩
  · exact fun b o hb nf => ⟨o.slots, by rw [oth b (nrec b o hb nf)]; exact hb⟩
theorem held_land (x : Held B l e cls d L s.heap) (hQ : ∀ h1, Fly B l e cls d h1 -> s.heap.UpToSlots h1 -> Q () { s with heap := h1 }) : wpAny M A (setFlight (.ref e) none) Q E s := by
  obtain ⟨⟨a0, st, fe, ff, tr⟩, dk⟩ := x
  exact land_core st fe ff tr dk hQ
theorem Fly.less (x : Fly B (env :: outer) e cls d s.heap) : Fly B outer e cls d s.heap := by
  obtain ⟨⟨a0, st, fe, ⟨_, _, ff⟩, tr⟩, dk⟩ := x
  exact ⟨⟨a0, st, fe, ff, tr⟩, dk⟩
theorem fly_leave (hfr : A.frames = some (env :: outer)) (hf : env.frame = some L) (x : Fly B (env :: outer) e cls d s.heap)
    (hQ : ∀ h1, Fly B outer e cls d h1 -> s.heap.UpToSlots h1 -> Q () { s with heap := h1 }) : wpAny M A (leaving env (.ref e)) Q E s := by
  unfold leaving
  exact wpAny_bind (fly_note hfr hf x fun h1 x1 u1 => held_land (s := { s with heap := h1 }) x1 fun h2 x2 u2 => hQ h2 (Fly.less (s := { s with heap := h2 }) x2) (u1.trans u2))
end
end Fx
set_option maxHeartbeats 4000000
namespace L2
open PySem PySem.Spec PyProof.Rows Fx
noncomputable def CXx (P : Program) (w : World) : CXT := fun outer H s E e s' =>
  ∃ (ea : Addr) (cls : Value) (d : Option Addr) (H1 : Hp) (B : Heap), e = .ref ea /\ s'.os = s.os /\ AllBare s'.gens /\ Fly B outer ea cls d s'.heap /\
    (∀ h5 : Heap, B.StaysIn h5 -> s'.heap.UpToSlots h5 -> Un (frs outer) [] H H1 s.heap h5 /\ HOk P w H1 h5) /\ H1 ea = none /\ s.heap.get? ea = none /\ E cls d H1
structure NewA (X : Cx) (pins : List (Addr × Obj)) (e : Addr) : Prop where
  old : X.s₀.heap.get? e = none
  pin : ∀ p ∈ X.pn ++ pins, p.1 ≠ e
  loc : e ≠ X.env.locals
  cel : ∀ x c, X.env.cells.lookup x = some c -> c ≠ e
  frm : e ∉ X.fs
noncomputable def XP (X : Cx) (pins : List (Addr × Obj)) (σ : St) (R : XK) (e : Value) (s' : Shared) : Prop :=
  ∃ (ea : Addr) (cls : Value) (d : Option Addr) (H1 : Hp) (B : Heap), e = .ref ea /\ Fly B X.stack ea cls d s'.heap /\
    (∀ h5 : Heap, B.StaysIn h5 -> s'.heap.UpToSlots h5 -> Inv X pins σ H1 { s' with heap := h5 }) /\ H1 ea = none /\ NewA X pins ea /\ R cls d H1
section
variable {X : Cx} {pins : List (Addr × Obj)} {σ : St} {H : Hp} {s s' : Shared} {e : Value} {E : XK}
theorem Inv.newA {ea : Addr} (I : Inv X pins σ H s) (n : s.heap.get? ea = none) (hex : X.ex = []) : NewA X pins ea := by
  have z : ∀ b o, s.heap.get? b = some o -> b ≠ ea := fun b o q w => by rw [w, n] at q; cases q
  refine ⟨?_, fun p hp => z _ _ (I.pin p hp).1, fun w => ?_, fun x c hc => ?_, fun hb => ?_⟩
  · cases q : X.s₀.heap.get? ea with
    | none => rfl
    | some o =>
      obtain ⟨o1, q1⟩ := I.base.there ea o q (by rw [hex]; simp)
      rw [n] at q1; cases q1
  · obtain ⟨m, ⟨o, _, _, ho, _⟩, _⟩ := I.loc
    exact z _ _ ho w.symm
  · obtain ⟨v, o, ho, _⟩ := I.cell x c hc
    exact z _ _ ho
  · obtain ⟨_, o, ho, _⟩ := I.funs.mem hb
    exact z _ _ ho rfl
theorem xp_of (I : Inv X pins σ H s) (h : CXx X.prog X.w X.stack H s E e s') (hex : X.ex = []) : XP X pins σ E e s' := by
  obtain ⟨ea, cls, d, H1, B, rfl, os, bare, fl, cl, en, fr, hE⟩ := h
  refine ⟨ea, cls, d, H1, B, rfl, fl, fun h5 b5 u5 => ?_, en, I.newA fr hex, hE⟩
  obtain ⟨un, hok⟩ := cl h5 b5 u5
  exact I.call' (s' := { s' with heap := h5 }) (ch := []) os un hok bare fun b z => absurd z (by simp)
end
section
variable {P : Program} {w : World} {K : PySem.W.Frag} {mg : Str -> Option Value} {base : Heap} {N : List Str} {qual : Str} {scope : Scope} {f : Addr} {cd : Value} {A : Around} {outer : List Env} {s : Shared} {H : Hp} {E : XK}
theorem passX : Passes (CXx P w) (cxOf (CXx P w) P w K mg base N qual scope f cd A outer s H E) E := fun pins σ H1 s1 e s' I h => by
  obtain ⟨ea, cls, d, H2, B, rfl, fl, cl, en, na, hE⟩ := xp_of I h rfl
  have J := fun h5 b5 u5 => cl h5 b5 u5
  obtain ⟨a0, st, _⟩ := fl.1
  have J0 := J s'.heap st (Heap.UpToSlots.refl _)
  show wpAny _ _ (leaving _ (.ref ea)) _ _ s'
  refine fly_leave (outer := outer) (L := s.heap.objs.size) I.ok.frames rfl fl fun h1 fl1 u1 => ?_
  exact ⟨ea, cls, d, H2, B, rfl, J0.os, J0.bare, fl1, fun h5 b5 u5 => ⟨(J h5 b5 (u1.trans u5)).base, (J h5 b5 (u1.trans u5)).hok⟩, en, na.old, hE⟩
end
section
variable {P : Program} {w : World} {K : PySem.W.Frag} {mg : Str -> Option Value} {base : Heap} {N : List Str} {qual : Str} {scope : Scope} {f : Addr} {cd : Value} {A : Around} {outer : List Env} {s : Shared} {H : Hp} {E : XK}
end
section
variable {P : Program} {w : World} {K : PySem.W.Frag} {mg : Str -> Option Value} {base : Heap}
theorem Fun.okX {x qual : Str} {st : Stmt} {f : Addr} {fd : FuncData} {N ps : List Str} {k : Nat} {sp : Sp} (F : Fun K x qual st f fd) (S : FnScope N ps (defScope st)) (len : ∀ vs H Q E, sp vs H Q E -> vs.length = ps.length)
    (hbody : ∀ (cdv : Value) (A : Around) (outer : List Env) (s : Shared) (H : Hp) (vs : List V) (Q : VK) (E : XK), Room k (A.deeper (envOfC qual (defScope st) s.heap.objs.size f cdv)) -> sp vs H Q E ->
      ∃ t, PSs (cxOf (CXx P w) P w K mg base N qual (defScope st) f cdv A outer s H E) (defBody st) t /\ t { nx := fun _ H' => Q .non H', rt := Q } (start N vs) H) : FnOk P w K mg base (CXx P w) (k + 1) f fd ps sp := by
  obtain ⟨oc, od, kV, doc, pm, an, cdv, ct, osl, rfl, lk, hcd⟩ := F.ex
  exact fn_of lk hcd S len fun A outer s H vs Q E hr hsp => hbody cdv A outer s H vs Q E hr hsp
end
section
variable {X : Cx} {k : Nat} {f : Addr} {fd : FuncData} {ps : List Str} {sp : Sp} {dvs : List V} {ds : List Value} {x : Str} {p pos : Pos} {e : Expr} {es : List Expr} {t : TA}
end
section
variable {X : Cx} {pins : List (Addr × Obj)} {σ : St} {H : Hp} {s : Shared} {ea : Addr}
end
section
variable {X : Cx}
end
section
variable {X : Cx}
noncomputable def CMulB (i j : Int) : Prop := Builtin.Int.intBits i <= 1048576 /\ Builtin.Int.intBits j <= 1048576
theorem op_mulB : OpR X (binaryOp .Mult) (rI CMulB fun i j => .int (i * j)) := opI fun _ _ _ _ _ _ _ hc q => mul_int q (IntMulOk.of_le hc.1 hc.2 (by decide))
noncomputable def CDivB (_ j : Int) : Prop := j ≠ 0 /\ Builtin.Int.intBits j <= 9000
theorem log2_of_bits {j : Int} (h : Builtin.Int.intBits j <= 9000) : j.natAbs.log2 < 9000 := by
  by_cases z : j.natAbs = 0
  · rw [z]; decide +kernel
  · exact (Nat.log2_lt z).mpr (intBits_le_iff.mp h)
theorem op_fdivB : OpR X (binaryOp .FloorDiv) (rI CDivB fun i j => .int (i.fdiv j)) := opI fun _ _ _ _ _ _ _ hc q => floordiv_int hc.1 q (.inl (PyProof.noPylong_of_log2 (log2_of_bits hc.2)))
theorem op_isnot_bl : OpR X (compareOp .IsNot) (fun x y H Q => ∃ a b, x = .bl a /\ y = .bl b /\ Q (.bl (a != b)) H) := by
  intro pins s σ H x y v u Q I rx ry h
  obtain ⟨a, b, rfl, rfl, q⟩ := h
  cases rx; cases ry
  exact isnot_bool (fin_bl I q rfl)
end
end L2
namespace L2
open PySem PySem.Spec PyProof.Rows Fx
noncomputable def Has (P : Program) (w : World) (K : PySem.W.Frag) (mg : Str -> Option Value) (base : Heap) (CX : CXT) (k : Nat) (x : Str) (ps : List Str) (sp : Sp) : Prop :=
  ∃ f fd, FnOk P w K mg base CX k f fd ps sp /\ Binds K fd ps [] /\ PySem.W.keepIn K (.ref f) = true /\ mg x = some (.ref f)
theorem passN {P : Program} {w : World} {X : Cx} : Passes (CXx P w) X E0 := fun _ _ _ _ _ _ _ h => by
  obtain ⟨_, _, _, _, _, _, _, _, _, _, _, _, z⟩ := h
  exact z.elim
section
variable {X : Cx} {CX : CXT} {k : Nat} {ps : List Str} {sp : Sp} {E : XK} {x : Str} {p pos : Pos} {e : Expr} {es : List Expr} {t : TA}
theorem pe_has (h : Has X.prog X.w X.K X.mg X.base CX k x ps sp) (hr : Room k X.A) (hg : Gl X x) (hx : Passes CX X E) (ha : PA X (e :: es) t) (hdb : (x == ("__debug__" : Str)) = false := by decide)
    (he : starEach (e :: es) X.env = (false, eval e X.env) :: starEach es X.env := by rfl) (hpl : (backTo pos (starEach es X.env)).any (·.1) = false := by rfl) : PE X (.Call (.Name x p) (e :: es) [] pos) (tCall sp [] E t) := by
  obtain ⟨f, fd, F, b, kp, m⟩ := h
  exact pe_call F hr hg m kp b .nil hx ha hdb he hpl
end
end L2
namespace Fx
open PySem
section
variable {prog : Program} {w : World} {A : Around} {E : Value -> Shared -> Prop} {h : Heap} {g : Array GenState} {d : Drawn} {t : Nat} {os : OsState}
variable {nm q : Str} {C N : Addr} {bs bm bmB : List Value} {hdct : Bool} {sn : List Str} {sub : List Value} {ab : Bool} {col : Option Bool} {dd : Option Addr} {k0 k1 k2 k3 k5 : Option Value} {B newId initId : String}
noncomputable abbrev Tlk (h : Heap) (C : Addr) (n : Str) (y : Option Value) : Prop := ∀ (M : Model) (A : Around) (E : Value -> Shared -> Prop) (g : Array GenState) (d : Drawn) (t : Nat) (os : OsState) (Q : Option Value -> Shared -> Prop),
  Q y ⟨h, g, d, t, os⟩ -> wpAny M A (typeLookup (.ref C) n) Q E ⟨h, g, d, t, os⟩
end
end Fx
namespace L2
open PySem PySem.Spec PyProof.Rows Fx
noncomputable def excX (e C : Addr) (d : Option Addr) : HO := .ext fun h => ∃ oe vs, h.get? e = some oe /\ oe.cls = .ref C /\ (∀ dx, d = some dx -> oe.dict = some dx) /\ oe.data = .fields vs
section
variable {X : Cx} {pins : List (Addr × Obj)} {σ : St} {H : Hp} {s : Shared} {e : Addr} {o : HO}
end
noncomputable def excInI (K : PySem.W.Frag) (C fI : Addr) (bmB : List Value) (newId : String) : Bool := match K.lookup C with
  | some ⟨.type "type", _, .cls cd, sl⟩ => (match cd.mro, sl.toList with
    | .ref C1 :: bm, [_, _, _, _, some (.builtin n), _] => C1 == C && n == newId && !cd.hasDel && cd.hasDict && PySem.W.tailIn K bmB bm && PySem.W.nsOkIn K cd.ns && PySem.W.nsIn K cd.ns "__init__" == some (some (.ref fI))
    | _, _ => false)
  | _ => false
structure XCls (K : PySem.W.Frag) (C fI : Addr) (field : Str) : Prop where
  cls : excInI K C fI [.type "ValueError", .type "Exception", .type "BaseException", .type "object"] "ValueError.__new__" = true
  fn : PySem.W.isFn K (.ref fI) = true
  kp : PySem.W.keepIn K (.ref C) = true
  sa : PySem.W.findIn K (.ref C) "__setattr__" = some (some (.builtin "object.__setattr__"))
  ga : PySem.W.findIn K (.ref C) "__getattribute__" = some (some (.builtin "BaseException.__getattribute__"))
  gn : PySem.W.findIn K (.ref C) "__getattr__" = some none
  fl : PySem.W.findIn K (.ref C) field = some none
theorem tlk_of {K : PySem.W.Frag} {h : Heap} {C : Addr} {n : Str} {y : Option Value} (X : K.In h) (e : PySem.W.findIn K (.ref C) n = some y) : Tlk h C n y := fun M A E g d t os Q hq => (PySem.W.looks_findIn (M := M) X e).here (s := ⟨h, g, d, t, os⟩) hq
section
variable {X : Cx} {o value : Expr} {field : Str} {pos pos' : Pos} {ta tv : TE} {C fI : Addr}
end
section
variable {P : Program} {w : World} {K : PySem.W.Frag} {mg : Str -> Option Value} {base : Heap} {N : List Str} {qual : Str} {scope : Scope} {f : Addr} {cd : Value} {A : Around} {outer : List Env} {s : Shared} {H : Hp} {E : XK}
end
section
variable {X : Cx} {pins : List (Addr × Obj)} {σ : St} {H : Hp} {s : Shared}
end
section
variable {X : Cx} {e : Expr} {field : Str} {pos : Pos} {ta : TE} {C fI : Addr}
end
end L2
namespace P2
open PySem L2
inductive D where
  | non | bl (b : Bool) | int (i : Int) | str (x : Str) | ty (n : String) | ref (a : Addr)
  | tup (ds : List D) | lst (ds : List D) | exc (c : Addr) (ns : List Str) (ds : List D)
inductive R (α : Type) where
  | ok (a : α) | ex (c : Addr) (ns : List Str) (ds : List D) | bad
noncomputable def R.bind {α β : Type} : R α -> (α -> R β) -> R β
  | .ok a, f => f a
  | .ex c ns ds, _ => .ex c ns ds
  | .bad, _ => .bad
theorem bind_ok {α β : Type} {r : R α} {g : α -> R β} {y : β} (h : r.bind g = .ok y) : ∃ x, r = .ok x /\ g x = .ok y := by
  cases r with
  | ok x => exact ⟨x, rfl, h⟩
  | ex c ns ds => cases h
  | bad => cases h
noncomputable def KL (K : W.Frag) (a : Addr) (vs : List V) : Prop := ∃ (its : List Value) (n : Nat), K.lookup a = some { cls := .type "list", data := .seq its.toArray n } /\ its.length <= sizeLine /\ Vals vs its
theorem KL.sq {K : W.Frag} {a : Addr} {vs : List V} {H : Hp} (h : KL K a vs) : SqL K H a vs := let ⟨its, n, h1, h2, h3⟩ := h; .inr ⟨_, its.toArray, n, h1, rfl, rfl, rfl, by simpa using h2, by simpa using h3⟩
noncomputable def KT (K : W.Frag) (a : Addr) (vs : List V) : Prop := ∃ (o : Obj) (its : Array Value) (n : Nat), K.lookup a = some o /\ o.cls = .type "tuple" /\ o.data = .seq its n /\ its.size <= sizeLine /\ Vals vs its.toList
noncomputable def namesOf (K : W.Frag) : List Str := match K.lookup mainGlobals with
  | some ⟨_, _, .dict es _, _⟩ => es.toList.filterMap fun e => match e.key with
    | .str x _ => some x
    | _ => none
  | _ => []
noncomputable def plainFn (K : W.Frag) (x : Str) : Bool := match W.nsIn K mainGlobals x with
  | some (some (.ref f)) => (match K.lookup f with
    | some ⟨_, _, .func fd, _⟩ => (match fd.defaults, fd.kwdefaults with
      | .none, .none => true
      | _, _ => false)
    | _ => false)
  | _ => false
noncomputable def tabsOf (K : W.Frag) : List (Str × Addr × Addr) := (namesOf K).filterMap fun x => if plainFn K x then (W.tabIn K x).map fun q => (x, q.1, q.2) else none
noncomputable def CodeO (c : Addr) (q : Str) : HO := .ext fun h => h.CodeRec (.ref c) q
noncomputable def TbOk (K : W.Frag) (H : Hp) : Prop := ∀ t ∈ tabsOf K, ∃ ps, H t.2.2 = some (.tbl ps) /\ TriplesOk ps.toList /\ ∀ pos cv, codeAmong pos ps.toList = some cv -> ∃ c', cv = .ref c' /\ H c' = some (CodeO c' (t.1 ++ ".<locals>.<lambda>"))
noncomputable def NT (o : HO) : Prop := ∀ ps, o ≠ .tbl ps
theorem nt_lst {l : List V} : NT (.lst l) := fun _ h => nomatch h
theorem nt_tup {l : List V} : NT (.tup l) := fun _ h => nomatch h
theorem nt_frz {o : Obj} {u : HO} : NT (.frz o u) := fun _ h => nomatch h
theorem nt_xd {l : List (Str × V)} : NT (.xd l) := fun _ h => nomatch h
theorem nt_ext {φ : Heap -> Prop} : NT (.ext φ) := fun _ h => nomatch h
structure Same (K : W.Frag) (H H' : Hp) : Prop where
  at' : ∀ b o, NT o -> H b = some o -> H' b = some o
  fr : ∀ b, H' b = none -> H b = none
  tt : TbOk K H -> TbOk K H'
theorem Same.refl {K : W.Frag} (H : Hp) : Same K H H := ⟨fun _ _ _ h => h, fun _ h => h, fun h => h⟩
theorem Same.trans {K : W.Frag} {H H1 H2 : Hp} (a : Same K H H1) (b : Same K H1 H2) : Same K H H2 := ⟨fun c o n h => b.at' c o n (a.at' c o n h), fun c h => a.fr c (b.fr c h), fun h => b.tt (a.tt h)⟩
theorem Same.free {K : W.Frag} {H H' : Hp} (e : Same K H H') {l : Addr} (h : H' l = Option.none) : H l = Option.none := e.fr l h
theorem TbOk.off {K : W.Frag} {H H' : Hp} {p : Addr} (t : TbOk K H) (hp : ∀ ps, H p ≠ some (.tbl ps)) (hc : ∀ q, H p ≠ some (CodeO p q)) (e : ∀ b, b ≠ p -> H' b = H b) : TbOk K H' := fun x hx => by
  obtain ⟨ps, h1, h2, h3⟩ := t x hx
  refine ⟨ps, by rw [e _ fun w => hp ps (by rw [← w]; exact h1)]; exact h1, h2, fun pos cv e0 => ?_⟩
  obtain ⟨c', e1, e2⟩ := h3 pos cv e0
  exact ⟨c', e1, by rw [e _ fun w => hc _ (by rw [← w]; exact e2)]; exact e2⟩
theorem lst_tb {H : Hp} {p : Addr} {l : List V} (h : H p = some (.lst l)) : (∀ ps, H p ≠ some (.tbl ps)) /\ ∀ q, H p ≠ some (CodeO p q) :=
  ⟨fun ps w => (by rw [h] at w; exact nomatch w), fun q w => (by rw [h] at w; unfold CodeO at w; exact nomatch w)⟩
theorem TbOk.upd {K : W.Frag} {H : Hp} {p : Addr} {o : HO} (t : TbOk K H) (hp : ∀ ps, H p ≠ some (.tbl ps)) (hc : ∀ q, H p ≠ some (CodeO p q)) : TbOk K (upd H p o) := fun x hx => by
  obtain ⟨ps, h1, h2, h3⟩ := t x hx
  refine ⟨ps, by rw [upd_ne fun w => hp ps (by rw [← w]; exact h1)]; exact h1, h2, fun pos cv e => ?_⟩
  obtain ⟨c', e1, e2⟩ := h3 pos cv e
  exact ⟨c', e1, by rw [upd_ne fun w => hc _ (by rw [← w]; exact e2)]; exact e2⟩
mutual
inductive Rep (K : W.Frag) (al : Addr -> Prop) (H : Hp) : V -> D -> Prop
  | non : Rep K al H .non .non
  | bl (b : Bool) : Rep K al H (.bl b) (.bl b)
  | int (i : Int) : Rep K al H (.int i) (.int i)
  | str (x : Str) : Rep K al H (.str x) (.str x)
  | ty (n : String) : Rep K al H (.ty n) (.ty n)
  | ref (a : Addr) : Rep K al H (.ref a) (.ref a)
  | tup {a : Addr} {vs : List V} {ds : List D} : (al a /\ Rd H a (.tup vs)) \/ KT K a vs -> Reps K al H vs ds -> Rep K al H (.ref a) (.tup ds)
  | lst {a : Addr} {vs : List V} {ds : List D} : (al a /\ Rd H a (.lst vs)) \/ KL K a vs -> Reps K al H vs ds -> Rep K al H (.ref a) (.lst ds)
  | exc {a c dx : Addr} {ns : List Str} {vs : List V} {ds : List D} : al a -> H a = some (excX a c (some dx)) -> al dx -> H dx = some (.xd (ns.zip vs)) -> Reps K al H vs ds -> Rep K al H (.ref a) (.exc c ns ds)
  | exc0 {a c : Addr} : al a -> H a = some (excX a c none) -> Rep K al H (.ref a) (.exc c [] [])
inductive Reps (K : W.Frag) (al : Addr -> Prop) (H : Hp) : List V -> List D -> Prop
  | nil : Reps K al H [] []
  | cons {v : V} {d : D} {vs : List V} {ds : List D} : Rep K al H v d -> Reps K al H vs ds -> Reps K al H (v :: vs) (d :: ds)
end
noncomputable def Xt (al : Addr -> Prop) (H : Hp) (al' : Addr -> Prop) (H' : Hp) : Prop := ∀ a o, NT o -> al a -> H a = some o -> al' a /\ H' a = some o
theorem Xt.refl {al : Addr -> Prop} {H : Hp} : Xt al H al H := fun _ _ _ h e => ⟨h, e⟩
theorem Xt.trans {al al1 al2 : Addr -> Prop} {H H1 H2 : Hp} (x : Xt al H al1 H1) (y : Xt al1 H1 al2 H2) : Xt al H al2 H2 := fun a o n h e => y a o n (x a o n h e).1 (x a o n h e).2
theorem Xt.of {K : W.Frag} {al : Addr -> Prop} {H H' : Hp} (s : Same K H H') : Xt al H al H' := fun a o n h e => ⟨h, s.at' a o n e⟩
theorem Xt.sub {al al' : Addr -> Prop} {H : Hp} (s : ∀ a, al a -> al' a) : Xt al H al' H := fun a o _ h e => ⟨s a h, e⟩
theorem rd_mv {al al' : Addr -> Prop} {H H' : Hp} {a : Addr} {u : HO} (h : Xt al H al' H') (n : NT u) (z : al a /\ Rd H a u) : al' a /\ Rd H' a u := by
  obtain ⟨z1, z2 | ⟨o, z2⟩⟩ := z
  · exact ⟨(h a _ n z1 z2).1, .inl (h a _ n z1 z2).2⟩
  · exact ⟨(h a _ nt_frz z1 z2).1, .inr ⟨o, (h a _ nt_frz z1 z2).2⟩⟩
mutual
theorem Rep.mv {K : W.Frag} {al al' : Addr -> Prop} {H H' : Hp} (h : Xt al H al' H') : ∀ {v : V} {d : D}, Rep K al H v d -> Rep K al' H' v d
  | _, _, .non => .non
  | _, _, .bl b => .bl b
  | _, _, .int b => .int b
  | _, _, .str b => .str b
  | _, _, .ty b => .ty b
  | _, _, .ref b => .ref b
  | _, _, .tup p q => .tup (p.elim (fun z => .inl (rd_mv h nt_tup z)) .inr) (q.mv h)
  | _, _, .lst p q => .lst (p.elim (fun z => .inl (rd_mv h nt_lst z)) .inr) (q.mv h)
  | _, _, .exc p1 p2 p3 p4 q => .exc (h _ _ nt_ext p1 p2).1 (h _ _ nt_ext p1 p2).2 (h _ _ nt_xd p3 p4).1 (h _ _ nt_xd p3 p4).2 (q.mv h)
  | _, _, .exc0 p1 p2 => .exc0 (h _ _ nt_ext p1 p2).1 (h _ _ nt_ext p1 p2).2
theorem Reps.mv {K : W.Frag} {al al' : Addr -> Prop} {H H' : Hp} (h : Xt al H al' H') : ∀ {v : List V} {d : List D}, Reps K al H v d -> Reps K al' H' v d
  | _, _, .nil => .nil
  | _, _, .cons p q => .cons (p.mv h) (q.mv h)
end
section
variable {K : W.Frag} {al al' : Addr -> Prop} {H H' : Hp} {v : V} {d : D} {vs ws : List V} {ds es : List D}
theorem Rep.up (r : Rep K al H v d) (s : Same K H H') : Rep K al H' v d := r.mv (.of s)
theorem Reps.up (r : Reps K al H vs ds) (s : Same K H H') : Reps K al H' vs ds := r.mv (.of s)
theorem Reps.length (r : Reps K al H vs ds) : vs.length = ds.length := by
  induction ds generalizing vs with
  | nil => cases r; rfl
  | cons d ds ih => cases r with | cons a b => rw [List.length_cons, List.length_cons, ih b]
theorem Reps.append (r : Reps K al H vs ds) (q : Reps K al H ws es) : Reps K al H (vs ++ ws) (ds ++ es) := by
  induction ds generalizing vs with
  | nil => cases r; exact q
  | cons d ds ih => cases r with | cons a b => exact .cons a (ih b)
theorem Reps.get (r : Reps K al H vs ds) {i : Nat} {x : V} (e : vs[i]? = some x) : ∃ y, ds[i]? = some y /\ Rep K al H x y := by
  induction ds generalizing vs i with
  | nil => cases r; simp at e
  | cons d ds ih =>
    cases r with
    | cons a b =>
      cases i with
      | zero => simp at e; subst e; exact ⟨_, rfl, a⟩
      | succ i => simpa using ih b (by simpa using e)
theorem Reps.getD (r : Reps K al H vs ds) {i : Nat} {y : D} (e : ds[i]? = some y) : ∃ x, vs[i]? = some x /\ Rep K al H x y := by
  have hl := r.length
  have hi : i < vs.length := by rw [hl]; exact (List.getElem?_eq_some_iff.mp e).1
  obtain ⟨z, e2, q⟩ := r.get (List.getElem?_eq_getElem hi)
  rw [e] at e2; cases e2
  exact ⟨_, List.getElem?_eq_getElem hi, q⟩
theorem Reps.drop (r : Reps K al H vs ds) (n : Nat) : Reps K al H (vs.drop n) (ds.drop n) := by
  induction n generalizing vs ds with
  | zero => exact r
  | succ n ih =>
    cases r with
    | nil => exact .nil
    | cons a b => exact ih b
theorem Reps.take (r : Reps K al H vs ds) (n : Nat) : Reps K al H (vs.take n) (ds.take n) := by
  induction n generalizing vs ds with
  | zero => exact .nil
  | succ n ih =>
    cases r with
    | nil => exact .nil
    | cons a b => exact .cons a (ih b)
theorem Rep.tupIn (r : Rep K al H v (.tup ds)) : ∃ a vs, v = .ref a /\ SqT K H a vs /\ Reps K al H vs ds := by
  cases r with
  | tup p q => exact ⟨_, _, rfl, p.elim (fun z => .inl z.2) .inr, q⟩
theorem Rep.lstIn (r : Rep K al H v (.lst ds)) : ∃ a vs, v = .ref a /\ SqL K H a vs /\ Reps K al H vs ds := by
  cases r with
  | lst p q => exact ⟨_, _, rfl, p.elim (fun z => .inl z.2) KL.sq, q⟩
theorem Rep.lstRd (r : Rep K al H v (.lst ds)) : ∃ a vs, v = .ref a /\ (Rd H a (.lst vs) \/ KL K a vs) /\ Reps K al H vs ds := by
  cases r with
  | lst p q => exact ⟨_, _, rfl, p.imp (fun z => z.2) id, q⟩
theorem same_upd {p : Addr} {o : HO} (h : H p = none) : Same K H (upd H p o) := ⟨fun b u _ q => by rw [upd_ne (ne_of_none q h)]; exact q, fun b q => by
    by_cases z : b = p
    · rw [z]; exact h
    · rw [upd_ne z] at q; exact q, fun t => t.upd (fun ps w => by rw [h] at w; cases w) fun q w => by rw [h] at w; cases w⟩
theorem Reps.tupNew (r : Reps K al H vs ds) {p : Addr} (h : H p = none) (a : al p) : Rep K al (upd H p (.tup vs)) (.ref p) (.tup ds) := .tup (.inl ⟨a, .inl upd_same⟩) (r.up (same_upd h))
theorem Reps.lstNew (r : Reps K al H vs ds) {p : Addr} (h : H p = none) (a : al p) : Rep K al (upd H p (.lst vs)) (.ref p) (.lst ds) := .lst (.inl ⟨a, .inl upd_same⟩) (r.up (same_upd h))
end
inductive Sl where
  | no | sh (d : D) | ow (ds : List D)
noncomputable abbrev Ev := List Sl
structure RS (K : W.Frag) (P : Addr -> Prop) (H0 : Hp) (al : Addr -> Prop) (H : Hp) (σ : St) (ρ : Ev) : Prop where
  same : Same K H0 H
  tt : TbOk K H
  fresh : ∀ a, H a = none -> al a
  sub : ∀ a, al a -> P a
  pf : ∀ a, H0 a = none -> P a
  len : ρ.length = σ.length
  sh : ∀ (i : Nat) (d : D), ρ[i]? = some (.sh d) -> ∃ v, σ[i]? = some (some v) /\ Rep K al H v d
  ow : ∀ (i : Nat) (ds : List D), ρ[i]? = some (.ow ds) -> ∃ a vs, σ[i]? = some (some (.ref a)) /\ H a = some (.lst vs) /\ Reps K al H vs ds /\ ¬ al a /\ H0 a = none
  apart : ∀ (i j : Nat) (ds ds' : List D) (a : Addr), ρ[i]? = some (.ow ds) -> ρ[j]? = some (.ow ds') -> σ[i]? = some (some (.ref a)) -> σ[j]? = some (some (.ref a)) -> i = j
section
variable {K : W.Frag} {P al : Addr -> Prop} {H0 H H' : Hp} {σ : St} {ρ : Ev}
theorem RS.grow (r : RS K P H0 al H σ ρ) (s : Same K H H') : RS K P H0 al H' σ ρ where
  same := r.same.trans s
  tt := s.tt r.tt
  fresh := fun a h => r.fresh a (s.free h)
  sub := r.sub
  pf := r.pf
  len := r.len
  sh := fun i d e => let ⟨v, a, b⟩ := r.sh i d e; ⟨v, a, b.up s⟩
  ow := fun i ds e => let ⟨a, vs, h1, h2, h3, h4⟩ := r.ow i ds e; ⟨a, vs, h1, s.at' _ _ nt_lst h2, h3.up s, h4⟩
  apart := r.apart
theorem RS.set (r : RS K P H0 al H σ ρ) {i : Nat} {v : V} {d : D} (hi : i < ρ.length) (q : Rep K al H v d) : RS K P H0 al H (σ.set i (some v)) (ρ.set i (.sh d)) where
  same := r.same
  tt := r.tt
  fresh := r.fresh
  sub := r.sub
  pf := r.pf
  len := by rw [List.length_set, List.length_set]; exact r.len
  sh := fun j e h => by
    by_cases z : i = j
    · subst z
      rw [List.getElem?_set_self hi] at h; cases h
      exact ⟨v, List.getElem?_set_self (by rw [← r.len]; exact hi), q⟩
    · rw [List.getElem?_set_ne z] at h
      obtain ⟨w, a, b⟩ := r.sh j e h
      exact ⟨w, by rw [List.getElem?_set_ne z]; exact a, b⟩
  ow := fun j ds h => by
    by_cases z : i = j
    · subst z
      rw [List.getElem?_set_self hi] at h; cases h
    · rw [List.getElem?_set_ne z] at h
      obtain ⟨a, vs, h1, h2⟩ := r.ow j ds h
      exact ⟨a, vs, by rw [List.getElem?_set_ne z]; exact h1, h2⟩
  apart := fun j k ds ds' a h1 h2 h3 h4 => by
    by_cases z : i = j
    · subst z; rw [List.getElem?_set_self hi] at h1; cases h1
    · by_cases y : i = k
      · subst y; rw [List.getElem?_set_self hi] at h2; cases h2
      · rw [List.getElem?_set_ne z] at h1 h3
        rw [List.getElem?_set_ne y] at h2 h4
        exact r.apart j k ds ds' a h1 h2 h3 h4
end
noncomputable def XR (K : W.Frag) (al : Addr -> Prop) (H : Hp) (dx : Option Addr) (ns : List Str) (ds : List D) : Prop :=
  match dx with
  | none => ns = [] /\ ds = []
  | some d => al d /\ ∃ vs, H d = some (.xd (ns.zip vs)) /\ Reps K al H vs ds
theorem XR.mv {K : W.Frag} {al al' : Addr -> Prop} {H H' : Hp} {dx : Option Addr} {ns : List Str} {ds : List D} (h : Xt al H al' H') (r : XR K al H dx ns ds) : XR K al' H' dx ns ds := by
  cases dx with
  | none => exact r
  | some d =>
    obtain ⟨a, vs, e, q⟩ := r
    exact ⟨(h _ _ nt_xd a e).1, vs, (h _ _ nt_xd a e).2, q.mv h⟩
noncomputable def Aft {α : Type} (K : W.Frag) (al : Addr -> Prop) (E : XK) (H : Hp) (r : R α) (k : α -> Hp -> Prop) : Prop :=
  match r with
  | .ok a => ∀ H', Same K H H' -> k a H'
  | .ex c ns ds => ∀ dx H', Same K H H' -> XR K al H' dx ns ds -> E (.ref c) dx H'
  | .bad => False
section
variable {α β : Type} {K : W.Frag} {al : Addr -> Prop} {E : XK} {H H' : Hp} {r : R α} {k k' : α -> Hp -> Prop}
theorem Aft.up (a : Aft K al E H r k) (s : Same K H H') : Aft K al E H' r k := by
  cases r with
  | ok x => exact fun H1 s1 => a H1 (s.trans s1)
  | ex c ns ds => exact fun dx H1 s1 => a dx H1 (s.trans s1)
  | bad => exact a
theorem Aft.mono (a : Aft K al E H r k) (m : ∀ x H1, Same K H H1 -> k x H1 -> k' x H1) : Aft K al E H r k' := by
  cases r with
  | ok x => exact fun H1 s1 => m x H1 s1 (a H1 s1)
  | ex c ns ds => exact a
  | bad => exact a
theorem Aft.split {g : α -> R β} {k : β -> Hp -> Prop} (a : Aft K al E H (r.bind g) k) : Aft K al E H r (fun x H1 => Aft K al E H1 (g x) k) := by
  cases r with
  | ok x => exact fun H1 s1 => Aft.up a s1
  | ex c ns ds => exact a
  | bad => exact a
end
noncomputable def DE (X : Cx) (E : XK) (e : Expr) (f : Ev -> R D) : Prop := ∃ t : TE, PE X e t /\
  ∀ P H0 al H σ ρ (Q : VK), RS X.K P H0 al H σ ρ -> Aft X.K al E H (f ρ) (fun d H' => ∀ v, Rep X.K al H' v d -> Q v H') -> t σ H Q
noncomputable def DT (X : Cx) (E : XK) (e : Expr) (f : Ev -> R Bool) : Prop := ∃ t : TT, PT X e t /\
  ∀ P H0 al H σ ρ (Q : Bool -> Hp -> Prop), RS X.K P H0 al H σ ρ -> Aft X.K al E H (f ρ) Q -> t σ H Q
noncomputable def DW (X : Cx) (E : XK) (e : Expr) (f : Ev -> R Bool) : Prop := ∃ t : TT, PW X e t /\
  ∀ P H0 al H σ ρ (Q : Bool -> Hp -> Prop), RS X.K P H0 al H σ ρ -> Aft X.K al E H (f ρ) Q -> t σ H Q
noncomputable def DA (X : Cx) (E : XK) (es : List Expr) (f : Ev -> R (List D)) : Prop := ∃ t : TA, PA X es t /\
  (∀ P H0 al H σ ρ (Q : List V -> Hp -> Prop), RS X.K P H0 al H σ ρ -> Aft X.K al E H (f ρ) (fun ds H' => ∀ vs, Reps X.K al H' vs ds -> Q vs H') -> t σ H Q) /\ ∀ ρ ds, f ρ = .ok ds -> ds.length = es.length
noncomputable def DN (X : Cx) (E : XK) (e : Expr) (f : Ev -> R (List D)) : Prop := ∃ t : TE, PE X e t /\
  ∀ P H0 al H σ ρ (Q : VK), RS X.K P H0 al H σ ρ -> Aft X.K al E H (f ρ) (fun ds H' => ∀ p vs, H' p = none -> Reps X.K al H' vs ds -> Q (.ref p) (upd H' p (.lst vs))) -> t σ H Q
noncomputable def OpD (X : Cx) (E : XK) (op : Value -> Value -> Sem Value) (g : D -> D -> R D) : Prop := ∃ r : R2, OpR X op r /\
  ∀ al H x y dx dy (Q : VK), (∀ a, H a = none -> al a) -> Rep X.K al H x dx -> Rep X.K al H y dy -> Aft X.K al E H (g dx dy) (fun d H' => ∀ v, Rep X.K al H' v d -> Q v H') -> r x y H Q
noncomputable def IxD (X : Cx) (E : XK) (g : D -> D -> R D) : Prop := ∃ r : R2, IxR X r /\
  ∀ al H x y dx dy (Q : VK), (∀ a, H a = none -> al a) -> Rep X.K al H x dx -> Rep X.K al H y dy -> Aft X.K al E H (g dx dy) (fun d H' => ∀ v, Rep X.K al H' v d -> Q v H') -> r x y H Q
noncomputable def CallD (X : Cx) (E : XK) (f : Value) (g : List D -> R D) : Prop := ∃ r : List V -> Hp -> VK -> Prop, CallR X f r /\
  ∀ al H xs ds (Q : VK), (∀ a, H a = none -> al a) -> Reps X.K al H xs ds -> Aft X.K al E H (g ds) (fun d H' => ∀ v, Rep X.K al H' v d -> Q v H') -> r xs H Q
noncomputable def dV (i : Nat) : Ev -> R D := fun ρ => match ρ[i]? with
  | some (.sh d) => .ok d
  | _ => .bad
noncomputable def dC (d : D) : Ev -> R D := fun _ => .ok d
noncomputable def d1 (g : D -> R D) (a : Ev -> R D) : Ev -> R D := fun ρ => (a ρ).bind g
noncomputable def d2 (g : D -> D -> R D) (a b : Ev -> R D) : Ev -> R D := fun ρ => (a ρ).bind fun x => (b ρ).bind fun y => g x y
noncomputable def tB (d : D) : R Bool := match d with
  | .bl b => .ok b
  | _ => .bad
noncomputable def tT (d : D) : R Bool := match d with
  | .non => .ok false
  | .bl b => .ok b
  | .int i => .ok (i != 0)
  | .str y => if y.length <= sizeLine then .ok ((y.length : Int) != 0) else .bad
  | .lst ds => .ok (!ds.isEmpty)
  | .tup ds => .ok (!ds.isEmpty)
  | _ => .bad
noncomputable def b1 (t : D -> R Bool) (a : Ev -> R D) : Ev -> R Bool := fun ρ => (a ρ).bind t
noncomputable def bAnd (a b : Ev -> R Bool) : Ev -> R Bool := fun ρ => (a ρ).bind fun c => if c = true then b ρ else .ok false
noncomputable def bOr (a b : Ev -> R Bool) : Ev -> R Bool := fun ρ => (a ρ).bind fun c => if c = true then .ok true else b ρ
noncomputable def bNot (a : Ev -> R Bool) : Ev -> R Bool := fun ρ => (a ρ).bind fun c => .ok (!c)
noncomputable def dAnd (a b : Ev -> R D) : Ev -> R D := fun ρ => ((a ρ).bind tB).bind fun c => if c = true then b ρ else .ok (.bl false)
noncomputable def dOr (a b : Ev -> R D) : Ev -> R D := fun ρ => ((a ρ).bind tB).bind fun c => if c = true then .ok (.bl true) else b ρ
noncomputable def dNot (a : Ev -> R D) : Ev -> R D := fun ρ => ((a ρ).bind tB).bind fun c => .ok (.bl (!c))
noncomputable def dIf (c : Ev -> R Bool) (a b : Ev -> R D) : Ev -> R D := fun ρ => (c ρ).bind fun k => if k = true then a ρ else b ρ
noncomputable def aNil : Ev -> R (List D) := fun _ => .ok []
noncomputable def aCons (a : Ev -> R D) (r : Ev -> R (List D)) : Ev -> R (List D) := fun ρ => (a ρ).bind fun x => (r ρ).bind fun xs => .ok (x :: xs)
noncomputable def dA (g : List D -> R D) (a : Ev -> R (List D)) : Ev -> R D := fun ρ => (a ρ).bind g
noncomputable def mkT (ds : List D) : R D := if ds.length <= sizeLine then .ok (.tup ds) else .bad
noncomputable def fitL (ds : List D) : R (List D) := if ds.length <= sizeLine then .ok ds else .bad
noncomputable def asN (g : Ev -> R (List D)) : Ev -> R D := fun ρ => (g ρ).bind fun ds => .ok (.lst ds)
section
variable {X : Cx} {E : XK} {e a b c : Expr} {f fa fb : Ev -> R D} {pos : Pos}
theorem de_var (i : Nat) {x : Str} (hN : X.N[i]? = some x := by rfl) (hv : Vis X.env.scope x := by first | exact Or.inl rfl | exact Or.inr (Or.inl rfl) | exact Or.inr (Or.inr rfl)) (hd : (x == ("__debug__" : Str)) = false := by decide)
    (hcd : (x == ("__classdict__" : Str)) = false := by decide) : DE X E (.Name x pos) (dV i) := by
  refine ⟨_, pe_var hN hv hd hcd, fun P H0 al H σ ρ Q r h => ?_⟩
  unfold dV at h
  cases q : ρ[i]? with
  | none => rw [q] at h; exact h.elim
  | some s =>
    cases s with
    | sh d =>
      rw [q] at h
      obtain ⟨v, e1, e2⟩ := r.sh i d q
      exact ⟨v, e1, h H (.refl H) v e2⟩
    | no => rw [q] at h; exact h.elim
    | ow _ => rw [q] at h; exact h.elim
theorem de_int {i j} : DE X E (.Constant (.int i) j pos) (dC (.int i)) := ⟨_, pe_int, fun _ _ _ H _ _ _ _ h => h H (.refl H) _ (.int i)⟩
theorem de_bl {i j} : DE X E (.Constant (.bool i) j pos) (dC (.bl i)) := ⟨_, pe_bl, fun _ _ _ H _ _ _ _ h => h H (.refl H) _ (.bl i)⟩
theorem de_str {i j} : DE X E (.Constant (.str i) j pos) (dC (.str i)) := ⟨_, pe_str, fun _ _ _ H _ _ _ _ h => h H (.refl H) _ (.str i)⟩
theorem de_ty {x : Str} {n : String} (hg : Gl X x) (hm : X.mg x = none) (hv : bootBuiltins x = some (.type n)) (hn : x ≠ "__name__" := by decide) (hd : (x == ("__debug__" : Str)) = false := by decide) : DE X E (.Name x pos) (dC (.ty n)) :=
  ⟨_, pe_bltn (v := .ty n) hg hm hv rfl hn hd, fun _ _ al H _ _ _ _ h => h H (.refl H) _ (.ty n)⟩
theorem de_op {op : Operator} {g : D -> D -> R D} (ho : OpD X E (binaryOp op) g) (ha : DE X E a fa) (hb : DE X E b fb) : DE X E (.BinOp a op b pos) (d2 g fa fb) := by
  obtain ⟨r, ro, rr⟩ := ho
  obtain ⟨ta, pa, ra⟩ := ha
  obtain ⟨tb, pb, rb⟩ := hb
  refine ⟨_, pe_op ro pa pb, fun P H0 al H σ ρ Q s h => ra _ _ _ _ _ _ _ s (Aft.mono (Aft.split h) fun x H1 s1 h1 v rv => rb _ _ _ _ _ _ _ (s.grow s1) (Aft.mono (Aft.split h1) fun y H2 s2 h2 u ru => ?_))⟩
  exact rr _ _ _ _ _ _ _ ((s.grow s1).grow s2).fresh (rv.up s2) ru h2
theorem rep_tB {K : W.Frag} {al : Addr -> Prop} {H : Hp} {E : XK} {v : V} {d : D} {k : Bool -> Hp -> Prop} (r : Rep K al H v d) (h : Aft K al E H (tB d) k) : ∃ c, v = .bl c /\ k c H := by
  cases r with
  | bl b => exact ⟨b, rfl, h H (.refl H)⟩
  | _ => exact (h : False).elim
theorem dt_cmp {op : CmpOp} {g : D -> D -> R D} (ho : OpD X E (compareOp op) g) (ha : DE X E a fa) (hb : DE X E b fb) (hm : behindInMarks op b = false := by first | exact nomark _ | with_unfolding_all rfl) : DT X E (.Compare a [op] [b] pos) (b1 tB (d2 g fa fb)) := by
  obtain ⟨r, ro, rr⟩ := ho
  obtain ⟨ta, pa, ra⟩ := ha
  obtain ⟨tb, pb, rb⟩ := hb
  refine ⟨_, pt_cmpR ro pa pb hm, fun P H0 al H σ ρ Q s h => ra _ _ _ _ _ _ _ s (Aft.mono (Aft.split (Aft.split h)) fun x H1 s1 h1 v rv => ?_)⟩
  refine rb _ _ _ _ _ _ _ (s.grow s1) (Aft.mono (Aft.split (g := fun y => g x y) (k := fun d H2 => Aft X.K al E H2 (tB d) Q) ?_) fun y H2 s2 h2 u ru => ?_)
  · exact h1
  · exact rr _ _ _ _ _ _ _ ((s.grow s1).grow s2).fresh (rv.up s2) ru (Aft.mono h2 fun d H3 s3 h3 w rw' => rep_tB rw' h3)
theorem rep_tT {K : W.Frag} {al : Addr -> Prop} {H : Hp} {E : XK} {v : V} {d : D} {k : Bool -> Hp -> Prop} (r : Rep K al H v d) (h : Aft K al E H (tT d) k) : ∃ c, TruV K v H c /\ k c H := by
  cases r with
  | non => exact ⟨_, rfl, h H (.refl H)⟩
  | bl b => exact ⟨_, rfl, h H (.refl H)⟩
  | int b => exact ⟨_, rfl, h H (.refl H)⟩
  | str b =>
    unfold tT at h
    by_cases z : b.length <= sizeLine
    · simp only [z, if_true] at h
      exact ⟨_, ⟨z, rfl⟩, h H (.refl H)⟩
    · simp only [z, if_false] at h
      exact h.elim
  | tup p q =>
    refine ⟨_, .inr (.inl ⟨_, p.elim (fun z => .inl z.2) .inr, ?_⟩), h H (.refl H)⟩
    cases q <;> rfl
  | lst p q =>
    refine ⟨_, .inl ⟨_, p.elim (fun z => .inl z.2) KL.sq, ?_⟩, h H (.refl H)⟩
    cases q <;> rfl
  | _ => exact (h : False).elim
theorem dt_truth (ha : DE X E e fa) (he : ∀ whole, isTrue e X.env whole = (do let v ← whole; standAt e.pos; holding [v] (truthy v)) := by intro _; rfl) : DT X E e (b1 tT fa) := by
  obtain ⟨ta, pa, ra⟩ := ha
  exact ⟨_, pt_truth pa he, fun P H0 al H σ ρ Q s h => ra _ _ _ _ _ _ _ s (Aft.mono (Aft.split h) fun x H1 s1 h1 v rv => rep_tT rv h1)⟩
variable {ga gb : Ev -> R Bool} {rest : List Expr}
theorem DW.dt (h : DW X E e ga) : DT X E e ga := let ⟨t, p, r⟩ := h; ⟨t, p.pt, r⟩
theorem dw_and1 (h : DT X E a ga) : DW X E (.BoolOp .And [a] pos) ga := let ⟨t, p, r⟩ := h; ⟨t, pw_and1 p, r⟩
theorem dw_or1 (h : DT X E a ga) : DW X E (.BoolOp .Or [a] pos) ga := let ⟨t, p, r⟩ := h; ⟨t, pw_or1 p, r⟩
theorem dw_and (ha : DT X E a ga) (hb : DW X E (.BoolOp .And (b :: rest) pos) gb) : DW X E (.BoolOp .And (a :: b :: rest) pos) (bAnd ga gb) := by
  obtain ⟨ta, pa, ra⟩ := ha
  obtain ⟨tb, pb, rb⟩ := hb
  refine ⟨_, pw_and pa pb, fun P H0 al H σ ρ Q s h => ra _ _ _ _ _ _ _ s (Aft.mono (Aft.split h) fun c H1 s1 h1 => ?_)⟩
  cases c with
  | true => exact iteT (rb _ _ _ _ _ _ _ (s.grow s1) h1)
  | false => exact iteF (h1 H1 (.refl H1))
theorem dw_or (ha : DT X E a ga) (hb : DW X E (.BoolOp .Or (b :: rest) pos) gb) : DW X E (.BoolOp .Or (a :: b :: rest) pos) (bOr ga gb) := by
  obtain ⟨ta, pa, ra⟩ := ha
  obtain ⟨tb, pb, rb⟩ := hb
  refine ⟨_, pw_or pa pb, fun P H0 al H σ ρ Q s h => ra _ _ _ _ _ _ _ s (Aft.mono (Aft.split h) fun c H1 s1 h1 => ?_)⟩
  cases c with
  | true => exact iteT (h1 H1 (.refl H1))
  | false => exact iteF (rb _ _ _ _ _ _ _ (s.grow s1) h1)
theorem dt_not (ha : DT X E a ga) : DT X E (.UnaryOp .Not a pos) (bNot ga) := by
  obtain ⟨ta, pa, ra⟩ := ha
  exact ⟨_, pt_not pa, fun P H0 al H σ ρ Q s h => ra _ _ _ _ _ _ _ s (Aft.mono (Aft.split h) fun c H1 s1 h1 => h1 H1 (.refl H1))⟩
variable {es : List Expr} {fs : Ev -> R (List D)}
theorem da_nil : DA X E [] aNil := ⟨_, pa_nil, fun _ _ _ H _ _ _ _ h => h H (.refl H) _ .nil, fun _ _ h => by cases h; rfl⟩
theorem da_cons (ha : DE X E e fa) (hr : DA X E es fs) (hs : starEach (e :: es) X.env = (false, eval e X.env) :: starEach es X.env := by rfl) : DA X E (e :: es) (aCons fa fs) := by
  obtain ⟨ta, pa, ra⟩ := ha
  obtain ⟨tb, pb, rb, lb⟩ := hr
  refine ⟨_, pa_cons pa pb hs, fun P H0 al H σ ρ Q s h => ra _ _ _ _ _ _ _ s (Aft.mono (Aft.split h) fun x H1 s1 h1 v rv => rb _ _ _ _ _ _ _ (s.grow s1) (Aft.mono (Aft.split h1) fun y H2 s2 h2 u ru => ?_)), fun ρ ds h => ?_⟩
  · exact h2 H2 (.refl H2) _ (.cons (rv.up s2) ru)
  · obtain ⟨x, _, h1⟩ := bind_ok h
    obtain ⟨y, h2, h3⟩ := bind_ok h1
    cases h3
    rw [List.length_cons, List.length_cons, lb ρ y h2]
theorem de_tup {x1} (ha : DA X E es fs) : DE X E (.Tuple es x1 pos) (dA mkT fs) := by
  obtain ⟨ta, pa, ra, _⟩ := ha
  refine ⟨_, pe_tup pa, fun P H0 al H σ ρ Q s h => ra _ _ _ _ _ _ _ s (Aft.mono (Aft.split h) fun x H1 s1 h1 v rv => ?_)⟩
  unfold mkT at h1
  by_cases z : x.length <= sizeLine
  · rw [if_pos z] at h1
    exact ⟨by rw [rv.length]; exact z, fun p hp => h1 _ (same_upd hp) _ (rv.tupNew hp ((s.grow s1).fresh p hp))⟩
  · rw [if_neg z] at h1
    exact h1.elim
theorem DN.de {g : Ev -> R (List D)} (h : DN X E e g) : DE X E e (asN g) := by
  obtain ⟨t, p, r⟩ := h
  exact ⟨t, p, fun P H0 al H σ ρ Q s h => r _ _ _ _ _ _ _ s (Aft.mono (Aft.split h) fun x H1 s1 h1 p vs hp rv => h1 _ (same_upd hp) _ (rv.lstNew hp ((s.grow s1).fresh p hp)))⟩
theorem de_ix {g : D -> D -> R D} (ho : IxD X E g) (ha : DE X E a fa) (hb : DE X E b fb) (hs : PlainIx b := by exact fun _ _ => rfl) : DE X E (.Subscript a b pos) (d2 g fa fb) := by
  obtain ⟨r, ro, rr⟩ := ho
  obtain ⟨ta, pa, ra⟩ := ha
  obtain ⟨tb, pb, rb⟩ := hb
  refine ⟨_, pe_ix ro pa pb hs, fun P H0 al H σ ρ Q s h => ra _ _ _ _ _ _ _ s (Aft.mono (Aft.split h) fun x H1 s1 h1 v rv => rb _ _ _ _ _ _ _ (s.grow s1) (Aft.mono (Aft.split h1) fun y H2 s2 h2 u ru => ?_))⟩
  exact rr _ _ _ _ _ _ _ ((s.grow s1).grow s2).fresh (rv.up s2) ru h2
variable {x : Str} {p : Pos}
theorem de_callB {id : String} {g : List D -> R D} (hc : CallD X E (.builtin id) g) (hg : Gl X x) (hm : X.mg x = none) (hv : bootBuiltins x = some (.builtin id)) (ha : DA X E (e :: es) fs) (hn : x ≠ "__name__" := by decide) (hdb : (x == ("__debug__" : Str)) = false := by decide)
    (he : starEach (e :: es) X.env = (false, eval e X.env) :: starEach es X.env := by rfl) (hpl : (backTo pos (starEach es X.env)).any (·.1) = false := by rfl) : DE X E (.Call (.Name x p) (e :: es) [] pos) (dA g fs) := by
  obtain ⟨r, rc, rr⟩ := hc
  obtain ⟨ta, pa, ra, _⟩ := ha
  exact ⟨_, pe_callB rc hg hm hv pa hn hdb he hpl, fun P H0 al H σ ρ Q s h => ra _ _ _ _ _ _ _ s (Aft.mono (Aft.split h) fun x H1 s1 h1 v rv => rr _ _ _ _ _ (s.grow s1).fresh rv h1)⟩
end
noncomputable def spD (n : Nat) (K : W.Frag) (F : List D -> R D) : Sp := fun vs H Q E => vs.length = n /\ TbOk K H /\ ∃ al ds, (∀ a, H a = none -> al a) /\ Reps K al H vs ds /\ Aft K al E H (F ds) (fun d H' => ∀ v, Rep K al H' v d -> Q v H')
section
variable {X : Cx} {E : XK} {e : Expr} {es : List Expr} {fs : Ev -> R (List D)} {x : Str} {p pos : Pos} {k n : Nat} {ps : List Str} {F : List D -> R D}
theorem de_call (G : Has X.prog X.w X.K X.mg X.base (CXx X.prog X.w) k x ps (spD n X.K F)) (hr : Room k X.A) (hg : Gl X x) (hx : Passes (CXx X.prog X.w) X E) (hn : (e :: es).length = n) (ha : DA X E (e :: es) fs) (hdb : (x == ("__debug__" : Str)) = false := by decide)
    (he : starEach (e :: es) X.env = (false, eval e X.env) :: starEach es X.env := by rfl) (hpl : (backTo pos (starEach es X.env)).any (·.1) = false := by rfl) : DE X E (.Call (.Name x p) (e :: es) [] pos) (dA F fs) := by
  obtain ⟨ta, pa, ra, lb⟩ := ha
  refine ⟨_, pe_has G hr hg hx pa hdb he hpl, fun P H0 al H σ ρ Q s h => ra _ _ _ _ _ _ _ s ?_⟩
  unfold dA at h
  cases q : fs ρ with
  | ok ds =>
    rw [q] at h
    intro H1 s1 vs rv
    rw [List.append_nil]
    exact ⟨by rw [rv.length, lb ρ ds q]; exact hn, (s.grow s1).tt, al, ds, (s.grow s1).fresh, rv, Aft.up h s1⟩
  | ex c ns ds => rw [q] at h; exact h
  | bad => rw [q] at h; exact h.elim
end
inductive RT where
  | nx (ρ : Ev) | rt (d : D) | bk (ρ : Ev) | ct (ρ : Ev) | ex (c : Addr) (ns : List Str) (ds : List D) | bad
noncomputable def toS {α : Type} (r : R α) (k : α -> RT) : RT := match r with
  | .ok a => k a
  | .ex c ns ds => .ex c ns ds
  | .bad => .bad
noncomputable def seqT (r : RT) (k : Ev -> RT) : RT := match r with
  | .nx ρ => k ρ
  | r => r
noncomputable def okS (K : W.Frag) (P : Addr -> Prop) (H0 : Hp) (E : XK) (D : Ends) (al : Addr -> Prop) (H : Hp) : RT -> Prop
  | .nx ρ => ∀ al' H' σ', Xt al H al' H' -> RS K P H0 al' H' σ' ρ -> D.nx σ' H'
  | .bk ρ => ∀ al' H' σ', Xt al H al' H' -> RS K P H0 al' H' σ' ρ -> D.bk σ' H'
  | .ct ρ => ∀ al' H' σ', Xt al H al' H' -> RS K P H0 al' H' σ' ρ -> D.ct σ' H'
  | .rt d => ∀ v H', Same K H0 H' -> Rep K P H' v d -> D.rt v H'
  | .ex c ns ds => ∀ dx H', Same K H0 H' -> XR K P H' dx ns ds -> E (.ref c) dx H'
  | .bad => False
section
variable {K : W.Frag} {P al al' : Addr -> Prop} {H0 H H' : Hp} {E : XK} {D : Ends} {s : RT} {σ : St} {ρ : Ev}
theorem okS.ext (h : okS K P H0 E D al H s) (x : Xt al H al' H') : okS K P H0 E D al' H' s := by
  cases s with
  | nx ρ => exact fun a h1 σ1 y r => h a h1 σ1 (x.trans y) r
  | bk ρ => exact fun a h1 σ1 y r => h a h1 σ1 (x.trans y) r
  | ct ρ => exact fun a h1 σ1 y r => h a h1 σ1 (x.trans y) r
  | rt d => exact h
  | ex c ns ds => exact h
  | bad => exact h
theorem okS.ofR {α : Type} {r : R α} {k : α -> RT} (h : okS K P H0 E D al H (toS r k)) (s : RS K P H0 al H σ ρ) : Aft K al E H r (fun x H1 => okS K P H0 E D al H1 (k x)) := by
  cases r with
  | ok x => exact fun H1 s1 => okS.ext h (.of s1)
  | ex c ns ds => exact fun dx H1 s1 q => h dx H1 (s.same.trans s1) (q.mv (.sub s.sub))
  | bad => exact h
end
noncomputable def DS (X : Cx) (E : XK) (st : Stmt) (g : Ev -> RT) : Prop := ∃ t : TS, PS X st t /\
  ∀ P H0 al H σ ρ (D : Ends), RS X.K P H0 al H σ ρ -> okS X.K P H0 E D al H (g ρ) -> t D σ H
noncomputable def DSs (X : Cx) (E : XK) (st : List Stmt) (g : Ev -> RT) : Prop := ∃ t : TS, PSs X st t /\
  ∀ P H0 al H σ ρ (D : Ends), RS X.K P H0 al H σ ρ -> okS X.K P H0 E D al H (g ρ) -> t D σ H
noncomputable def sNil : Ev -> RT := .nx
noncomputable def sSeq (a b : Ev -> RT) : Ev -> RT := fun ρ => seqT (a ρ) b
noncomputable def sExpr (f : Ev -> R D) : Ev -> RT := fun ρ => toS (f ρ) fun _ => .nx ρ
noncomputable def sRet (f : Ev -> R D) : Ev -> RT := fun ρ => toS (f ρ) .rt
noncomputable def sSet (i : Nat) (f : Ev -> R D) : Ev -> RT := fun ρ => toS (f ρ) fun d => if i < ρ.length then .nx (ρ.set i (.sh d)) else .bad
noncomputable def sIf (c : Ev -> R Bool) (a b : Ev -> RT) : Ev -> RT := fun ρ => toS (c ρ) fun k => if k = true then a ρ else b ρ
section
variable {X : Cx} {E : XK} {st : Stmt} {rest sa sb : List Stmt} {g u ga gb : Ev -> RT} {e c : Expr} {f : Ev -> R D} {fc : Ev -> R Bool} {pos : Pos}
theorem dss_nil : DSs X E [] sNil := ⟨_, pss_nil, fun _ _ al H σ ρ _ s h => h al H σ .refl s⟩
theorem dss_one (h : DS X E st g) : DSs X E [st] g := let ⟨t, p, r⟩ := h; ⟨t, pss_one p, r⟩
theorem dss_cons (h1 : DS X E st g) (h2 : DSs X E rest u) : DSs X E (st :: rest) (sSeq g u) := by
  obtain ⟨t1, p1, r1⟩ := h1
  obtain ⟨t2, p2, r2⟩ := h2
  refine ⟨_, pss_cons p1 p2, fun P H0 al H σ ρ D s h => r1 P H0 al H σ ρ _ s ?_⟩
  unfold sSeq at h
  cases q : g ρ with
  | nx ρ1 =>
    rw [q] at h
    exact fun al' H' σ' x s' => r2 P H0 al' H' σ' ρ1 D s' (okS.ext h x)
  | bk ρ1 => rw [q] at h; exact h
  | ct ρ1 => rw [q] at h; exact h
  | rt d => rw [q] at h; exact h
  | ex c ns ds => rw [q] at h; exact h
  | bad => rw [q] at h; exact h
theorem ds_ret (he : DE X E e f) : DS X E (.Return (some e) pos) (sRet f) := by
  obtain ⟨t, p, r⟩ := he
  exact ⟨_, ps_ret p, fun P H0 al H σ ρ D s h => r _ _ _ _ _ _ _ s (Aft.mono (okS.ofR h s) fun d H1 s1 h1 v rv => h1 v H1 (s.same.trans s1) (rv.mv (.sub s.sub)))⟩
theorem ds_set (i : Nat) {x : Str} {pos' : Pos} (hN : X.N.Nodup) (hi : X.N[i]? = some x) (hx : Loc X.env.scope x) (he : DE X E e f) (hs : swapsWith e (some (.Name x pos')) pos.line X.env = pure false := by rfl) (hf : X.fn x = true \/ X.env.scope.names.lookup x = some .local := by first | exact .inl rfl | exact .inr rfl | assumption) :
    DS X E (.Assign [.Name x pos'] e pos) (sSet i f) := by
  obtain ⟨t, p, r⟩ := he
  refine ⟨_, ps_set hN hi hx p hs hf, fun P H0 al H σ ρ D s h => r _ _ _ _ _ _ _ s (Aft.mono (okS.ofR h s) fun d H1 s1 h1 v rv => ?_)⟩
  by_cases z : i < ρ.length
  · simp only [z, if_true] at h1
    exact h1 al H1 _ .refl ((s.grow s1).set z rv)
  · simp only [z, if_false] at h1
    exact h1.elim
theorem ds_if (hc : DT X E c fc) (ha : DSs X E sa ga) (hb : DSs X E sb gb) : DS X E (.If c sa sb pos) (sIf fc ga gb) := by
  obtain ⟨tc, pc, rc⟩ := hc
  obtain ⟨ta, pa, ra⟩ := ha
  obtain ⟨tb, pb, rb⟩ := hb
  refine ⟨_, ps_if pc pa pb, fun P H0 al H σ ρ D s h => rc _ _ _ _ _ _ _ s (Aft.mono (okS.ofR h s) fun k H1 s1 h1 => ?_)⟩
  cases k with
  | true => exact iteT (ra _ _ _ _ _ _ _ (s.grow s1) h1)
  | false => exact iteF (rb _ _ _ _ _ _ _ (s.grow s1) h1)
noncomputable def turnT (r : RT) (k : Ev -> RT) : RT := match r with
  | .nx ρ => k ρ
  | .ct ρ => k ρ
  | .bk ρ => .nx ρ
  | r => r
theorem turn_ok {K : W.Frag} {P al : Addr -> Prop} {H0 H : Hp} {D : Ends} {r : RT} {k : Ev -> RT} {N : St -> Hp -> Prop} (h : okS K P H0 E D al H (turnT r k))
    (hN : ∀ al' H' σ' ρ', Xt al H al' H' -> RS K P H0 al' H' σ' ρ' -> okS K P H0 E D al' H' (k ρ') -> N σ' H') : okS K P H0 E { D with nx := N, ct := N, bk := D.nx } al H r := by
  cases r with
  | nx ρ => exact fun al' H' σ' x s => hN al' H' σ' ρ x s (okS.ext h x)
  | ct ρ => exact fun al' H' σ' x s => hN al' H' σ' ρ x s (okS.ext h x)
  | bk ρ => exact h
  | rt d => exact h
  | ex c ns ds => exact h
  | bad => exact h
end
noncomputable def Wk (K : W.Frag) (al : Addr -> Prop) (H : Hp) (J : It) (ds : List D) : Prop := ∀ al' H', Xt al H al' H' -> (∀ a, H' a = none -> al' a) ->
  (∀ i d, ds[i]? = some d -> J.go i H' /\ ∀ x H'', J.yld i H' x H'' -> H'' = H' /\ Rep K al' H' x d) /\ ∀ i, ds.length <= i -> J.stop i H'
noncomputable def DI (X : Cx) (E : XK) (tg iter : Expr) (f : Ev -> R (List D)) : Prop := ∃ wi : TI, PI X tg iter wi /\
  ∀ P H0 al H σ ρ (R : It -> Hp -> Prop), RS X.K P H0 al H σ ρ -> Aft X.K al E H (f ρ) (fun ds H' => ∀ J, Wk X.K al H' J ds -> R J H') -> wi σ H R
noncomputable def Kp (l : List Nat) (σ σ' : St) : Prop := σ'.length = σ.length /\ ∀ j, j ∉ l -> σ'[j]? = σ[j]?
noncomputable def DG (X : Cx) (tg : Expr) (l : List Nat) (a : D -> Ev -> Option Ev) : Prop := ∃ g : TG, PG X tg g /\
  ∀ P H0 al H σ ρ v d (Q : St -> Hp -> Prop), RS X.K P H0 al H σ ρ -> Rep X.K al H v d -> (∃ ρ', a d ρ = some ρ' /\ ∀ σ', Kp l σ σ' -> RS X.K P H0 al H σ' ρ' -> Q σ' H) -> g v σ H Q
noncomputable def gV (i : Nat) : D -> Ev -> Option Ev := fun d ρ => if i < ρ.length then some (ρ.set i (.sh d)) else none
noncomputable def toO {α : Type} (r : Option α) (k : α -> RT) : RT := match r with
  | some a => k a
  | none => .bad
noncomputable def forD (a : D -> Ev -> Option Ev) (b : Ev -> RT) : List D -> Ev -> RT
  | [], ρ => .nx ρ
  | d :: r, ρ => toO (a d ρ) fun ρ1 => turnT (b ρ1) (forD a b r)
section
variable {X : Cx} {E : XK} {tg iter : Expr} {body : List Stmt} {fi : Ev -> R (List D)} {a : D -> Ev -> Option Ev} {gb : Ev -> RT} {pos : Pos}
noncomputable def sFor (fi : Ev -> R (List D)) (a : D -> Ev -> Option Ev) (gb : Ev -> RT) : Ev -> RT := fun ρ => toS (fi ρ) fun ds => forD a gb ds ρ
theorem dg_name (i : Nat) {x : Str} (hN : X.N.Nodup) (hi : X.N[i]? = some x) (hx : Loc X.env.scope x) (hf : X.fn x = true \/ X.env.scope.names.lookup x = some .local := by first | exact .inl rfl | exact .inr rfl | assumption) : DG X (.Name x pos) [i] (gV i) := by
  refine ⟨_, pg_name hN hi hx hf, fun P H0 al H σ ρ v d Q s rv h => ?_⟩
  obtain ⟨ρ', e, q⟩ := h
  unfold gV at e
  by_cases z : i < ρ.length
  · rw [if_pos z] at e; cases e
    exact q _ ⟨List.length_set .., fun j hj => List.getElem?_set_ne (fun w => hj (by simp [w]))⟩ (s.set z rv)
  · rw [if_neg z] at e; cases e
theorem ds_for {l : List Nat} (hp : PassesOwn (model X.prog X.w) X.A X.env X.xe) (hc : X.calm = true) (hi : DI X E tg iter fi) (hg : DG X tg l a) (hb : DSs X E body gb) (hs : ∀ x, foldedSetIterable iter X.env x = pure x := by intro _; rfl) :
    DS X E (.For tg iter body [] pos) (sFor fi a gb) := by
  obtain ⟨wi, pi, ri⟩ := hi
  obtain ⟨g, pg, rg⟩ := hg
  obtain ⟨tb, pb, rb⟩ := hb
  refine ⟨_, ps_for hp hc pi pg pb hs, fun P H0 al H σ ρ D s h => ri _ _ _ _ _ _ _ s (Aft.mono (okS.ofR h s) fun ds H1 s1 h1 J wk => ?_)⟩
  refine ⟨fun i m σ2 H2 => ∃ al2 ρ2, RS X.K P H0 al2 H2 σ2 ρ2 /\ Wk X.K al2 H2 J ds /\ okS X.K P H0 E D al2 H2 (forD a gb (ds.drop i) ρ2) /\ m = ds.length - i, ⟨_, al, ρ, s.grow s1, wk, h1, rfl⟩, ?_⟩
  rintro i m σ2 H2 ⟨al2, ρ2, s2, wk2, h2, rfl⟩
  obtain ⟨w1, w2⟩ := wk2 al2 H2 .refl s2.fresh
  by_cases hi : i < ds.length
  · right
    have ed : ds[i]? = some ds[i] := List.getElem?_eq_getElem hi
    obtain ⟨go, yl⟩ := w1 i _ ed
    rw [List.drop_eq_getElem_cons hi] at h2
    refine ⟨go, fun σ' H' => ∃ al2 ρ2, RS X.K P H0 al2 H' σ' ρ2 /\ Wk X.K al2 H' J ds /\ okS X.K P H0 E D al2 H' (forD a gb (ds.drop (i + 1)) ρ2), fun σ' H' ⟨al3, ρ3, z1, z2, z3⟩ => ⟨ds.length - (i + 1), by omega, al3, ρ3, z1, z2, z3, rfl⟩, fun x H3 y => ?_⟩
    obtain ⟨rfl, rx⟩ := yl x H3 y
    unfold forD at h2
    cases q : a ds[i] ρ2 with
    | some ρ3 =>
      rw [q] at h2
      refine rg _ _ _ _ _ _ _ _ _ s2 rx ⟨ρ3, q, fun σ3 _ s3 => rb _ _ _ _ _ _ _ s3 (turn_ok (k := forD a gb (ds.drop (i + 1))) h2 fun al' H' σ' ρ' x' s' h' => ⟨al', ρ', s', fun al4 H4 x4 => wk2 al4 H4 (x'.trans x4), h'⟩)⟩
    | none => rw [q] at h2; exact h2.elim
  · left
    have e : ds.drop i = [] := List.drop_eq_nil_of_le (by omega)
    rw [e] at h2
    exact ⟨w2 i (by omega), h2 al2 H2 σ2 .refl s2⟩
end
end P2
namespace P2
open PySem L2
noncomputable def startD (n : Nat) (ds : List D) : Ev := ds.map .sh ++ List.replicate (n - ds.length) .no
noncomputable def finT : RT -> R D
  | .rt d => .ok d
  | .nx _ => .ok .non
  | .ex c ns ds => .ex c ns ds
  | _ => .bad
theorem rs_start {K : W.Frag} {al : Addr -> Prop} {H : Hp} {vs : List V} {ds : List D} {N : List Str} (tt : TbOk K H) (fr : ∀ a, H a = none -> al a) (r : Reps K al H vs ds) : RS K al H al H (L2.start N vs) (startD N.length ds) where
  same := .refl H
  tt := tt
  fresh := fr
  sub := fun _ h => h
  pf := fr
  len := by unfold L2.start startD; simp [r.length]
  sh := fun i d h => by
    unfold startD at h
    by_cases hi : i < ds.length
    · rw [List.getElem?_append_left (by simpa using hi), List.getElem?_map] at h
      cases q : ds[i]? with
      | none => rw [q] at h; cases h
      | some y =>
        rw [q] at h; cases h
        obtain ⟨v, e1, e2⟩ := r.getD q
        refine ⟨v, ?_, e2⟩
        unfold L2.start
        rw [List.getElem?_append_left (by simpa [r.length] using hi), List.getElem?_map, e1]; rfl
    · rw [List.getElem?_append_right (by simpa using hi), List.getElem?_replicate] at h
      split at h <;> cases h
  ow := fun i d h => by
    unfold startD at h
    by_cases hi : i < ds.length
    · rw [List.getElem?_append_left (by simpa using hi), List.getElem?_map] at h
      cases q : ds[i]? with
      | none => rw [q] at h; cases h
      | some y => rw [q] at h; cases h
    · rw [List.getElem?_append_right (by simpa using hi), List.getElem?_replicate] at h
      split at h <;> cases h
  apart := fun i j d d' a h _ _ _ => by
    unfold startD at h
    by_cases hi : i < ds.length
    · rw [List.getElem?_append_left (by simpa using hi), List.getElem?_map] at h
      cases q : ds[i]? with
      | none => rw [q] at h; cases h
      | some y => rw [q] at h; cases h
    · rw [List.getElem?_append_right (by simpa using hi), List.getElem?_replicate] at h
      split at h <;> cases h
section
variable {P : Program} {w : World} {K : W.Frag} {mg : Str -> Option Value} {base : Heap}
theorem fn_den {x : Str} {st : Stmt} {f : Addr} {fd : FuncData} {N ps : List Str} {k : Nat} {g : Ev -> RT} (F : Fun K x x st f fd) (S : FnScope N ps (defScope st))
    (body : ∀ (cdv : Value) (A : Around) (outer : List Env) (s : Shared) (H : Hp) (E : XK), Room k (cxOf (CXx P w) P w K mg base N x (defScope st) f cdv A outer s H E).A -> DSs (cxOf (CXx P w) P w K mg base N x (defScope st) f cdv A outer s H E) E (defBody st) g) :
    FnOk P w K mg base (CXx P w) (k + 1) f fd ps (spD ps.length K fun ds => finT (g (startD N.length ds))) := by
  refine F.okX S (fun vs H Q E h => h.1) (fun cdv A outer s H vs Q E hr h => ?_)
  obtain ⟨hl, tt, al, ds, fr, rv, h⟩ := h
  obtain ⟨t, p, r⟩ := body cdv A outer s H E hr
  dsimp only at h
  refine ⟨t, p, r al H al H (L2.start N vs) (startD N.length ds) _ (rs_start tt fr rv) ?_⟩
  cases q : g (startD N.length ds) with
  | nx ρ => rw [q] at h; exact fun al' H' σ' _ s' => h H' s'.same .non .non
  | rt d => rw [q] at h; exact fun v H' s' rv => h H' s' v rv
  | ex c ns es => rw [q] at h; exact h
  | bk ρ => rw [q] at h; exact h.elim
  | ct ρ => rw [q] at h; exact h.elim
  | bad => rw [q] at h; exact h.elim
theorem Has.up {j k : Nat} {x : Str} {ps : List Str} {sp : Sp} (G : Has P w K mg base (CXx P w) j x ps sp) (h : j <= k) : Has P w K mg base (CXx P w) k x ps sp := let ⟨f, fd, fo, r⟩ := G; ⟨f, fd, fo.mono h, r⟩
variable {N : List Str} {qual : Str} {scope : Scope} {f : Addr} {cd : Value} {A : Around} {outer : List Env} {s : Shared} {H : Hp} {E : XK}
end
noncomputable def hasT (T : String) : D -> Bool
  | .str _ => T == "str"
  | .int _ => T == "int"
  | .lst _ => T == "list"
  | _ => false
noncomputable def dMt (T : String) (g : D -> List D -> R D) (o : Ev -> R D) (a : Ev -> R (List D)) : Ev -> R D := fun ρ => (o ρ).bind fun x => if hasT T x = true then (a ρ).bind fun xs => g x xs else .bad
section
variable {X : Cx} {E : XK} {o e : Expr} {es : List Expr} {fo : Ev -> R D} {fs : Ev -> R (List D)} {name : Str} {apos cpos : Pos} {T id : String} {g : D -> List D -> R D}
noncomputable def DO (X : Cx) (E : XK) (e : Option Expr) (f : Ev -> R (Option Int)) : Prop := ∃ t : TO, PO X e t /\
  ∀ P H0 al H σ ρ (Q : Option Int -> Hp -> Prop), RS X.K P H0 al H σ ρ -> Aft X.K al E H (f ρ) Q -> t σ H Q
noncomputable def SlD (X : Cx) (E : XK) (g : D -> Option Int -> Option Int -> R D) : Prop := ∃ r, SlR X r /\
  ∀ al H x dx lo hi (Q : VK), (∀ a, H a = none -> al a) -> Rep X.K al H x dx -> Aft X.K al E H (g dx lo hi) (fun d H' => ∀ v, Rep X.K al H' v d -> Q v H') -> r x lo hi H Q
noncomputable def pI (d : D) : R (Option Int) := match d with
  | .int i => .ok (some i)
  | _ => .bad
theorem do_none : DO X E none (fun _ => .ok none) := ⟨_, po_none, fun _ _ _ H _ _ _ _ h => h H (.refl H)⟩
theorem do_some (h : DE X E e fo) : DO X E (some e) (fun ρ => (fo ρ).bind pI) := by
  obtain ⟨t, p, r⟩ := h
  refine ⟨_, po_some p, fun P H0 al H σ ρ Q s h => r _ _ _ _ _ _ _ s (Aft.mono (Aft.split h) fun x H1 s1 h1 v rv => ?_)⟩
  cases rv with
  | int i => exact ⟨i, rfl, h1 H1 (.refl H1)⟩
  | _ => exact (h1 : False).elim
noncomputable def dSl (g : D -> Option Int -> Option Int -> R D) (a : Ev -> R D) (l u : Ev -> R (Option Int)) : Ev -> R D := fun ρ => (a ρ).bind fun x => (l ρ).bind fun i => (u ρ).bind fun j => g x i j
theorem de_slice {g : D -> Option Int -> Option Int -> R D} {lo hi : Option Expr} {fl fu : Ev -> R (Option Int)} {pos p2 : Pos} (hr : SlD X E g) (he : DE X E e fo) (hl : DO X E lo fl) (hu : DO X E hi fu) : DE X E (.Subscript e (.Slice lo hi none p2) pos) (dSl g fo fl fu) := by
  obtain ⟨r, rm, rr⟩ := hr
  obtain ⟨to, po, ro⟩ := he
  obtain ⟨tl, pl, rl⟩ := hl
  obtain ⟨tu, pu, ru⟩ := hu
  refine ⟨_, pe_slice rm po pl pu, fun P H0 al H σ ρ Q s h => ro _ _ _ _ _ _ _ s (Aft.mono (Aft.split h) fun x H1 s1 h1 v rv => ?_)⟩
  refine rl _ _ _ _ _ _ _ (s.grow s1) (Aft.mono (Aft.split h1) fun i H2 s2 h2 => ru _ _ _ _ _ _ _ ((s.grow s1).grow s2) (Aft.mono (Aft.split h2) fun j H3 s3 h3 => ?_))
  exact rr _ _ _ _ _ _ _ (((s.grow s1).grow s2).grow s3).fresh ((rv.up s2).up s3) h3
end
theorem pi_or {X : Cx} {tg iter : Expr} {w1 w2 : TI} (h1 : PI X tg iter w1) (h2 : PI X tg iter w2) : PI X tg iter (fun σ H R => w1 σ H R \/ w2 σ H R) := fun pins s σ H R I h => h.elim (h1 pins s σ H R I) (h2 pins s σ H R I)
section
variable {X : Cx} {E : XK} {tg e : Expr} {f : Ev -> R D}
theorem wk_list {K : W.Frag} {al : Addr -> Prop} {H : Hp} {a : Addr} {ds : List D} (r : Rep K al H (.ref a) (.lst ds)) : Wk K al H (Itl K a) ds := by
  intro al' H' x fr
  obtain ⟨a', vs, e, q, rs⟩ := (r.mv x).lstIn
  cases e
  refine ⟨fun i d h => ?_, fun i h => ⟨vs, q, by rw [rs.length]; exact h⟩⟩
  obtain ⟨v, e1, e2⟩ := rs.getD h
  refine ⟨⟨vs, v, q, e1⟩, fun y H'' z => ⟨z.1, ?_⟩⟩
  have := z.2 vs q
  rw [e1] at this; cases this
  exact e2
theorem wk_tup {K : W.Frag} {al : Addr -> Prop} {H : Hp} {a : Addr} {ds : List D} (r : Rep K al H (.ref a) (.tup ds)) : Wk K al H (Itt K a) ds := by
  intro al' H' x fr
  obtain ⟨a', vs, e, q, rs⟩ := (r.mv x).tupIn
  cases e
  refine ⟨fun i d h => ?_, fun i h => ⟨vs, q, by rw [rs.length]; exact h⟩⟩
  obtain ⟨v, e1, e2⟩ := rs.getD h
  refine ⟨⟨vs, v, q, e1⟩, fun y H'' z => ⟨z.1, ?_⟩⟩
  have := z.2 vs q
  rw [e1] at this; cases this
  exact e2
noncomputable def rangeL (lo : Int) (n : Nat) : List D := (List.range n).map fun (k : Nat) => D.int (lo + (k : Int))
theorem wk_range {K : W.Frag} {al : Addr -> Prop} {H : Hp} {lo : Int} {n : Nat} : Wk K al H (Itr lo n) (rangeL lo n) := by
  intro al' H' x fr
  refine ⟨fun i d h => ?_, fun i h => ?_⟩
  · unfold rangeL at h
    rw [List.getElem?_map] at h
    by_cases hi : i < n
    · rw [List.getElem?_range hi] at h
      cases h
      exact ⟨hi, fun y H'' z => ⟨z.1, by rw [z.2]; exact .int _⟩⟩
    · rw [List.getElem?_eq_none (by simpa using hi)] at h; cases h
  · unfold rangeL at h
    show n <= i
    simpa using h
noncomputable def rng1 (ds : List D) : R (List D) := match ds with
  | [.int j] => if -(2 ^ 62) <= j /\ j < 2 ^ 62 then .ok (rangeL 0 j.toNat) else .bad
  | _ => .bad
theorem di_range1 {a : Expr} {fs : Ev -> R (List D)} {p pos : Pos} (hg : Gl X "range") (hm : X.mg "range" = none) (ha : DA X E [a] fs) (hs : starEach [a] X.env = [(false, eval a X.env)] := by rfl) : DI X E tg (.Call (.Name "range" p) [a] [] pos) (fun ρ => (fs ρ).bind rng1) := by
  obtain ⟨t, q, r, _⟩ := ha
  refine ⟨_, pi_range1 hg hm q hs, fun P H0 al H σ ρ R s h => r _ _ _ _ _ _ _ s (Aft.mono (Aft.split h) fun ds H1 s1 h1 vs rv => ?_)⟩
  unfold rng1 at h1
  split at h1
  · rename_i j
    cases rv with
    | cons r1 r2 =>
      cases r2; cases r1
      split at h1
      · rename_i z
        exact ⟨j, rfl, z.1, z.2, h1 H1 (.refl H1) _ wk_range⟩
      · exact h1.elim
  · exact h1.elim
end
section
variable {K : W.Frag} {P al : Addr -> Prop} {H0 H : Hp} {σ : St} {ρ : Ev}
end
section
variable {X : Cx} {E : XK} {e : Expr} {sts : List Stmt} {st : Stmt} {g : Ev -> RT} {f : Ev -> R D} {fn : Ev -> R (List D)} {pos : Pos}
noncomputable def noEx {α : Type} (r : R α) : R α := match r with
  | .ok a => .ok a
  | _ => .bad
end
section
variable {P : Program} {w : World} {K : W.Frag} {mg : Str -> Option Value} {base : Heap} {N : List Str} {qual : Str} {scope : Scope} {f : Addr} {cd : Value} {A : Around} {outer : List Env} {s : Shared} {H : Hp} {E : XK}
end
section
variable {X : Cx} {E : XK}
end
end P2
namespace L2
open PySem PySem.Spec PyProof.Rows
section
variable {prog : Program} {w : World} {A : Around} {R : Result -> Shared -> Prop} {s : Shared}
theorem comp_loop {elt target iter : Expr} {ifs : List Expr} {scope : Scope} {pos : Pos} {it acc : Value} {env : Env} (I : Nat -> Shared -> Prop)
    (turn : ∀ n s, I n s -> wpAny (model prog w) A (pyNext it) (fun r s₁ => match r with
      | none => R (.ok .next) s₁
      | some v => wpAny (model prog w) A (letOwnedTupleGo target it v) (fun _ s₀ => wpAny (model prog w) A (assign target env v) (fun _ s₂ =>
          wpAny (model prog w) A (forIn ifs true fun c r => if r = true then do let ok ← isTrue c env (eval c env); pure (ForInStep.yield ok) else pure (ForInStep.yield r)) (fun ok s₃ =>
            if ok = true then wpAny (model prog w) A (eval elt env) (fun x s₄ =>
              wpAny (model prog w) A (call (.builtin "list.append") [acc, x]) (fun _ s₅ => ∃ m, m < n /\ I m s₅) (notedBy (model prog w) A env fun e s' => R (.error e) s') s₄) (notedBy (model prog w) A env fun e s' => R (.error e) s') s₃
            else ∃ m, m < n /\ I m s₃) (notedBy (model prog w) A env fun e s' => R (.error e) s') s₂) (notedBy (model prog w) A env fun e s' => R (.error e) s') s₀) (notedBy (model prog w) A env fun e s' => R (.error e) s') s₁) (notedBy (model prog w) A env fun e s' => R (.error e) s') s)
    (n : Nat) (h : I n s) : codeAny (model prog w) A (.compLoop (.ListComp elt [⟨target, iter, ifs, 0⟩] scope pos) 0 it acc env) R s := by
  refine codeAny_loop rfl I (fun n s hI => ?_) n h
  show wpAny _ A ((compTurn (.ListComp elt [⟨target, iter, ifs, 0⟩] scope pos) 0 it acc env).onRaise (fun x => do noteFrame x env; theTreesLotGoes x)) _ _ s
  refine wpAny_noted ?_
  rw [compTurn_list]
  refine wpAny_bind (wpAny_standAt (wpAny_bind (wpAny_mono (turn n s hI) (fun r s₁ h₁ => ?_) fun _ _ h' => h')))
  cases r with
  | none => exact wpAny_pure h₁
  | some v =>
    refine wpAny_bind (wpAny_mono h₁ (fun _ s₀ h₀ => ?_) fun _ _ h' => h')
    refine wpAny_bind (wpAny_mono h₀ (fun _ s₂ h₂ => wpAny_bind (wpAny_mono h₂ (fun ok s₃ h₃ => ?_) fun _ _ h' => h')) fun _ _ h' => h')
    cases ok with
    | false => exact wpAny_pure ⟨rfl, h₃⟩
    | true =>
      exact wpAny_bind (wpAny_bind (wpAny_mono h₃ (fun x s₄ h₄ => wpAny_bind (wpAny_mono h₄ (fun _ s₅ h₅ => wpAny_pure (wpAny_pure ⟨rfl, h₅⟩)) fun _ _ h' => h')) fun _ _ h' => h'))
end
noncomputable abbrev Cx.comp (X : Cx) (scope : Scope) (N' : List Str) (cl : List (Str × Addr)) (fp : List Addr) (s3 : Shared) (H3 : Hp) (C : Addr) : Cx :=
  { X with N := N', s₀ := s3, H₀ := H3, env := compEnvC scope cl C X.env, outer := X.stack, ex := fp, fn := fun _ => false, pn := [], xe := fun _ _ => False }
inductive Caps (X : Cx) (cl : List (Str × Addr)) : List Str -> List Nat -> Prop
  | nil : Caps X cl [] []
  | cons {x : Str} {i : Nat} {N : List Str} {ci : List Nat} : X.N[i]? = some x -> (X.env.kindOf x = some .cell \/ X.env.kindOf x = some .free) -> cl.lookup x = X.env.cells.lookup x -> Caps X cl N ci -> Caps X cl (x :: N) (i :: ci)
theorem Caps.length {X : Cx} {cl : List (Str × Addr)} {N : List Str} {ci : List Nat} (h : Caps X cl N ci) : N.length = ci.length := by
  induction h with
  | nil => rfl
  | cons _ _ _ _ ih => rw [List.length_cons, List.length_cons, ih]
theorem Caps.get {X : Cx} {cl : List (Str × Addr)} {N : List Str} {ci : List Nat} (h : Caps X cl N ci) {k : Nat} {x : Str} (e : N[k]? = some x) : ∃ i, ci[k]? = some i /\ X.N[i]? = some x /\ (X.env.kindOf x = some .cell \/ X.env.kindOf x = some .free) /\ cl.lookup x = X.env.cells.lookup x := by
  induction h generalizing k with
  | nil => simp at e
  | cons h1 h2 h3 _ ih =>
    cases k with
    | zero => simp at e; subst e; exact ⟨_, rfl, h1, h2, h3⟩
    | succ k => simpa using ih (by simpa using e)
noncomputable def capS (tn : Nat) (ci : List Nat) (σ : St) : St := List.replicate tn none ++ ci.map fun i => (σ[i]?).getD none
theorem capS_some {tn : Nat} {ci : List Nat} {σ : St} {j : Nat} {v : V} (h : (capS tn ci σ)[j]? = some (some v)) : ∃ k i, j = tn + k /\ ci[k]? = some i /\ σ[i]? = some (some v) := by
  unfold capS at h
  by_cases hj : j < tn
  · rw [List.getElem?_append_left (by simpa using hj), List.getElem?_replicate, if_pos hj] at h; cases h
  · rw [List.getElem?_append_right (by simpa using hj), List.length_replicate, List.getElem?_map] at h
    cases q : ci[j - tn]? with
    | none => rw [q] at h; cases h
    | some i =>
      rw [q] at h
      refine ⟨j - tn, i, by omega, q, ?_⟩
      have h' : (σ[i]?).getD none = some v := Option.some.inj h
      cases z : σ[i]? with
      | none => rw [z] at h'; cases h'
      | some y => rw [z] at h'; exact congrArg some h'
theorem capS_length {tn : Nat} {ci : List Nat} {σ : St} : (capS tn ci σ).length = tn + ci.length := by unfold capS; simp
noncomputable def tComp (wi : TI) (tn : Nat) (ci : List Nat) (g : TG) (tc : TT) (te : TE) : TE := fun σ H Q => wi σ H fun J H1 => ∀ l, H1 l = none -> ∃ W : Nat -> Nat -> Hp -> Prop, (∃ m, W 0 m (upd H1 l (.lst []))) /\ ∀ i m H2, W i m H2 ->
  (J.stop i H2 /\ Q (.ref l) H2) \/ (J.go i H2 /\ ∀ x H3, J.yld i H2 x H3 -> g x (capS tn ci σ) H3 fun σ2 H4 => (σ2.length = tn + ci.length /\ ∀ j, tn <= j -> σ2[j]? = (capS tn ci σ)[j]?) /\ tc σ2 H4 fun b H5 =>
    if b = true then te σ2 H5 fun v H6 => ∃ acc, H6 l = some (.lst acc) /\ acc.length < sizeLine /\ ∃ m', m' < m /\ W (i + 1) m' (upd H6 l (.lst (acc ++ [v]))) else ∃ m', m' < m /\ W (i + 1) m' H5)
noncomputable def PF (X : Cx) (ifs : List Expr) (t : TT) : Prop :=
  ∀ (pins : List (Addr × Obj)) (s : Shared) (σ : St) (H : Hp) (Q : Bool -> Hp -> Prop), Inv X pins σ H s -> t σ H Q ->
    wpAny (model X.prog X.w) X.A (forIn ifs true fun c r => if r = true then do let ok ← isTrue c X.env (eval c X.env); pure (ForInStep.yield ok) else pure (ForInStep.yield r)) (TP X pins σ Q) X.xe s
theorem pf_nil {X : Cx} : PF X [] (fun _ H Q => Q true H) := fun _ _ _ H _ I h => wpAny_tests_nil ⟨H, I, h⟩
theorem pf_one {X : Cx} {c : Expr} {t : TT} (h : PT X c t) : PF X [c] t := fun pins s σ H Q I hq => wpAny_tests_one (h pins s σ H Q I hq)
section
variable {X : Cx} {tg iter elt : Expr} {ifs : List Expr} {scope : Scope} {pos : Pos} {wi : TI} {g : TG} {tc : TT} {te : TE} {cl : List (Str × Addr)} {tn : Nat} {Nt Nc : List Str} {ci : List Nat}
theorem comp_run {pins : List (Addr × Obj)} {s : Shared} {σ : St} {H : Hp} {Q : VK} {RR : Value -> Addr -> Result -> Shared -> Prop} (I : Inv X pins σ H s) (hc : X.calm = true) (hi : PI X tg iter wi)
    (hg : ∀ fp s3 H3 C, PG (X.comp scope (Nt ++ Nc) cl fp s3 H3 C) tg g) (hf : ∀ fp s3 H3 C, PF (X.comp scope (Nt ++ Nc) cl fp s3 H3 C) ifs tc) (he : ∀ fp s3 H3 C, PE (X.comp scope (Nt ++ Nc) cl fp s3 H3 C) elt te)
    (hkind : scope.kind = .function) (hcell : ∀ y ∈ scope.names, y.2 ≠ .cell) (hcap : Caps X cl Nc ci) (hNt : Nt.length = tn)
    (hsub : ∀ x c, cl.lookup x = some c -> X.env.cells.lookup x = some c) (hhas : ∀ x, ((relabel scope X.env).names.lookup x = some .cell \/ (relabel scope X.env).names.lookup x = some .free) -> ∃ c, cl.lookup x = some c)
    (hvis : ∀ x ∈ Nc, (relabel scope X.env).names.lookup x = some .cell \/ (relabel scope X.env).names.lookup x = some .free)
    (h : tComp wi tn ci g tc te σ H Q)
    (fin : ∀ l C H' s' m, s'.heap.Ns C m -> Inv X pins σ H' s' -> H' C = none -> C ≠ X.env.locals -> X.s₀.heap.objs.size <= C -> (∀ x c, X.env.cells.lookup x = some c -> c ≠ C) -> (∀ p ∈ X.pn ++ pins, p.1 ≠ C) -> Q (.ref l) H' -> RR (.ref l) C (.ok .next) s') :
    wpAny (model X.prog X.w) X.A (eval iter X.env) (fun x s₁ => wpAny (model X.prog X.w) X.A (pyIter x) (fun it s₂ => wpAny (model X.prog X.w) X.A (newList []) (fun acc s₃ =>
      wpAny (model X.prog X.w) X.A (newFunctionEnv scope X.env.globals cl [] X.env.qual none .none (some X.env)) (fun cenv s₄ =>
        codeAny (model X.prog X.w) X.A (.compStart (.ListComp elt [⟨tg, iter, ifs, 0⟩] scope pos) 0 it acc { cenv with scope := relabel scope X.env }) (RR acc cenv.locals) s₄) X.xe s₃) X.xe s₂) X.xe s₁) X.xe s := by
  refine thn (hi pins s σ H _ I h) fun v s1 h1 => thn h1 fun itv s2 h2 => ?_
  obtain ⟨it, fp, tk, J, H2, rfl, I2, T, st2, f2, hW⟩ := h2
  refine wpAny_newObj_type (wpAny_newFunctionEnv hcell (by intro y hy; simp at hy) (fun h₁ hns₁ hsb₁ => ?_) hkind)
  dsimp only at hns₁ hsb₁ ⊢
  generalize hG : s2.heap.push { cls := .type "list", dict := none, data := .seq ([] : List Value).toArray } = G at hns₁ hsb₁ ⊢
  have hGs : G.objs.size = s2.heap.objs.size + 1 := by rw [← hG, Heap.size_push]
  have hl : H2 s2.heap.objs.size = none := I2.hok.fresh (Nat.le_refl _)
  obtain ⟨W, ⟨m0, w0⟩, turn⟩ := hW _ hl
  have I3 : Inv X pins σ (upd H2 s2.heap.objs.size (.lst [])) { s2 with heap := G } := by
    rw [← hG]
    exact I2.laid (t' := s2.toks) (fun b u e => Heap.get?_push_of_some _ e) (Nat.le_refl _) ⟨Nat.zero_le _, [], 0, .nil, Heap.get?_push_size _ rfl⟩
  generalize hH3 : upd H2 s2.heap.objs.size (.lst []) = H3 at w0 I3
  have keep : ∀ b o, G.get? b = some o -> h₁.get? b = some o := fun b o e => hsb₁.extBut b o (Nat.ne_of_lt (Heap.lt_size e)) (Heap.get?_push_of_some _ e)
  have lt2 : ∀ b ∈ fp, b < s2.heap.objs.size := fun b hb => by
    obtain ⟨o, e, _⟩ := T.obj 0 _ st2 b hb
    exact Heap.lt_size e
  have fpC : ∀ b ∈ fp, b ≠ G.objs.size := fun b hb => Nat.ne_of_lt (Nat.lt_of_lt_of_le (lt2 b hb) (by rw [hGs]; exact Nat.le_succ _))
  have fpH : ∀ b ∈ fp, H3 b = none := fun b hb => by
    rw [← hH3, upd_ne (Nat.ne_of_lt (lt2 b hb))]; exact (f2 b hb).1
  let X' := X.comp scope (Nt ++ Nc) cl fp { s2 with heap := G } H3 G.objs.size
  have ok' : X'.Ok := by
    refine ⟨I3.ok.mod, (by show (relabel scope X.env).kind = _; exact hkind), I3.ok.glob, I3.ok.blt, Nat.le_refl _, fun x y c e1 e2 => I3.ok.inj x y c (hsub x c e1) (hsub y c e2), fun x hx => hhas x hx, (fun x c z => nomatch z), I3.ok.hd, I3.ok.frames, .inl rfl, fun b hb => ⟨fpC b hb, fun x c e => (f2 b hb).2.2.2.2.1 x c (hsub x c e)⟩, fun b o e => I3.bs b o e, Nat.le_trans I3.ok.bsz I3.sz, fun b o e hb => ?_, fun b hb z => ?_, I3.stack, I3.stkFree⟩
    · rcases (f2 b hb).2.2.2.1 with z | z
      · exact I3.ok.noex b o e z
      · exact absurd (Nat.lt_of_lt_of_le (Heap.lt_size e) (Nat.le_trans I3.ok.bsz z)) (Nat.lt_irrefl _)
    · rcases List.mem_cons.mp (I3.stkSub b z) with e | e
      · exact (f2 b hb).2.1 e
      · exact (f2 b hb).2.2.1 e
  have J0 : Inv X' [] (capS tn ci σ) H3 { s2 with heap := h₁, toks := s2.toks + 0 } := by
    refine ⟨ok', rfl, I3.bare, Un.kept keep, ⟨_, hns₁, fun i x v e1 e2 e3 => ?_⟩, fun x c e => ?_, I3.hok.fresh (Nat.le_refl _), fun x c e => I3.freeC x c (hsub x c e), fun p hp => absurd (show p ∈ ([] : List (Addr × Obj)) from hp) (by simp), I3.hok.kept keep, ?_⟩
    · obtain ⟨k, j, rfl, q1, q2⟩ := capS_some e2
      have e1' : Nc[k]? = some x := by
        rw [List.getElem?_append_right (by omega)] at e1
        rw [show tn + k - Nt.length = k by omega] at e1; exact e1
      obtain ⟨j', z1, z2, z3, z4⟩ := hcap.get e1'
      rw [q1] at z1; cases z1
      obtain ⟨m, hn, hlk⟩ := I3.loc
      obtain ⟨u, r, lk⟩ := hlk j x v z2 q2 (z3.elim (fun z => .inr (.inl z)) fun z => .inr (.inr z))
      refine ⟨u, r, .inr ⟨hvis x (List.mem_of_getElem? e1'), ?_⟩⟩
      rcases lk with ⟨k1, _⟩ | ⟨_, c, k2, k3⟩
      · rcases z3 with z | z <;> (rw [k1] at z; cases z)
      · refine ⟨c, z4.trans k2, ?_⟩
        obtain ⟨o, ho, hd⟩ := k3
        exact ⟨o, keep _ _ ho, hd⟩
    · obtain ⟨v, o, ho, hd⟩ := I3.cell x c (hsub x c e)
      exact ⟨v, o, keep _ _ ho, hd⟩
    · rw [capS_length]
      show _ = (Nt ++ Nc).length
      rw [List.length_append, hcap.length, hNt]
  have stat : ∀ {pins' : List (Addr × Obj)} {H' : Hp}, (∀ p ∈ pins', p.1 ∉ fp) -> (∀ b ∈ fp, H' b = none) -> ∀ b ∈ fp, FpOk X' pins' H' b := fun {pins' H'} hp hn b hb =>
    ⟨hn b hb, fpC b hb, fun z => ok'.exfs b hb z, .inl hb, fun x c e => (ok'.exf b hb).2 x c e, fun p hpm z => hp p ((List.mem_append.mp hpm).elim (fun w => absurd (show p ∈ ([] : List (Addr × Obj)) from w) (by simp)) fun w => w) (by rw [z]; exact hb)⟩
  have mk : ∀ (s5 : Shared), (∀ i H5, Inv X' [] (capS tn ci σ) H5 s5 -> tk i s5.heap -> (∀ b ∈ fp, H5 b = none) -> ∀ n, W i n H5 ->
      codeAny (model X.prog X.w) X.A (.compLoop (.ListComp elt [⟨tg, iter, ifs, 0⟩] scope pos) 0 (.ref it) (.ref s2.heap.objs.size) (compEnvC scope cl G.objs.size X.env)) (RR (.ref s2.heap.objs.size) G.objs.size) s5) := by
    intro s5 i5 H5 J5 st5 fr5 n5 w5
    refine comp_loop (fun n s' => ∃ i H', Inv X' [] (capS tn ci σ) H' s' /\ tk i s'.heap /\ (∀ b ∈ fp, H' b = none) /\ W i n H') ?_ n5 ⟨i5, H5, J5, st5, fr5, w5⟩
    rintro n s6 ⟨i, H6, J6, st6, fr6, w6⟩
    rcases turn i n H6 w6 with ⟨stop, q⟩ | ⟨go, step⟩
    · refine wpAny_mono (T.done X' rfl rfl rfl hc i [] s6 _ H6 (fun _ _ => False) J6 (stat (by simp) fr6) st6 stop) (fun r s7 ⟨hr, J7⟩ => ?_) fun _ _ z => z.elim
      subst hr
      obtain ⟨m, hn, _⟩ := J7.loc
      have IX : Inv X pins σ H6 s7 := I3.call' (ch := fp) J7.os J7.base J7.hok J7.bare fun b hb => ⟨(f2 b hb).2.2.2.1, (f2 b hb).2.1, (f2 b hb).2.2.2.2.1, (f2 b hb).2.2.2.2.2⟩
      refine fin _ _ H6 s7 m hn IX J7.free (Nat.ne_of_gt I3.lt) (Nat.le_trans I3.sz (Nat.le_refl _)) (fun x c e z => ?_) (fun p hp z => ?_) q
      · obtain ⟨v, o, ho, _⟩ := I3.cell x c e
        exact absurd (Heap.lt_size ho) (by rw [z]; exact Nat.lt_irrefl _)
      · exact absurd (Heap.lt_size (I3.pin p hp).1) (by rw [z]; exact Nat.lt_irrefl _)
    · refine wpAny_mono (T.item X' rfl rfl rfl hc i [] s6 _ H6 (fun _ _ => False) J6 (stat (by simp) fr6) st6 go) (fun r s7 ⟨u, hr, h7⟩ => ?_) fun _ _ z => z.elim
      subst hr
      refine wpAny_mono h7 (fun _ s8 ⟨x, H8, J8, r8, y8, st8, fr8⟩ => ?_) fun _ _ z => z.elim
      have J8' := J8.pinned (stat (by simp) fr8) (T.obj _ _ st8)
      have back : ∀ {σ9 : St} {H9 : Hp} {s9 : Shared}, Inv X' ([] ++ pinsAt fp s8.heap) σ9 H9 s9 -> σ9.length = tn + ci.length -> (∀ j, tn <= j -> σ9[j]? = (capS tn ci σ)[j]?) -> ∀ m', m' < n -> W (i + 1) m' H9 ->
          ∃ m, m < n /\ ∃ i H', Inv X' [] (capS tn ci σ) H' s9 /\ tk i s9.heap /\ (∀ b ∈ fp, H' b = none) /\ W i m H' := fun {σ9 H9 s9} J9 hl9 hk9 m' hm w9 => by
        refine ⟨m', hm, i + 1, H9, J9.unpinned.weak (by rw [capS_length, hl9]) fun j v e => ?_, T.keep _ _ _ st8 fun b hb o e => (J9.pin (b, o) (List.mem_append_right _ (List.mem_append_right _ (mem_pinsAt hb e)))).1, fun b hb => ?_, w9⟩
        · obtain ⟨k, _, rfl, _⟩ := capS_some e
          rw [hk9 _ (by omega)]; exact e
        · obtain ⟨o, e, d⟩ := T.obj _ _ st8 b hb
          exact (J9.pin (b, o) (List.mem_append_right _ (List.mem_append_right _ (mem_pinsAt hb e)))).2.1
      refine wpAny_mono (hg fp _ _ _ _ s8 _ H8 x u _ J8' r8 (step x H8 y8)) (fun _ s9 ⟨σ9, H9, J9, ⟨l9, k9⟩, q9⟩ => ?_) fun _ _ z => z.elim
      refine wpAny_mono (hf fp _ _ _ _ s9 σ9 H9 _ J9 q9) (fun b s10 ⟨H10, J10, q10⟩ => ?_) fun _ _ z => z.elim
      cases b with
      | false =>
        rw [if_neg Bool.false_ne_true] at q10 ⊢
        obtain ⟨m', hm, w10⟩ := q10
        exact back J10 l9 k9 m' hm w10
      | true =>
        rw [if_pos rfl] at q10 ⊢
        refine wpAny_mono (he fp _ _ _ _ s10 σ9 H10 _ J10 q10) (fun y s11 ⟨v, H11, J11, r11, acc, e11, z11, m', hm, w11⟩ => ?_) fun _ _ z => z.elim
        refine wpAny_mono (mt_append (X := X') _ s11 σ9 H11 (.ref _) [v] (.ref _) [y] (fun _ H12 => W (i + 1) m' H12) J11 rfl (.cons r11 .nil) ⟨_, acc, v, rfl, rfl, e11, z11, w11⟩) (fun _ s12 ⟨_, H12, J12, _, w12⟩ => ?_) fun _ _ z => z.elim
        exact back J12 l9 k9 m' hm w12
  have st4 : tk 0 h₁ := T.keep _ _ _ st2 fun b _ o e => keep b o (by rw [← hG]; exact Heap.get?_push_of_some _ e)
  exact codeAny_compStart_list (mk _ 0 H3 J0 st4 fpH m0 w0) (T.self _ 0 _ _ _ st4 (mk _ 0 H3 J0 st4 fpH m0 w0))
theorem pe_comp (hc : X.calm = true) (hi : PI X tg iter wi) (hg : ∀ fp s3 H3 C, PG (X.comp scope (Nt ++ Nc) cl fp s3 H3 C) tg g) (hf : ∀ fp s3 H3 C, PF (X.comp scope (Nt ++ Nc) cl fp s3 H3 C) ifs tc) (he : ∀ fp s3 H3 C, PE (X.comp scope (Nt ++ Nc) cl fp s3 H3 C) elt te)
    (hclos : closureFor scope X.env = pure cl) (hkind : scope.kind = .function) (hcell : ∀ y ∈ scope.names, y.2 ≠ .cell) (hnames : ∀ x ∈ scope.names, x.2 = .local -> scope.names.lookup x.1 = some .local) (hcap : Caps X cl Nc ci) (hNt : Nt.length = tn)
    (hsub : ∀ x c, cl.lookup x = some c -> X.env.cells.lookup x = some c) (hhas : ∀ x, ((relabel scope X.env).names.lookup x = some .cell \/ (relabel scope X.env).names.lookup x = some .free) -> ∃ c, cl.lookup x = some c)
    (hvis : ∀ x ∈ Nc, (relabel scope X.env).names.lookup x = some .cell \/ (relabel scope X.env).names.lookup x = some .free)
    (hs : ∀ x, foldedSetIterable iter X.env x = pure x := by intro _; rfl) : PE X (.ListComp elt [⟨tg, iter, ifs, 0⟩] scope pos) (tComp wi tn ci g tc te) := by
  intro pins s σ H Q I h
  rw [eval_ListComp]
  refine wpAny_comprehension_free (use := none) rfl hs hclos hkind hnames (comp_run (Nt := Nt) (Nc := Nc) I hc hi hg hf he hkind hcell hcap hNt hsub hhas hvis h ?_)
  intro l C H' s' m hn I' h1 h2 h3 h4 h5 q
  exact ⟨m, hn, fun h'' hs'' => ⟨.ref l, H', I'.turned (t' := s'.toks) (fun b o hb e => hs''.extBut b o hb e) h1 h2 (.inr h3) h4 h5, rfl, q⟩⟩
noncomputable def PUse (X : Cx) (e : Expr) (t : TE) : Prop :=
  ∀ (i : Nat) (x : Str) (pos' : Pos) (_ : X.N.Nodup) (_ : X.N[i]? = some x) (_ : Loc X.env.scope x) (_ : X.fn x = true \/ X.env.scope.names.lookup x = some .local) (pins : List (Addr × Obj)) (s : Shared) (σ : St) (H : Hp) (Q : VK), Inv X pins σ H s -> t σ H Q ->
    wpAny (model X.prog X.w) X.A (evalThenUse e X.env (assign (.Name x pos') X.env)) (fun _ s' => ∃ v H', Inv X pins (σ.set i (some v)) H' s' /\ Q v H') X.xe s
theorem pu_comp (hc : X.calm = true) (hi : PI X tg iter wi) (hg : ∀ fp s3 H3 C, PG (X.comp scope (Nt ++ Nc) cl fp s3 H3 C) tg g) (hf : ∀ fp s3 H3 C, PF (X.comp scope (Nt ++ Nc) cl fp s3 H3 C) ifs tc) (he : ∀ fp s3 H3 C, PE (X.comp scope (Nt ++ Nc) cl fp s3 H3 C) elt te)
    (hclos : closureFor scope X.env = pure cl) (hkind : scope.kind = .function) (hcell : ∀ y ∈ scope.names, y.2 ≠ .cell) (hnames : ∀ x ∈ scope.names, x.2 = .local -> scope.names.lookup x.1 = some .local) (hcap : Caps X cl Nc ci) (hNt : Nt.length = tn)
    (hsub : ∀ x c, cl.lookup x = some c -> X.env.cells.lookup x = some c) (hhas : ∀ x, ((relabel scope X.env).names.lookup x = some .cell \/ (relabel scope X.env).names.lookup x = some .free) -> ∃ c, cl.lookup x = some c)
    (hvis : ∀ x ∈ Nc, (relabel scope X.env).names.lookup x = some .cell \/ (relabel scope X.env).names.lookup x = some .free)
    (hs : ∀ x, foldedSetIterable iter X.env x = pure x := by intro _; rfl) : PUse X (.ListComp elt [⟨tg, iter, ifs, 0⟩] scope pos) (tComp wi tn ci g tc te) := by
  intro i x pos' hN hxi hx hfn pins s σ H Q I h
  unfold evalThenUse
  refine wpAny_bind (wpAny_comprehension_free (use := some (assign (.Name x pos') X.env)) rfl hs hclos hkind hnames (comp_run (Nt := Nt) (Nc := Nc) I hc hi hg hf he hkind hcell hcap hNt hsub hhas hvis h ?_))
  intro l C H' s' m hn I' h1 h2 h3 h4 h5 q
  show wpAny _ _ (assign (.Name x pos') X.env (.ref l)) _ _ _
  refine wpAny_bind (wpAny_standAt (wpAny_bindName (store_ok2 I' hN hxi hx (v := .ref l) rfl (fun s2 I2 ha => ?_) hfn)))
  obtain ⟨a, sb, ha⟩ := ha
  have ne : C ≠ a := by
    rcases ha with rfl | ha
    · exact h2
    · exact fun z => h4 _ _ ha z.symm
  obtain ⟨o, es, ep, e, r⟩ := hn
  refine ⟨m, ⟨o, es, ep, (sb.2 C ne).trans e, r⟩, fun h'' hs'' => wpAny_pure ⟨.ref l, H', I2.turned (t' := s2.toks) (fun b o hb e => hs''.extBut b o hb e) h1 h2 (.inr h3) h4 h5, q⟩⟩
theorem ps_use {i : Nat} {x : Str} {e : Expr} {te : TE} {pos' spos : Pos} (hN : X.N.Nodup) (hi : X.N[i]? = some x) (hx : Loc X.env.scope x) (he : PUse X e te) (hs : swapsWith e (some (.Name x pos')) spos.line X.env = pure true := by rfl) (hf : X.fn x = true \/ X.env.scope.names.lookup x = some .local := by first | exact .inl rfl | exact .inr rfl | assumption) :
    PS X (.Assign [.Name x pos'] e spos) (tAsg te (gName i)) := by
  intro pins s σ H D I h
  rw [exec_Assign_Name_used _ _ _ _ hs]
  refine wpAny_bind (wpAny_standAt (wpAny_bind (thn (he i x pos' hN hi hx hf pins s σ H _ I h) fun _ s' ⟨v, H', I', q⟩ => wpAny_pure ⟨_, H', I', q⟩)))
end
end L2
namespace P2
open PySem L2 PyProof.Rows
noncomputable abbrev bits (x : Int) : Nat := Builtin.Int.intBits x
theorem opr_or {X : Cx} {f : Value -> Value -> Sem Value} {r r' : R2} (h : OpR X f r) (h' : OpR X f r') : OpR X f (fun x y H Q => r x y H Q \/ r' x y H Q) :=
  fun pins s σ H x y v u Q I rx ry q => q.elim (h pins s σ H x y v u Q I rx ry) (h' pins s σ H x y v u Q I rx ry)
noncomputable def iB (C : Int -> Int -> Bool) (g : Int -> Int -> D) (x y : D) : R D := match x, y with
  | .int i, .int j => if C i j = true then .ok (g i j) else .bad
  | _, _ => .bad
section
variable {X : Cx} {E : XK}
theorem opd_I {op : Value -> Value -> Sem Value} {C : Int -> Int -> Prop} {Cb : Int -> Int -> Bool} {g : Int -> Int -> V} {gd : Int -> Int -> D} (ho : OpR X op (rI C g)) (hC : ∀ i j, Cb i j = true -> C i j) (hg : ∀ i j K al H, Rep K al H (g i j) (gd i j)) : OpD X E op (iB Cb gd) := by
  refine ⟨_, ho, fun al H x y dx dy Q fr rx ry h => ?_⟩
  unfold iB at h
  split at h
  · rename_i i j
    cases rx; cases ry
    split at h
    · rename_i z
      exact ⟨i, j, rfl, rfl, hC i j z, h H (.refl H) _ (hg i j _ _ _)⟩
    · exact h.elim
  · exact h.elim
theorem opd_I0 {op : Value -> Value -> Sem Value} {g : Int -> Int -> V} {gd : Int -> Int -> D} (ho : OpR X op (rI0 g)) (hg : ∀ i j K al H, Rep K al H (g i j) (gd i j)) : OpD X E op (iB (fun _ _ => true) gd) := by
  refine ⟨_, ho, fun al H x y dx dy Q fr rx ry h => ?_⟩
  unfold iB at h
  split at h
  · rename_i i j
    cases rx; cases ry
    exact ⟨i, j, rfl, rfl, h H (.refl H) _ (hg i j _ _ _)⟩
  · exact h.elim
noncomputable def subD : D -> D -> R D := iB (fun _ _ => true) fun i j => .int (i - j)
theorem op_subD : OpD X E (binaryOp .Sub) subD := opd_I0 op_sub fun _ _ _ _ _ => .int _
noncomputable def okMul (i j : Int) : Bool := decide (bits i <= 1048576) && decide (bits j <= 1048576)
noncomputable def okDiv (_ j : Int) : Bool := decide (j ≠ 0) && decide (bits j <= 9000)
noncomputable def okPow (i j : Int) : Bool := decide (0 <= j) && decide (j <= 1000000) && decide (i.natAbs < 2 ^ 64)
noncomputable def fdivD : D -> D -> R D := iB okDiv fun i j => .int (i.fdiv j)
theorem op_fdivD : OpD X E (binaryOp .FloorDiv) fdivD := opd_I op_fdivB (fun i j h => by unfold okDiv at h; simpa [CDivB] using h) fun _ _ _ _ _ => .int _
noncomputable def modD : D -> D -> R D := iB (fun _ j => decide (j ≠ 0)) fun i j => .int (i.fmod j)
theorem op_modD : OpD X E (binaryOp .Mod) modD := opd_I op_modN (fun i j h => by simpa using h) fun _ _ _ _ _ => .int _
noncomputable def powD : D -> D -> R D := iB okPow fun i j => .int (i ^ j.toNat)
theorem op_powD : OpD X E (binaryOp .Pow) powD := opd_I op_pow (fun i j h => by unfold okPow at h; simp only [Bool.and_eq_true, decide_eq_true_eq] at h; exact ⟨h.1.1, h.1.2, h.2⟩) fun _ _ _ _ _ => .int _
noncomputable def ltD : D -> D -> R D := iB (fun _ _ => true) fun i j => .bl (decide (i < j))
noncomputable def leD : D -> D -> R D := iB (fun _ _ => true) fun i j => .bl (decide (i <= j))
noncomputable def gtD : D -> D -> R D := iB (fun _ _ => true) fun i j => .bl (decide (j < i))
noncomputable def geD : D -> D -> R D := iB (fun _ _ => true) fun i j => .bl (decide (j <= i))
theorem op_ltD : OpD X E (compareOp .Lt) ltD := opd_I0 op_lt fun _ _ _ _ _ => .bl _
noncomputable def negD : D -> R D
  | .int i => .ok (.int (-i))
  | _ => .bad
noncomputable def SqF (K : W.Frag) (H : Hp) (a : Addr) (xs : List V) : Prop := Rd H a (.lst xs) \/ KL K a xs
theorem SqF.is {X : Cx} {pins : List (Addr × Obj)} {s : Shared} {σ : L2.St} {H : Hp} {a : Addr} {xs : List V} (I : Inv X pins σ H s) (h : SqF X.K H a xs) : ∃ its n, Vals xs its /\ s.heap.get? a = some { cls := .type "list", data := .seq its.toArray n } := by
  rcases h with h | ⟨its, n, h1, h2, h3⟩
  · obtain ⟨z, its, n, r, e⟩ := h.ok I.hok
    exact ⟨its, n, r, e⟩
  · exact ⟨its, n, h3, I.kIn a _ h1⟩
noncomputable def rCatR (K : W.Frag) : R2 := fun x y H Q => ∃ l b xs zs, x = .ref l /\ y = .ref b /\ SqF K H l xs /\ SqF K H b zs /\ xs.length + zs.length <= sizeLine /\ ∀ p, H p = none -> Q (.ref p) (upd H p (.lst (xs ++ zs)))
theorem op_catR : OpR X (binaryOp .Add) (rCatR X.K) := by
  intro pins s σ H x y v u Q I rx ry h
  obtain ⟨l, b, xs, zs, rfl, rfl, hH, hB, hz, q⟩ := h
  cases rx
  cases ry
  obtain ⟨its, n, r, e⟩ := hH.is I
  obtain ⟨its2, n2, r2, e2⟩ := hB.is I
  have hl := r.length
  have hl2 := r2.length
  refine PySem.P.add_list e e2 ?_ (by rw [List.size_toArray, List.size_toArray]; omega)
  have ea : its.toArray ++ its2.toArray = (its ++ its2).toArray := by simp
  rw [ea]
  exact ⟨.ref _, _, I.lnew (t' := s.toks) (r.append r2) (by rw [List.length_append]; omega), rfl, q _ I.fresh⟩
noncomputable def addD : D -> D -> R D
  | .int i, .int j => .ok (.int (i + j))
  | .str i, .str j => if i.length + j.length <= sizeLine then .ok (.str (i ++ j)) else .bad
  | .lst xs, .lst ys => if xs.length + ys.length <= sizeLine then .ok (.lst (xs ++ ys)) else .bad
  | _, _ => .bad
theorem op_addD : OpD X E (binaryOp .Add) addD := by
  refine ⟨_, opr_or op_add (opr_or op_add_str op_catR), fun al H x y dx dy Q fr rx ry h => ?_⟩
  unfold addD at h
  split at h
  · cases rx; cases ry; exact .inl ⟨_, _, rfl, rfl, h H (.refl H) _ (.int _)⟩
  · cases rx; cases ry
    split at h
    · rename_i z; exact .inr (.inl ⟨_, _, rfl, rfl, z, h H (.refl H) _ (.str _)⟩)
    · exact h.elim
  · split at h
    · rename_i z
      obtain ⟨a, vs, rfl, h1, h2⟩ := rx.lstRd
      obtain ⟨b, ws, rfl, h3, h4⟩ := ry.lstRd
      exact .inr (.inr ⟨a, b, vs, ws, rfl, rfl, h1, h3, by rw [h2.length, h4.length]; exact z, fun p hp => h _ (same_upd hp) _ ((h2.append h4).lstNew hp (fr p hp))⟩)
    · exact h.elim
  · exact h.elim
noncomputable def okMulS (x : Str) (n : Int) : Bool := !(decide (n < -(2 ^ 63 : Int)) || decide (n ≥ 2 ^ 63)) && decide (x.length * n.toNat <= 1000000) && decide (x.length <= 1000000) && decide (n <= 1000000)
theorem op_mul_str : OpR X (binaryOp .Mult) (fun x y H Q => ∃ i n, x = .str i /\ y = .int n /\ MulOk i n /\ Q (.str (Txt.mul i n)) H) := by
  intro pins s σ H x y v u Q I rx ry h
  obtain ⟨i, j, rfl, rfl, hz, q⟩ := h
  obtain ⟨t, rfl⟩ := rx
  obtain ⟨t', rfl⟩ := ry
  exact SB.mul hz fun t'' k => ⟨.str _, H, I.tok _, ⟨_, rfl⟩, q⟩
theorem mulOk_of {x : Str} {n : Int} (h : okMulS x n = true) : MulOk x n := by
  unfold okMulS at h
  simp only [Bool.and_eq_true, decide_eq_true_eq, Bool.not_eq_true'] at h
  obtain ⟨⟨⟨h1, h2⟩, h3⟩, h4⟩ := h
  refine ⟨h1, fun h5 _ => ?_, fun _ _ => ?_⟩
  · have h6 : (1 : Int) <= n := by omega
    have h7 : (1000000 : Int) <= (2 ^ 63 - 1) / n := by
      apply (Int.le_ediv_iff_mul_le (by omega)).mpr
      have : (1000000 : Int) * n <= 1000000 * 1000000 := Int.mul_le_mul_of_nonneg_left h4 (by decide)
      omega
    omega
  · have : sizeLine = 16777216 := sizeLine_eq
    unfold Builtin.Str.tooLong
    simp only [decide_eq_false_iff_not]
    omega
noncomputable def flatEq : D -> D -> Option Bool
  | .non, .non => some true
  | .int i, .int j => some (decide (i = j))
  | .str i, .str j => some (decide (i = j))
  | .bl i, .bl j => some (decide (i = j))
  | .non, .int _ => some false
  | .int _, .non => some false
  | .non, .str _ => some false
  | .str _, .non => some false
  | .non, .bl _ => some false
  | .bl _, .non => some false
  | .int _, .str _ => some false
  | .str _, .int _ => some false
  | _, _ => none
noncomputable def eqSD (x y : D) : R D := match flatEq x y with
  | some b => .ok (.bl b)
  | none => .bad
noncomputable def neSD (x y : D) : R D := match flatEq x y with
  | some b => .ok (.bl (!b))
  | none => .bad
theorem flat_eq {K : W.Frag} {al : Addr -> Prop} {H : Hp} {x y : V} {dx dy : D} {b : Bool} (rx : Rep K al H x dx) (ry : Rep K al H y dy) (h : flatEq dx dy = some b) : scal x y = true /\ decide (x = y) = b := by
  unfold flatEq at h
  split at h <;> first | (cases h; done) | (cases rx; cases ry; cases h; refine ⟨rfl, ?_⟩; simp)
theorem op_eqSD : OpD X E (compareOp .Eq) eqSD := by
  refine ⟨_, op_eq, fun al H x y dx dy Q fr rx ry h => ?_⟩
  unfold eqSD at h
  cases q : flatEq dx dy with
  | none => rw [q] at h; exact h.elim
  | some b =>
    rw [q] at h
    obtain ⟨h1, h2⟩ := flat_eq rx ry q
    exact ⟨h1, by rw [h2]; exact h H (.refl H) _ (.bl b)⟩
theorem op_neSD : OpD X E (compareOp .NotEq) neSD := by
  refine ⟨_, op_ne, fun al H x y dx dy Q fr rx ry h => ?_⟩
  unfold neSD at h
  cases q : flatEq dx dy with
  | none => rw [q] at h; exact h.elim
  | some b =>
    rw [q] at h
    obtain ⟨h1, h2⟩ := flat_eq rx ry q
    exact ⟨h1, by rw [h2]; exact h H (.refl H) _ (.bl _)⟩
noncomputable def inSD : D -> D -> R D
  | .str i, .str j => .ok (.bl (Txt.contains j i))
  | _, _ => .bad
theorem Reps.atI {K : W.Frag} {al : Addr -> Prop} {H : Hp} {vs : List V} {ds : List D} (r : Reps K al H vs ds) {i : Int} {d : D} (h : L2.atI ds i = some d) : ∃ v, L2.atI vs i = some v /\ Rep K al H v d := by
  unfold L2.atI at h ⊢
  rw [r.length]
  cases q : ixN ds.length i with
  | none => rw [q] at h; cases h
  | some j =>
    rw [q] at h
    exact r.getD h
noncomputable def ixD : D -> D -> R D
  | .lst ds, .int i => match L2.atI ds i with
    | some d => .ok d
    | none => .bad
  | .tup ds, .int i => match L2.atI ds i with
    | some d => .ok d
    | none => .bad
  | .str z, .int i => if z.length <= sizeLine then (match L2.atI z.cps.toList i with
    | some c => .ok (.str ⟨#[c]⟩)
    | none => .bad) else .bad
  | _, _ => .bad
theorem ix_D : IxD X E ixD := by
  refine ⟨_, ix_seq, fun al H x y dx dy Q fr rx ry h => ?_⟩
  unfold ixD at h
  split at h
  · rename_i ds i
    cases ry
    cases q : L2.atI ds i with
    | none => rw [q] at h; exact h.elim
    | some d =>
      rw [q] at h
      obtain ⟨a, vs, rfl, h1, h2⟩ := rx.lstIn
      obtain ⟨v, e1, e2⟩ := Reps.atI h2 q
      exact .inl ⟨a, vs, i, v, rfl, rfl, h1, e1, h H (.refl H) _ e2⟩
  · rename_i ds i
    cases ry
    cases q : L2.atI ds i with
    | none => rw [q] at h; exact h.elim
    | some d =>
      rw [q] at h
      obtain ⟨a, vs, rfl, h1, h2⟩ := rx.tupIn
      obtain ⟨v, e1, e2⟩ := Reps.atI h2 q
      exact .inr (.inl ⟨a, vs, i, v, rfl, rfl, h1, e1, h H (.refl H) _ e2⟩)
  · rename_i z i
    cases rx; cases ry
    split at h
    · rename_i hz
      cases q : L2.atI z.cps.toList i with
      | none => rw [q] at h; exact h.elim
      | some c => rw [q] at h; exact .inr (.inr ⟨z, i, c, rfl, rfl, hz, q, h H (.refl H) _ (.str _)⟩)
    · exact h.elim
  · exact h.elim
noncomputable def rSlS : V -> Option Int -> Option Int -> Hp -> VK -> Prop := fun x lo hi H Q => ∃ z, x = .str z /\ z.length <= sizeLine /\ Q (.str (Txt.slice z lo hi)) H
theorem sl_str : SlR X rSlS := by
  intro pins s σ H x v vl vu lo hi sl Q I rx hs pl pu h
  obtain ⟨z, rfl, hz, q⟩ := h
  obtain ⟨t, rfl⟩ := rx
  refine ⟨"str", _, PySem.F.slot_str_getitem.lookup, typeIs_str s z t, ?_⟩
  obtain ⟨o, h1, h2, h3⟩ := hs
  cases pl with
  | none =>
    cases pu with
    | none => exact wpAny_getItem_str_slice (l := none) (u := none) (st := none) ⟨o, h1, h2, h3⟩ rfl (post_val_or_str ⟨Nat.le_trans (Txt.slice_le z none none) hz, fun t' k => ⟨.str _, H, I.tok _, ⟨_, rfl⟩, q⟩⟩)
    | int j u => exact wpAny_getItem_str_slice (l := none) (u := some (j, u)) (st := none) ⟨o, h1, h2, h3⟩ rfl (post_val_or_str ⟨Nat.le_trans (Txt.slice_le z none (some j)) hz, fun t' k => ⟨.str _, H, I.tok _, ⟨_, rfl⟩, q⟩⟩)
  | int i ui =>
    cases pu with
    | none => exact wpAny_getItem_str_slice (l := some (i, ui)) (u := none) (st := none) ⟨o, h1, h2, h3⟩ rfl (post_val_or_str ⟨Nat.le_trans (Txt.slice_le z (some i) none) hz, fun t' k => ⟨.str _, H, I.tok _, ⟨_, rfl⟩, q⟩⟩)
    | int j u => exact wpAny_getItem_str_slice (l := some (i, ui)) (u := some (j, u)) (st := none) ⟨o, h1, h2, h3⟩ rfl (post_val_or_str ⟨Nat.le_trans (Txt.slice_le z (some i) (some j)) hz, fun t' k => ⟨.str _, H, I.tok _, ⟨_, rfl⟩, q⟩⟩)
noncomputable def cutD (xs : List D) (lo hi : Option Int) : List D := (xs.drop (HT.sIx xs.length 0 lo)).take (HT.sIx xs.length xs.length hi - HT.sIx xs.length 0 lo)
theorem Reps.cut {K : W.Frag} {al : Addr -> Prop} {H : Hp} {vs : List V} {ds : List D} (r : Reps K al H vs ds) (lo hi : Option Int) : Reps K al H (cutV vs lo hi) (cutD ds lo hi) := by
  unfold cutV cutD
  rw [r.length]
  exact (r.drop _).take _
noncomputable def slD : D -> Option Int -> Option Int -> R D
  | .lst ds, lo, hi => .ok (.lst (cutD ds lo hi))
  | .str z, lo, hi => if z.length <= sizeLine then .ok (.str (Txt.slice z lo hi)) else .bad
  | _, _, _ => .bad
theorem sl_D : SlD X E slD := by
  refine ⟨_, sl_list.or sl_str, fun al H x dx lo hi Q fr rx h => ?_⟩
  unfold slD at h
  split at h
  · obtain ⟨a, vs, rfl, h1, h2⟩ := rx.lstIn
    exact .inl ⟨a, vs, rfl, h1, fun p hp => h _ (same_upd hp) _ ((h2.cut lo hi).lstNew hp (fr p hp))⟩
  · cases rx
    split at h
    · rename_i hz; exact .inr ⟨_, rfl, hz, h H (.refl H) _ (.str _)⟩
    · exact h.elim
  · exact h.elim
noncomputable def lenD : List D -> R D
  | [.str z] => if z.length <= sizeLine then .ok (.int z.length) else .bad
  | [.lst ds] => .ok (.int ds.length)
  | [.tup ds] => .ok (.int ds.length)
  | _ => .bad
theorem Reps.one {K : W.Frag} {al : Addr -> Prop} {H : Hp} {vs : List V} {d : D} (r : Reps K al H vs [d]) : ∃ v, vs = [v] /\ Rep K al H v d := by
  cases r with
  | cons a b => cases b; exact ⟨_, rfl, a⟩
theorem Reps.two {K : W.Frag} {al : Addr -> Prop} {H : Hp} {vs : List V} {d e : D} (r : Reps K al H vs [d, e]) : ∃ v u, vs = [v, u] /\ Rep K al H v d /\ Rep K al H u e := by
  cases r with
  | cons a b => obtain ⟨u, rfl, q⟩ := Reps.one b; exact ⟨_, _, rfl, a, q⟩
theorem call_lenD : CallD X E (.builtin "len") lenD := by
  refine ⟨_, call_len_str.or call_len_seq, fun al H xs ds Q fr r h => ?_⟩
  unfold lenD at h
  split at h
  · obtain ⟨v, rfl, q⟩ := Reps.one r
    cases q
    split at h
    · rename_i hz; exact .inl ⟨_, rfl, hz, h H (.refl H) _ (.int _)⟩
    · exact h.elim
  · obtain ⟨v, rfl, q⟩ := Reps.one r
    obtain ⟨a, vs, rfl, h1, h2⟩ := q.lstIn
    exact .inr ⟨a, vs, rfl, .inl h1, by rw [h2.length]; exact h H (.refl H) _ (.int _)⟩
  · obtain ⟨v, rfl, q⟩ := Reps.one r
    obtain ⟨a, vs, rfl, h1, h2⟩ := q.tupIn
    exact .inr ⟨a, vs, rfl, .inr h1, by rw [h2.length]; exact h H (.refl H) _ (.int _)⟩
  · exact h.elim
noncomputable def absD : List D -> R D
  | [.int i] => .ok (.int (if i < 0 then -i else i))
  | _ => .bad
noncomputable def max2D : List D -> R D
  | [.int i, .int j] => .ok (.int (if j > i then j else i))
  | _ => .bad
noncomputable def intD : List D -> R D
  | [.str z] => match PySem.intText? z with
    | some n => if z.length <= 640 then .ok (.int n) else .bad
    | none => .bad
  | _ => .bad
theorem vals_bools : ∀ {bs : List Bool} {us : List Value}, Vals (bs.map V.bl) us -> us = bs.map Value.bool
  | [], _, r => by cases r; rfl
  | b :: bs, _, r => by
    cases r with
    | cons r1 r2 => cases r1; rw [vals_bools r2]; rfl
theorem all_range (bs : List Bool) : (List.range bs.length).all (fun i => bs.getD i false) = bs.all id := by
  rw [Bool.eq_iff_iff]
  simp only [List.all_eq_true, List.mem_range, id]
  constructor
  · intro h b hb
    obtain ⟨i, hi, rfl⟩ := List.getElem_of_mem hb
    have := h i hi
    rwa [List.getD_eq_getElem?_getD, List.getElem?_eq_getElem hi] at this
  · intro h i hi
    rw [List.getD_eq_getElem?_getD, List.getElem?_eq_getElem hi]
    exact h _ (List.getElem_mem hi)
theorem any_range (bs : List Bool) : (List.range bs.length).any (fun i => bs.getD i false) = bs.any id := by
  rw [Bool.eq_iff_iff]
  simp only [List.any_eq_true, List.mem_range, id]
  constructor
  · rintro ⟨i, hi, h⟩
    rw [List.getD_eq_getElem?_getD, List.getElem?_eq_getElem hi] at h
    exact ⟨_, List.getElem_mem hi, h⟩
  · rintro ⟨b, hb, h⟩
    obtain ⟨i, hi, rfl⟩ := List.getElem_of_mem hb
    exact ⟨i, hi, by rw [List.getD_eq_getElem?_getD, List.getElem?_eq_getElem hi]; exact h⟩
theorem call_all (hc : X.calm = true) : CallR X (.builtin "all") (fun xs H Q => ∃ (a : Addr) (bs : List Bool), xs = [.ref a] /\ SqL X.K H a (bs.map V.bl) /\ Q (.bl (bs.all id)) H) := by
  intro pins s σ H xs us Q I r h
  obtain ⟨a, bs, rfl, ha, q⟩ := h
  obtain ⟨u, rfl, ru⟩ := vals1 r
  cases ru
  obtain ⟨its, rv, pl, hz⟩ := I.list ha
  have ei := vals_bools rv
  subst ei
  refine call_all_walk (wpAny_pyIter_list pl.isList ?_)
  have hd : (X.A.in1).handled = none := I.ok.hd hc
  have hne : a ≠ s.heap.objs.size := Nat.ne_of_lt (by obtain ⟨o, e, _⟩ := pl.isList; exact Heap.lt_size e)
  refine ⟨s.heap.objs.size, _, _, _, _, _, fun i => bs.getD i false, rfl, Walks.list hd s.heap.objs.size a hne (bs.map Value.bool).toArray, ⟨⟨_, Heap.get?_push_size _ rfl, rfl, rfl⟩, pl.isList.at fun o e => Heap.get?_push_of_some _ e⟩, ?_, fun h' tk k => ?_⟩
  · intro i v s2 Q2 E2 hv hq
    have : v = Value.bool (bs.getD i false) := by
      simp only [List.getElem?_toArray, List.getElem?_map] at hv
      cases e : bs[i]? with
      | none => rw [e] at hv; cases hv
      | some b => rw [e] at hv; cases hv; rw [List.getD_eq_getElem?_getD, e]; rfl
    subst this
    exact wpAny_truthy_bool hq
  · refine ⟨.bl (bs.all id), H, I.kept (t' := tk) fun b o e => k b o (by simp only [List.mem_singleton]; exact Nat.ne_of_lt (Heap.lt_size e)) (Heap.get?_push_of_some _ e), ?_, q⟩
    show Value.bool _ = Value.bool _
    rw [List.size_toArray, List.length_map, all_range]
theorem call_any (hc : X.calm = true) : CallR X (.builtin "any") (fun xs H Q => ∃ (a : Addr) (bs : List Bool), xs = [.ref a] /\ SqL X.K H a (bs.map V.bl) /\ Q (.bl (bs.any id)) H) := by
  intro pins s σ H xs us Q I r h
  obtain ⟨a, bs, rfl, ha, q⟩ := h
  obtain ⟨u, rfl, ru⟩ := vals1 r
  cases ru
  obtain ⟨its, rv, pl, hz⟩ := I.list ha
  have ei := vals_bools rv
  subst ei
  refine call_any_walk (wpAny_pyIter_list pl.isList ?_)
  have hd : (X.A.in1).handled = none := I.ok.hd hc
  have hne : a ≠ s.heap.objs.size := Nat.ne_of_lt (by obtain ⟨o, e, _⟩ := pl.isList; exact Heap.lt_size e)
  refine ⟨s.heap.objs.size, _, _, _, _, _, fun i => bs.getD i false, rfl, Walks.list hd s.heap.objs.size a hne (bs.map Value.bool).toArray, ⟨⟨_, Heap.get?_push_size _ rfl, rfl, rfl⟩, pl.isList.at fun o e => Heap.get?_push_of_some _ e⟩, ?_, fun h' tk k => ?_⟩
  · intro i v s2 Q2 E2 hv hq
    have : v = Value.bool (bs.getD i false) := by
      simp only [List.getElem?_toArray, List.getElem?_map] at hv
      cases e : bs[i]? with
      | none => rw [e] at hv; cases hv
      | some b => rw [e] at hv; cases hv; rw [List.getD_eq_getElem?_getD, e]; rfl
    subst this
    exact wpAny_truthy_bool hq
  · refine ⟨.bl (bs.any id), H, I.kept (t' := tk) fun b o e => k b o (by simp only [List.mem_singleton]; exact Nat.ne_of_lt (Heap.lt_size e)) (Heap.get?_push_of_some _ e), ?_, q⟩
    show Value.bool _ = Value.bool _
    rw [List.size_toArray, List.length_map, any_range]
noncomputable def boolsD : List D -> Option (List Bool)
  | [] => some []
  | .bl b :: r => (boolsD r).map (b :: ·)
  | _ => none
theorem Reps.bools {K : W.Frag} {al : Addr -> Prop} {H : Hp} : ∀ {vs : List V} {ds : List D} {bs : List Bool}, Reps K al H vs ds -> boolsD ds = some bs -> vs = bs.map V.bl
  | _, [], bs, r, h => by cases r; cases h; rfl
  | _, .bl b :: ds, bs, r, h => by
    unfold boolsD at h
    obtain ⟨bs', h1, h2⟩ := Option.map_eq_some_iff.mp h
    subst h2
    cases r with
    | cons a q => cases a; rw [Reps.bools q h1]; rfl
  | _, .non :: _, _, _, h => by cases h
  | _, .int _ :: _, _, _, h => by cases h
  | _, .str _ :: _, _, _, h => by cases h
  | _, .ty _ :: _, _, _, h => by cases h
  | _, .ref _ :: _, _, _, h => by cases h
  | _, .tup _ :: _, _, _, h => by cases h
  | _, .lst _ :: _, _, _, h => by cases h
  | _, .exc _ _ _ :: _, _, _, h => by cases h
noncomputable def allD : List D -> R D
  | [.lst ds] => match boolsD ds with
    | some bs => .ok (.bl (bs.all id))
    | none => .bad
  | _ => .bad
noncomputable def anyD : List D -> R D
  | [.lst ds] => match boolsD ds with
    | some bs => .ok (.bl (bs.any id))
    | none => .bad
  | _ => .bad
theorem call_allD (hc : X.calm = true) : CallD X E (.builtin "all") allD := by
  refine ⟨_, call_all hc, fun al H xs ds Q fr r h => ?_⟩
  unfold allD at h
  split at h
  · rename_i ds
    obtain ⟨v, rfl, q⟩ := Reps.one r
    obtain ⟨a, vs, rfl, h1, h2⟩ := q.lstIn
    cases e : boolsD ds with
    | none => rw [e] at h; exact h.elim
    | some bs =>
      rw [e] at h
      have e2 := Reps.bools h2 e
      subst e2
      exact ⟨a, bs, rfl, h1, h H (.refl H) _ (.bl _)⟩
  · exact h.elim
theorem call_anyD (hc : X.calm = true) : CallD X E (.builtin "any") anyD := by
  refine ⟨_, call_any hc, fun al H xs ds Q fr r h => ?_⟩
  unfold anyD at h
  split at h
  · rename_i ds
    obtain ⟨v, rfl, q⟩ := Reps.one r
    obtain ⟨a, vs, rfl, h1, h2⟩ := q.lstIn
    cases e : boolsD ds with
    | none => rw [e] at h; exact h.elim
    | some bs =>
      rw [e] at h
      have e2 := Reps.bools h2 e
      subst e2
      exact ⟨a, bs, rfl, h1, h H (.refl H) _ (.bl _)⟩
  · exact h.elim
noncomputable def startsD : D -> List D -> R D
  | .str i, [.str j] => .ok (.bl (Txt.startswith i j))
  | _, _ => .bad
noncomputable def zfillD : D -> List D -> R D
  | .str z, [.int i] => if PadOk i = true then .ok (.str (Txt.zfill z i)) else .bad
  | _, _ => .bad
noncomputable def fmtD : D -> R D
  | .str z => if z.length <= sizeLine then .ok (.str z) else .bad
  | .int i => if i.natAbs.log2 < 1920 then .ok (.str (toString i)) else .bad
  | _ => .bad
noncomputable def jNil (out : Str) : Ev -> R D := fun _ => if out.length <= sizeLine then .ok (.str out) else .bad
noncomputable def jCons (a : Ev -> R D) (r : Str -> Ev -> R D) (out : Str) : Ev -> R D := fun ρ => (a ρ).bind fun x => match x with
  | .str y => if (out ++ y).length <= sizeLine then r (out ++ y) ρ else .bad
  | _ => .bad
end
end P2
namespace P2
open PySem L2 PyProof.Rows
noncomputable def wE (K : W.Frag) (E : XK) (f : Ev -> R D) : TE := fun σ H Q => ∃ P H0 al ρ, RS K P H0 al H σ ρ /\ Aft K al E H (f ρ) (fun d H' => ∀ v, Rep K al H' v d -> Q v H')
noncomputable def wT (K : W.Frag) (E : XK) (f : Ev -> R Bool) : TT := fun σ H Q => ∃ P H0 al ρ, RS K P H0 al H σ ρ /\ Aft K al E H (f ρ) Q
noncomputable def wG (K : W.Frag) (l : List Nat) (a : D -> Ev -> Option Ev) : TG := fun v σ H Q => ∃ P H0 al ρ d, RS K P H0 al H σ ρ /\ Rep K al H v d /\ ∃ ρ', a d ρ = some ρ' /\ ∀ σ', Kp l σ σ' -> RS K P H0 al H σ' ρ' -> Q σ' H
theorem DE.w {X : Cx} {E : XK} {e : Expr} {f : Ev -> R D} (h : DE X E e f) : PE X e (wE X.K E f) := by
  obtain ⟨t, p, r⟩ := h
  intro pins s σ H Q I hq
  obtain ⟨P, H0, al, ρ, s1, a⟩ := hq
  exact p pins s σ H Q I (r P H0 al H σ ρ Q s1 a)
theorem DT.w {X : Cx} {E : XK} {e : Expr} {f : Ev -> R Bool} (h : DT X E e f) : PT X e (wT X.K E f) := by
  obtain ⟨t, p, r⟩ := h
  intro pins s σ H Q I hq
  obtain ⟨P, H0, al, ρ, s1, a⟩ := hq
  exact p pins s σ H Q I (r P H0 al H σ ρ Q s1 a)
theorem DG.w {X : Cx} {tg : Expr} {l : List Nat} {a : D -> Ev -> Option Ev} (h : DG X tg l a) : PG X tg (wG X.K l a) := by
  obtain ⟨t, p, r⟩ := h
  intro pins s σ H v u Q I rv hq
  obtain ⟨P, H0, al, ρ, d, s1, rd, a⟩ := hq
  exact p pins s σ H v u Q I rv (r P H0 al H σ ρ v d Q s1 rd a)
noncomputable def DFt (X : Cx) (ifs : List Expr) (f : Ev -> R Bool) : Prop := PF X ifs (wT X.K (fun _ _ _ => False) f)
theorem df_nil {X : Cx} : DFt X [] (fun _ => .ok true) := fun pins s σ H Q I h => by
  obtain ⟨P, H0, al, ρ, s1, a⟩ := h
  exact pf_nil pins s σ H Q I (a H (.refl H))
theorem df_one {X : Cx} {c : Expr} {f : Ev -> R Bool} (h : DT X (fun _ _ _ => False) c f) : DFt X [c] f := pf_one h.w
noncomputable def capD (tn : Nat) (ci : List Nat) (ρ : Ev) : Ev := List.replicate tn .no ++ ci.map fun i => match ρ[i]? with
  | some (.sh d) => .sh d
  | _ => .no
noncomputable def okO {α : Type} : R α -> Option α
  | .ok a => some a
  | _ => none
noncomputable def ofO {α : Type} : Option α -> R α
  | some a => .ok a
  | none => .bad
noncomputable def compO (a : D -> Ev -> Option Ev) (c : Ev -> R Bool) (e : Ev -> R D) (ρ0 : Ev) : List D -> Option (List D)
  | [] => some []
  | d :: r => (a d ρ0).bind fun ρ1 => (okO (c ρ1)).bind fun b => if b = true then (okO (e ρ1)).bind fun v => (compO a c e ρ0 r).bind fun vs => some (v :: vs) else compO a c e ρ0 r
noncomputable def dComp (fi : Ev -> R (List D)) (tn : Nat) (ci : List Nat) (a : D -> Ev -> Option Ev) (c : Ev -> R Bool) (e : Ev -> R D) : Ev -> R (List D) := fun ρ => (fi ρ).bind fun ds => if ds.length <= sizeLine then ofO (compO a c e (capD tn ci ρ) ds) else .bad
theorem okO_some {α : Type} {r : R α} {a : α} (h : okO r = some a) : r = .ok a := by
  cases r with
  | ok x => cases h; rfl
  | ex _ _ _ => cases h
  | bad => cases h
theorem rs_cap {K : W.Frag} {P : Addr -> Prop} {H0 H2 : Hp} {al al' : Addr -> Prop} {σ : L2.St} {ρ : Ev} {H1 : Hp} (s : RS K P H0 al H1 σ ρ) (x : Xt al H1 al' H2) (sm : Same K H1 H2) (fr : ∀ a, H2 a = none -> al' a) (sub : ∀ a, al' a -> al a) (tn : Nat) (ci : List Nat) :
    RS K al H1 al' H2 (capS tn ci σ) (capD tn ci ρ) where
  same := sm
  tt := sm.tt s.tt
  fresh := fr
  sub := sub
  pf := s.fresh
  len := by unfold capS capD; simp
  sh := fun j d h => by
    unfold capD at h
    by_cases hj : j < tn
    · rw [List.getElem?_append_left (by simpa using hj), List.getElem?_replicate, if_pos hj] at h; cases h
    · rw [List.getElem?_append_right (by simpa using hj), List.length_replicate, List.getElem?_map] at h
      cases q : ci[j - tn]? with
      | none => rw [q] at h; cases h
      | some i =>
        rw [q] at h
        have h' : (match ρ[i]? with | some (.sh d) => Sl.sh d | _ => .no) = .sh d := Option.some.inj h
        cases z : ρ[i]? with
        | none => rw [z] at h'; cases h'
        | some y =>
          rw [z] at h'
          cases y with
          | sh e =>
            cases h'
            obtain ⟨v, e1, e2⟩ := s.sh i d z
            refine ⟨v, ?_, e2.mv x⟩
            unfold capS
            rw [List.getElem?_append_right (by simpa using hj), List.length_replicate, List.getElem?_map, q]
            show some ((σ[i]?).getD none) = _
            rw [e1]; rfl
          | no => cases h'
          | ow _ => cases h'
  ow := fun j d h => by
    unfold capD at h
    by_cases hj : j < tn
    · rw [List.getElem?_append_left (by simpa using hj), List.getElem?_replicate, if_pos hj] at h; cases h
    · rw [List.getElem?_append_right (by simpa using hj), List.length_replicate, List.getElem?_map] at h
      cases q : ci[j - tn]? with
      | none => rw [q] at h; cases h
      | some i =>
        rw [q] at h
        have h' : (match ρ[i]? with | some (.sh d) => Sl.sh d | _ => .no) = .ow d := Option.some.inj h
        split at h' <;> cases h'
  apart := fun j k d d' b h _ _ _ => by
    exfalso
    unfold capD at h
    by_cases hj : j < tn
    · rw [List.getElem?_append_left (by simpa using hj), List.getElem?_replicate, if_pos hj] at h; cases h
    · rw [List.getElem?_append_right (by simpa using hj), List.length_replicate, List.getElem?_map] at h
      cases q : ci[j - tn]? with
      | none => rw [q] at h; cases h
      | some i =>
        rw [q] at h
        have h' : (match ρ[i]? with | some (.sh d) => Sl.sh d | _ => .no) = .ow d := Option.some.inj h
        split at h' <;> cases h'
section
variable {X : Cx} {E : XK} {tg iter elt : Expr} {ifs : List Expr} {scope : Scope} {pos : Pos} {fi : Ev -> R (List D)} {a : D -> Ev -> Option Ev} {fc : Ev -> R Bool} {fe : Ev -> R D} {cl : List (Str × Addr)} {tn : Nat} {Nt Nc : List Str} {ci l : List Nat}
noncomputable def DNU (X : Cx) (E : XK) (e : Expr) (f : Ev -> R (List D)) : Prop := ∃ t : TE, PE X e t /\ PUse X e t /\
  ∀ P H0 al H σ ρ (Q : VK), RS X.K P H0 al H σ ρ -> Aft X.K al E H (f ρ) (fun ds H' => ∀ p vs, H' p = none -> Reps X.K al H' vs ds -> Q (.ref p) (upd H' p (.lst vs))) -> t σ H Q
theorem DNU.dn {X : Cx} {E : XK} {e : Expr} {f : Ev -> R (List D)} (h : DNU X E e f) : DN X E e f := let ⟨t, p, _, r⟩ := h; ⟨t, p, r⟩
theorem dnu_comp (hc : X.calm = true) (hi : DI X E tg iter fi) (hg : ∀ fp s3 H3 C, DG (X.comp scope (Nt ++ Nc) cl fp s3 H3 C) tg l a) (hl : ∀ j ∈ l, j < tn) (hf : ∀ fp s3 H3 C, DFt (X.comp scope (Nt ++ Nc) cl fp s3 H3 C) ifs fc)
    (he : ∀ fp s3 H3 C, DE (X.comp scope (Nt ++ Nc) cl fp s3 H3 C) (fun _ _ _ => False) elt fe)
    (hclos : closureFor scope X.env = pure cl) (hkind : scope.kind = .function) (hcell : ∀ y ∈ scope.names, y.2 ≠ .cell) (hnames : ∀ x ∈ scope.names, x.2 = .local -> scope.names.lookup x.1 = some .local) (hcap : Caps X cl Nc ci) (hNt : Nt.length = tn)
    (hsub : ∀ x c, cl.lookup x = some c -> X.env.cells.lookup x = some c) (hhas : ∀ x, ((relabel scope X.env).names.lookup x = some .cell \/ (relabel scope X.env).names.lookup x = some .free) -> ∃ c, cl.lookup x = some c)
    (hvis : ∀ x ∈ Nc, (relabel scope X.env).names.lookup x = some .cell \/ (relabel scope X.env).names.lookup x = some .free)
    (hs : ∀ x, foldedSetIterable iter X.env x = pure x := by intro _; rfl) : DNU X E (.ListComp elt [⟨tg, iter, ifs, 0⟩] scope pos) (dComp fi tn ci a fc fe) := by
  obtain ⟨wi, pi, ri⟩ := hi
  refine ⟨_, pe_comp (te := wE X.K (fun _ _ _ => False) fe) (tc := wT X.K (fun _ _ _ => False) fc) (g := wG X.K l a) hc pi (fun fp s3 H3 C => (hg fp s3 H3 C).w) hf (fun fp s3 H3 C => (he fp s3 H3 C).w) hclos hkind hcell hnames hcap hNt hsub hhas hvis hs, pu_comp (te := wE X.K (fun _ _ _ => False) fe) (tc := wT X.K (fun _ _ _ => False) fc) (g := wG X.K l a) hc pi (fun fp s3 H3 C => (hg fp s3 H3 C).w) hf (fun fp s3 H3 C => (he fp s3 H3 C).w) hclos hkind hcell hnames hcap hNt hsub hhas hvis hs, fun P H0 al H σ ρ Q s h => ri _ _ _ _ _ _ _ s (Aft.mono (Aft.split h) fun ds H1 s1 h1 J wk => ?_)⟩
  intro p hp
  by_cases hz : ds.length <= sizeLine
  · rw [if_pos hz] at h1
    cases q : compO a fc fe (capD tn ci ρ) ds with
    | none => rw [q] at h1; exact h1.elim
    | some out =>
      rw [q] at h1
      have s2 := s.grow s1
      let al' : Addr -> Prop := fun b => al b /\ b ≠ p
      refine ⟨fun i m H2 => ∃ done rest accv, out = done ++ rest /\ compO a fc fe (capD tn ci ρ) (ds.drop i) = some rest /\ H2 p = some (.lst accv) /\ Reps X.K al' H2 accv done /\ Same X.K H1 H2 /\ (∀ b, H2 b = none -> al' b) /\ m = ds.length - i /\ i <= ds.length /\ done.length <= i, ⟨_, [], out, [], rfl, q, upd_same, .nil, same_upd hp, fun b hb => ?_, rfl, Nat.zero_le _, Nat.le_refl _⟩, ?_⟩
      · have z : b ≠ p := fun w => by rw [w, upd_same] at hb; cases hb
        rw [upd_ne z] at hb
        exact ⟨s2.fresh b hb, z⟩
      · rintro i m H2 ⟨done, rest, accv, e1, e2, e3, e4, e5, e6, rfl, e7, e8⟩
        have x12 : Xt al H1 al' H2 := fun b o n hb w => ⟨⟨hb, ne_of_none w hp⟩, e5.at' _ _ n w⟩
        obtain ⟨w1, w2⟩ := wk al' H2 x12 e6
        by_cases hi : i < ds.length
        · right
          have ed : ds[i]? = some ds[i] := List.getElem?_eq_getElem hi
          obtain ⟨go, yl⟩ := w1 i _ ed
          refine ⟨go, fun x H3 y => ?_⟩
          obtain ⟨rfl, rx⟩ := yl x H3 y
          rw [List.drop_eq_getElem_cons hi] at e2
          unfold compO at e2
          obtain ⟨ρ1, a1, a2⟩ := Option.bind_eq_some_iff.mp e2
          obtain ⟨b, a3, a4⟩ := Option.bind_eq_some_iff.mp a2
          refine ⟨al, H1, al', capD tn ci ρ, ds[i], rs_cap s2 x12 e5 e6 (fun _ z => z.1) tn ci, rx, ρ1, a1, fun σ2 kp s3 => ⟨⟨?_, fun j hj => kp.2 j fun w => absurd (hl j w) (by omega)⟩, al, H1, al', ρ1, s3, ?_⟩⟩
          · rw [kp.1, capS_length]
          · rw [okO_some a3]
            intro H5 s5
            cases b with
            | false =>
              rw [if_neg Bool.false_ne_true] at a4 ⊢
              exact ⟨ds.length - (i + 1), by omega, done, rest, accv, e1, a4, s5.at' _ _ nt_lst e3, e4.up s5, e5.trans s5, fun b hb => e6 b (s5.free hb), rfl, hi, by omega⟩
            | true =>
              rw [if_pos rfl] at a4 ⊢
              obtain ⟨v, a5, a6⟩ := Option.bind_eq_some_iff.mp a4
              obtain ⟨vs, a7, a8⟩ := Option.bind_eq_some_iff.mp a6
              cases a8
              refine ⟨al, H1, al', ρ1, s3.grow s5, ?_⟩
              rw [okO_some a5]
              intro H6 s6 u ru
              have e36 := s6.at' _ _ nt_lst (s5.at' _ _ nt_lst e3)
              have x6 : Xt al' H6 al' (upd H6 p (.lst (accv ++ [u]))) := fun c o _ hc w => ⟨hc, by rw [upd_ne hc.2]; exact w⟩
              refine ⟨accv, e36, by rw [e4.length]; omega, ds.length - (i + 1), by omega, done ++ [v], vs, accv ++ [u], by rw [e1]; simp, a7, upd_same, ((((e4.up s5).up s6).append (.cons ru .nil)).mv x6), ?_, fun c hc => ?_, rfl, hi, by rw [List.length_append]; simp; omega⟩
              · exact ⟨fun c o n w => by
                  rw [upd_ne (ne_of_none w hp)]; exact s6.at' _ _ n (s5.at' _ _ n (e5.at' _ _ n w)), fun c w => by
                  by_cases z : c = p
                  · rw [z]; exact hp
                  · rw [upd_ne z] at w; exact e5.fr c (s5.fr c (s6.fr c w)), fun t => (s6.tt (s5.tt (e5.tt t))).upd (lst_tb e36).1 (lst_tb e36).2⟩
              · have z : c ≠ p := fun w => by rw [w, upd_same] at hc; cases hc
                rw [upd_ne z] at hc
                exact e6 c (s5.free (s6.free hc))
        · left
          have ei : i = ds.length := by omega
          rw [List.drop_eq_nil_of_le (by omega)] at e2
          cases e2
          rw [List.append_nil] at e1
          subst e1
          refine ⟨w2 i (by omega), ?_⟩
          let H' : Hp := fun b => if b = p then none else H2 b
          have hH : upd H' p (.lst accv) = H2 := by
            funext b
            by_cases z : b = p
            · subst z; rw [upd_same, e3]
            · rw [upd_ne z]; show (if b = p then none else H2 b) = _; rw [if_neg z]
          have sm : Same X.K H1 H' := ⟨fun b o n w => by
            show (if b = p then none else H2 b) = _
            rw [if_neg (ne_of_none w hp)]; exact e5.at' _ _ n w, fun b w => by
            by_cases z : b = p
            · rw [z]; exact hp
            · have w' : (if b = p then none else H2 b) = none := w
              rw [if_neg z] at w'; exact e5.fr b w', fun t => (e5.tt t).off (lst_tb e3).1 (lst_tb e3).2 fun b z => by show (if b = p then none else H2 b) = _; rw [if_neg z]⟩
          rw [← hH]
          refine h1 H' sm p accv (by show (if p = p then none else H2 p) = _; rw [if_pos rfl]) (e4.mv fun b o _ hb w => ⟨hb.1, ?_⟩)
          show (if b = p then none else H2 b) = _
          rw [if_neg hb.2]; exact w
  · rw [if_neg hz] at h1
    exact h1.elim
theorem dnu_comp0 (hc : X.calm = true) (hi : DI X E tg iter fi) (hg : ∀ fp s3 H3 C, DG (X.comp scope Nt [] fp s3 H3 C) tg l a) (hl : ∀ j ∈ l, j < tn) (hf : ∀ fp s3 H3 C, DFt (X.comp scope Nt [] fp s3 H3 C) ifs fc)
    (he : ∀ fp s3 H3 C, DE (X.comp scope Nt [] fp s3 H3 C) (fun _ _ _ => False) elt fe)
    (hfree : ∀ y ∈ scope.names, y.2 ≠ .free) (hkind : scope.kind = .function) (hcell : ∀ y ∈ scope.names, y.2 ≠ .cell) (hnames : ∀ x ∈ scope.names, x.2 = .local -> scope.names.lookup x.1 = some .local) (hNt : Nt.length = tn)
    (hs : ∀ x, foldedSetIterable iter X.env x = pure x := by intro _; rfl) : DNU X E (.ListComp elt [⟨tg, iter, ifs, 0⟩] scope pos) (dComp fi tn [] a fc fe) := by
  have e : relabel scope X.env = scope := by
    have : scope.names.map (fun (n, k) => if (k == NameKind.free && X.env.scope.kind == .function && X.env.kindOf n == some .cell) then (n, NameKind.cell) else (n, k)) = scope.names := by
      refine map_eq_self fun y hy => ?_
      obtain ⟨n, k⟩ := y
      have : (k == NameKind.free) = false := by simpa using hfree _ hy
      simp [this]
    unfold relabel
    rw [this]
  refine dnu_comp (cl := []) (Nc := []) (ci := []) hc hi (by rw [List.append_nil]; exact hg) hl (by rw [List.append_nil]; exact hf) (by rw [List.append_nil]; exact he) (closureFor_none hfree) hkind hcell hnames .nil hNt (fun x c z => nomatch z) (fun x z => ?_) (fun x z => nomatch z) hs
  rw [e] at z
  rcases z with z | z
  · exact absurd rfl (hcell _ (PySem.mem_of_lookup z))
  · exact absurd rfl (hfree _ (PySem.mem_of_lookup z))
theorem dn_comp0 (hc : X.calm = true) (hi : DI X E tg iter fi) (hg : ∀ fp s3 H3 C, DG (X.comp scope Nt [] fp s3 H3 C) tg l a) (hl : ∀ j ∈ l, j < tn) (hf : ∀ fp s3 H3 C, DFt (X.comp scope Nt [] fp s3 H3 C) ifs fc)
    (he : ∀ fp s3 H3 C, DE (X.comp scope Nt [] fp s3 H3 C) (fun _ _ _ => False) elt fe)
    (hfree : ∀ y ∈ scope.names, y.2 ≠ .free) (hkind : scope.kind = .function) (hcell : ∀ y ∈ scope.names, y.2 ≠ .cell) (hnames : ∀ x ∈ scope.names, x.2 = .local -> scope.names.lookup x.1 = some .local) (hNt : Nt.length = tn)
    (hs : ∀ x, foldedSetIterable iter X.env x = pure x := by intro _; rfl) : DN X E (.ListComp elt [⟨tg, iter, ifs, 0⟩] scope pos) (dComp fi tn [] a fc fe) := (dnu_comp0 hc hi hg hl hf he hfree hkind hcell hnames hNt hs).dn
end
noncomputable def Its (x : Str) : It := ⟨fun i _ => i < x.cps.size, fun i H v H' => H' = H /\ ∃ c, x.cps[i]? = some c /\ v = .str ⟨#[c]⟩, fun i _ => x.cps.size <= i⟩
theorem turn_ascii {P : Program} {w : World} {K : W.Frag} {tg : Expr} (x : Str) (t : Tok) (it : Addr) : Turn P w K tg (Its x) [it] it (fun i h => h.IsStrIter it "str_ascii_iterator" x t i) where
  mem := by simp
  obj := fun i h st b hb => by
    have e : b = it := by simpa using hb
    subst e
    obtain ⟨o, e, c, d⟩ := st
    exact ⟨o, e, fun v z => by rw [d] at z; cases z⟩
  keep := fun i h h' st k => let ⟨o, ho, r⟩ := st; ⟨o, k it (by simp) o ho, r⟩
  item := by
    intro X hP hw hK hcalm i pins s σ H E I hf st hg
    subst hP hw hK
    obtain ⟨f0, f1, f2, f3, f4, f5⟩ := hf it (by simp)
    have hg' : i < x.cps.size := hg
    refine wpAny_pyNext_ascii_item st (c := x.cps[i]) (by simp [hg']) fun h' st' sb => ?_
    have I1 : Inv X pins σ H { s with heap := h', toks := s.toks + 1 } := I.turned (fun b o hb e => (sb.2 b hb).trans e) f0 f1 f3 f4 f5
    obtain ⟨o, e, c, d⟩ := id st'
    exact ⟨_, rfl, go_of (s := { s with heap := h', toks := s.toks + 1 }) e c d (by decide) ⟨.str ⟨#[x.cps[i]]⟩, H, I1, ⟨_, rfl⟩, ⟨rfl, x.cps[i], by simp [hg'], rfl⟩, st', fun b hb => (hf b hb).1⟩⟩
  done := by
    intro X hP hw hK hcalm i pins s σ H E I hf st hg
    subst hP hw hK
    obtain ⟨f0, f1, f2, f3, f4, f5⟩ := hf it (by simp)
    have hg' : x.cps.size <= i := hg
    exact wpAny_pyNext_ascii_end (I.ok.hd hcalm) st (by simp [hg']) fun h' eb => ⟨rfl, I.turned (t' := s.toks) (fun b o hb e => eb b o hb e) f0 f1 f3 f4 f5⟩
  self := fun _ _ _ _ _ st h => wpAny_pyIter_striter_ascii st h
theorem turn_wide {P : Program} {w : World} {K : W.Frag} {tg : Expr} (x : Str) (t : Tok) (it : Addr) : Turn P w K tg (Its x) [it] it (fun i h => h.IsStrIter it "str_iterator" x t i) where
  mem := by simp
  obj := fun i h st b hb => by
    have e : b = it := by simpa using hb
    subst e
    obtain ⟨o, e, c, d⟩ := st
    exact ⟨o, e, fun v z => by rw [d] at z; cases z⟩
  keep := fun i h h' st k => let ⟨o, ho, r⟩ := st; ⟨o, k it (by simp) o ho, r⟩
  item := by
    intro X hP hw hK hcalm i pins s σ H E I hf st hg
    subst hP hw hK
    obtain ⟨f0, f1, f2, f3, f4, f5⟩ := hf it (by simp)
    have hg' : i < x.cps.size := hg
    refine wpAny_pyNext_wide_item st (c := x.cps[i]) (by simp [hg']) fun h' st' sb => ?_
    have I1 : Inv X pins σ H { s with heap := h', toks := s.toks + 1 } := I.turned (fun b o hb e => (sb.2 b hb).trans e) f0 f1 f3 f4 f5
    obtain ⟨o, e, c, d⟩ := id st'
    exact ⟨_, rfl, go_of (s := { s with heap := h', toks := s.toks + 1 }) e c d (by decide) ⟨.str ⟨#[x.cps[i]]⟩, H, I1, ⟨_, rfl⟩, ⟨rfl, x.cps[i], by simp [hg'], rfl⟩, st', fun b hb => (hf b hb).1⟩⟩
  done := by
    intro X hP hw hK hcalm i pins s σ H E I hf st hg
    subst hP hw hK
    obtain ⟨f0, f1, f2, f3, f4, f5⟩ := hf it (by simp)
    have hg' : x.cps.size <= i := hg
    exact wpAny_pyNext_wide_end (I.ok.hd hcalm) st (by simp [hg']) fun h' eb => ⟨rfl, I.turned (t' := s.toks) (fun b o hb e => eb b o hb e) f0 f1 f3 f4 f5⟩
  self := fun _ _ _ _ _ st h => wpAny_pyIter_striter_wide st h
section
variable {X : Cx} {E : XK} {tg e : Expr} {f : Ev -> R D}
noncomputable def iStr (tl : TE) : TI := fun σ H R => tl σ H fun x H1 => ∃ z, x = .str z /\ R (Its z) H1
theorem pi_str {l : Expr} {tl : TE} (hl : PE X l tl) : PI X tg l (iStr tl) := by
  intro pins s σ H R I h
  refine thn (hl pins s σ H _ I h) fun v s1 ⟨x, H1, I1, r1, q1⟩ => ?_
  obtain ⟨z, e, q⟩ := q1
  subst e
  obtain ⟨t, rfl⟩ := r1
  have fp : ∀ b ∈ [s1.heap.objs.size], FpOk X pins H1 b := fun b hb => by
    have e : b = s1.heap.objs.size := by simpa using hb
    subst e
    exact I1.fpOk (Nat.le_refl _) (I1.hok.fresh (Nat.le_refl _))
  cases ha : z.cps.all (· < 128) with
  | true =>
    refine wpAny_pyIter_ascii ha ?_
    exact ⟨s1.heap.objs.size, [s1.heap.objs.size], _, _, H1, rfl, I1.kept (t' := s1.toks) fun b o e => Heap.get?_push_of_some _ e, turn_ascii z t _, ⟨_, Heap.get?_push_size _ rfl, rfl, rfl⟩, fp, q⟩
  | false =>
    refine wpAny_pyIter_wide ha ?_
    exact ⟨s1.heap.objs.size, [s1.heap.objs.size], _, _, H1, rfl, I1.kept (t' := s1.toks) fun b o e => Heap.get?_push_of_some _ e, turn_wide z t _, ⟨_, Heap.get?_push_size _ rfl, rfl, rfl⟩, fp, q⟩
noncomputable def signs (z : Str) : List D := z.cps.toList.map fun c => .str ⟨#[c]⟩
theorem wk_str {K : W.Frag} {al : Addr -> Prop} {H : Hp} {z : Str} : Wk K al H (Its z) (signs z) := by
  intro al' H' x fr
  refine ⟨fun i d h => ?_, fun i h => ?_⟩
  · unfold signs at h
    rw [List.getElem?_map, Array.getElem?_toList] at h
    cases q : z.cps[i]? with
    | none => rw [q] at h; cases h
    | some c =>
      rw [q] at h; cases h
      refine ⟨(Array.getElem?_eq_some_iff.mp q).1, fun y H'' w => ⟨w.1, ?_⟩⟩
      obtain ⟨c', e1, e2⟩ := w.2
      rw [q] at e1; cases e1
      subst e2
      exact .str _
  · unfold signs at h
    show z.cps.size <= i
    simpa using h
noncomputable def asI (d : D) : R (List D) := match d with
  | .lst ds => .ok ds
  | .tup ds => .ok ds
  | .str z => .ok (signs z)
  | _ => .bad
theorem di_any (he : DE X E e f) : DI X E tg e (fun ρ => (f ρ).bind asI) := by
  obtain ⟨t, p, r⟩ := he
  refine ⟨_, pi_or (pi_list p) (pi_or (pi_tup p) (pi_str p)), fun P H0 al H σ ρ R s h => ?_⟩
  dsimp only at h
  cases q : f ρ with
  | bad => rw [q] at h; exact h.elim
  | ex c ns ds => rw [q] at h; exact .inl (r _ _ _ _ _ _ _ s (by rw [q]; exact h))
  | ok d =>
    rw [q] at h
    cases d with
    | lst ds =>
      left
      refine r _ _ _ _ _ _ _ s ?_
      rw [q]
      intro H1 s1 v rv
      obtain ⟨a, vs, e1, e2, e3⟩ := rv.lstIn
      subst e1
      exact ⟨a, rfl, ⟨vs, e2⟩, h H1 s1 _ (wk_list rv)⟩
    | tup ds =>
      right; left
      refine r _ _ _ _ _ _ _ s ?_
      rw [q]
      intro H1 s1 v rv
      obtain ⟨a, vs, e1, e2, e3⟩ := rv.tupIn
      subst e1
      exact ⟨a, rfl, ⟨vs, e2⟩, h H1 s1 _ (wk_tup rv)⟩
    | str z =>
      right; right
      refine r _ _ _ _ _ _ _ s ?_
      rw [q]
      intro H1 s1 v rv
      cases rv
      exact ⟨z, rfl, h H1 s1 _ wk_str⟩
    | _ => exact (h : False).elim
end
noncomputable def tyName : D -> Option String
  | .non => some "NoneType"
  | .bl _ => some "bool"
  | .int _ => some "int"
  | .str _ => some "str"
  | .lst _ => some "list"
  | .tup _ => some "tuple"
  | _ => none
noncomputable def knowT : List String := ["NoneType", "bool", "int", "str", "list", "tuple"]
theorem kit_all (K : W.Frag) : ∀ T ∈ knowT, ∀ n ∈ knowT, W.kitOne K (.type T) (.type n) = some (T == n || (T == "bool" && n == "int")) := by
  intro T hT n hn
  simp only [knowT, List.mem_cons, List.not_mem_nil, or_false] at hT hn
  rcases hT with rfl | rfl | rfl | rfl | rfl | rfl <;> rcases hn with rfl | rfl | rfl | rfl | rfl | rfl <;> first | rfl | kernel_rfl
noncomputable def isD : List D -> R D
  | [d, .ty n] => match tyName d with
    | some T => if knowT.contains n then .ok (.bl (T == n || (T == "bool" && n == "int"))) else .bad
    | none => .bad
  | _ => .bad
section
variable {X : Cx} {E : XK}
noncomputable def rIsD (X : Cx) : List V -> Hp -> VK -> Prop := fun xs H Q => ∃ x n T, xs = [x, .ty n] /\ knowT.contains T = true /\ knowT.contains n = true /\
  ((x = .non /\ T = "NoneType") \/ (∃ b, x = .bl b /\ T = "bool") \/ (∃ i, x = .int i /\ T = "int") \/ (∃ z, x = .str z /\ T = "str") \/ (∃ a vs, x = .ref a /\ SqL X.K H a vs /\ T = "list") \/ (∃ a vs, x = .ref a /\ SqT X.K H a vs /\ T = "tuple")) /\ Q (.bl (T == n || (T == "bool" && n == "int"))) H
theorem call_isD : CallR X (.builtin "isinstance") (rIsD X) := by
  intro pins s σ H xs us Q I r h
  obtain ⟨x, n, T, rfl, kT, kn, hx, q⟩ := h
  obtain ⟨u, c, rfl, ru, rc⟩ := vals2 r
  cases rc
  have e := kit_all X.K T (by simpa using kT) n (by simpa using kn)
  have fin : ∀ tk, EP X pins σ Q (.bool (T == n || (T == "bool" && n == "int"))) { s with toks := tk } := fun tk => ⟨.bl _, H, I.tok tk, rfl, q⟩
  rcases hx with ⟨rfl, rfl⟩ | ⟨b, rfl, rfl⟩ | ⟨i, rfl, rfl⟩ | ⟨z, rfl, rfl⟩ | ⟨a, vs, rfl, ha, rfl⟩ | ⟨a, vs, rfl, ha, rfl⟩
  · cases ru; exact W.kia_one W.kitx_none I.kIn True.intro e (fun z => nomatch z) fin
  · cases ru; exact W.kia_one W.kitx_bool I.kIn True.intro e (fun z => nomatch z) fin
  · obtain ⟨t, rfl⟩ := ru; exact W.kia_one W.kitx_int I.kIn True.intro e (fun z => nomatch z) fin
  · obtain ⟨t, rfl⟩ := ru; exact W.kia_one W.kitx_str I.kIn True.intro e (fun z => nomatch z) fin
  · cases ru
    obtain ⟨its, _, pl, _⟩ := I.list ha
    obtain ⟨o, k, e1, e2, _⟩ := pl
    exact W.kia_one W.kitx_list I.kIn ⟨o, e1, e2⟩ e (fun z => nomatch z) fin
  · cases ru
    obtain ⟨its, _, pl, _⟩ := I.tuple ha
    obtain ⟨o, e1, e2, _⟩ := pl
    exact W.kia_one W.kitx_tuple I.kIn ⟨o, e1, e2⟩ e (fun z => nomatch z) fin
theorem call_isinstD : CallD X E (.builtin "isinstance") isD := by
  refine ⟨_, call_isD, fun al H xs ds Q fr r h => ?_⟩
  unfold isD at h
  split at h
  · rename_i d n
    obtain ⟨v, u, rfl, q, q2⟩ := Reps.two r
    cases q2
    cases e : tyName d with
    | none => rw [e] at h; exact h.elim
    | some T =>
      rw [e] at h
      dsimp only at h
      split at h
      · rename_i hn
        have hq := h H (.refl H) _ (.bl _)
        cases q with
        | non => cases e; exact ⟨_, n, _, rfl, rfl, hn, .inl ⟨rfl, rfl⟩, hq⟩
        | bl b => cases e; exact ⟨_, n, _, rfl, rfl, hn, .inr (.inl ⟨b, rfl, rfl⟩), hq⟩
        | int b => cases e; exact ⟨_, n, _, rfl, rfl, hn, .inr (.inr (.inl ⟨b, rfl, rfl⟩)), hq⟩
        | str b => cases e; exact ⟨_, n, _, rfl, rfl, hn, .inr (.inr (.inr (.inl ⟨b, rfl, rfl⟩))), hq⟩
        | lst p _ => cases e; exact ⟨_, n, _, rfl, rfl, hn, .inr (.inr (.inr (.inr (.inl ⟨_, _, rfl, p.elim (fun z => .inl z.2) KL.sq, rfl⟩)))), hq⟩
        | tup p _ => cases e; exact ⟨_, n, _, rfl, rfl, hn, .inr (.inr (.inr (.inr (.inr ⟨_, _, rfl, p.elim (fun z => .inl z.2) .inr, rfl⟩)))), hq⟩
        | _ => cases e
      · exact h.elim
  · exact h.elim
end
end P2
namespace P2
open PySem L2 PyProof.Rows
theorem bt_isinstance : bootBuiltins "isinstance" = some (.builtin "isinstance") := by decide +kernel
theorem bt_len : bootBuiltins "len" = some (.builtin "len") := by decide +kernel
theorem bt_all : bootBuiltins "all" = some (.builtin "all") := by decide +kernel
theorem bt_any : bootBuiltins "any" = some (.builtin "any") := by decide +kernel
theorem bt_int : bootBuiltins "int" = some (.type "int") := by decide +kernel
theorem bt_bool : bootBuiltins "bool" = some (.type "bool") := by decide +kernel
theorem bt_tuple : bootBuiltins "tuple" = some (.type "tuple") := by decide +kernel
theorem bt_list : bootBuiltins "list" = some (.type "list") := by decide +kernel
section
variable {X : Cx} {E : XK} {x : Str} {pos : Pos}
inductive GlV (mg : Str -> Option Value) (x : Str) : D -> Prop
  | int {i : Int} {t : Tok} : mg x = some (.int i t) -> GlV mg x (.int i)
  | str {z : Str} {t : Tok} : mg x = some (.str z t) -> GlV mg x (.str z)
end
section
variable {P : Program} {w : World} {K : W.Frag} {mg : Str -> Option Value} {base : Heap}
end
end P2
namespace Fx
open PySem
section
variable {prog : Program} {w : World} {A : Around} {E : Value -> Shared -> Prop} {h : Heap} {g : Array GenState} {d : Drawn} {t : Nat} {os : OsState}
variable {nm q : Str} {C N : Addr} {bs bm bmB : List Value} {hdct : Bool} {sn : List Str} {sub : List Value} {ab : Bool} {col : Option Bool} {dd : Option Addr} {k0 k1 k2 k3 k5 : Option Value} {newId : String}
theorem class_get_exc {x : Addr} {o : Obj} {R : Result -> Shared -> Prop} (hC : h.get? C = some (excClassObj nm q C N bs bm hdct sn sub ab col dd k0 k1 k2 k3 k5 newId)) (hob : bm.contains (.type "object") = true)
    (hx : h.get? x = some o) (hc : o.cls = .ref C) (hq : R (.ok (.ret (.ref C))) ⟨h, g, d, t, os⟩) :
    codeAny (model prog w) A (.call (.builtin "getset_descriptor.__get__") ⟨[.builtin "object.__class__", .ref x, .ref C], []⟩) R ⟨h, g, d, t, os⟩ := by
  have hT5 : (⟨h, g, d, t, os⟩ : Shared).TypeIs (.builtin "object.__class__") "getset_descriptor" := PySem.F.typeOf_object_class
  have ow : ".".intercalate ("object.__class__".cutAt '.').dropLast = "object" := by decide +kernel
  have hcB : (Value.ref C :: bm).contains (.type (".".intercalate ("object.__class__".cutAt '.').dropLast)) = true := by rw [ow, List.contains_cons, hob, Bool.or_true]
  refine codeAny_call_builtin PySem.F.slot_gs_get.plain PySem.F.entry_gs_get (PySem.F.slot_gs_get.check _ _ _ _ _ _ _ _ hT5 (PySem.F.args_gs_get _ _ _) ?_)
  repeat (any_goals (first | assumption | (with_reducible refine wpAny_loadPart_at hx ?_; rw [hc]) | (with_reducible refine wpAny_isSubtype_exc hC ?_; rw [hcB]) | wp_step))
  refine ⟨Code.quiet_builtin _ (by decide +kernel), codeAny_builtin PySem.F.entry_object_class ?_⟩
  repeat (any_goals (first | assumption | (with_reducible refine wpAny_loadPart_at hx ?_; rw [hc]) | wp_step))
theorem class_entry_exc {x : Addr} {o : Obj} {tk : Tok} {Q : Fin -> Shared -> Prop} (hC : h.get? C = some (excClassObj nm q C N bs bm hdct sn sub ab col dd k0 k1 k2 k3 k5 newId)) (hob : bm.contains (.type "object") = true)
    (l3 : Tlk h C "__class__" (some (.builtin "object.__class__"))) (hx : h.get? x = some o) (hc : o.cls = .ref C) (hq : Q (.done (.ret (.ref C))) ⟨h, g, d, t, os⟩) :
    wpAny (model prog w) A (Builtin.«object.__getattribute__» ⟨[.ref x, .str "__class__" tk], []⟩) Q E ⟨h, g, d, t, os⟩ := by
  have hT5 : (⟨h, g, d, t, os⟩ : Shared).TypeIs (.builtin "object.__class__") "getset_descriptor" := PySem.F.typeOf_object_class
  have f5 := PySem.F.typeOf_object_class
  have f6 := PySem.F.slot_gs_get.lookup
  have f7 := PySem.F.slot_gs_set.lookup
  repeat (any_goals (first | assumption | (with_reducible refine wpAny_loadPart_at hx ?_; rw [hc]) | with_reducible refine l3 _ _ _ _ _ _ _ _ ?_ | wp_step))
  refine class_get_exc hC hob hx hc ?_
  repeat (any_goals (first | assumption | wp_step))
theorem check_ga_excH {M : Model} {x : Addr} {o : Obj} {nv : Value} {Q : Unit -> Shared -> Prop} (hC : h.get? C = some (excClassObj nm q C N bs bm hdct sn sub ab col dd k0 k1 k2 k3 k5 newId))
    (hob : bm.contains (.type "BaseException") = true) (hx : h.get? x = some o) (hc : o.cls = .ref C) (hq : Q () ⟨h, g, d, t, os⟩) : wpAny M A (checkBuiltinCall "BaseException.__getattribute__" ⟨[.ref x, nv], []⟩) Q E ⟨h, g, d, t, os⟩ := by
  have hk : builtinKind "BaseException.__getattribute__" = some .slot := by decide +kernel
  have hsp : splitId "BaseException.__getattribute__" = some ("BaseException", "__getattribute__") := by decide +kernel
  have hcB : (Value.ref C :: bm).contains (.type "BaseException") = true := by rw [List.contains_cons, hob, Bool.or_true]
  have ha := PySem.F.args_bexc_ga (.ref x) nv
  simp only [checkBuiltinCall, hk, hsp]
  refine wpAny_bind ?_
  unfold isInstance
  repeat (first | (with_reducible refine wpAny_loadPart_at hx ?_; rw [hc]) | (with_reducible refine wpAny_isSubtype_exc hC ?_; rw [hcB]) | wp_step)
  exact hq
theorem class_by_exc {x : Addr} {o : Obj} {tk : Tok} {Q : Value -> Shared -> Prop} (hC : h.get? C = some (excClassObj nm q C N bs bm hdct sn sub ab col dd k0 k1 k2 k3 k5 newId)) (hb : bm.contains (.type "BaseException") = true) (hob : bm.contains (.type "object") = true)
    (l1 : Tlk h C "__getattribute__" (some (.builtin "BaseException.__getattribute__"))) (l2 : Tlk h C "__getattr__" none) (l3 : Tlk h C "__class__" (some (.builtin "object.__class__"))) (hx : h.get? x = some o) (hc : o.cls = .ref C) (hq : Q (.ref C) ⟨h, g, d, t, os⟩) :
    wpAny (model prog w) A (getAttrBy (.ref x) (.str "__class__" tk) false) Q E ⟨h, g, d, t, os⟩ := by
  have FB := PySem.F.attr_ValueError
  have f3 := FB.ga.bind (.ref x)
  have z2 : (Value.builtin "BaseException.__getattribute__" == Value.builtin "object.__getattribute__") = false := by decide +kernel
  have z1 : (onTheHeap (Value.ref C) && Value.builtin "BaseException.__getattribute__" == Value.builtin "object.__getattribute__") = false := by rw [z2]; rfl
  repeat (any_goals (first | assumption | (with_reducible refine wpAny_loadPart_at hx ?_; rw [hc]) | with_reducible refine l1 _ _ _ _ _ _ _ _ ?_ | with_reducible refine l2 _ _ _ _ _ _ _ _ ?_ | wp_step))
  refine codeAny_call_builtin FB.ga.plain PySem.F.entry_bexc_ga (check_ga_excH hC hb hx hc (class_entry_exc hC hob l3 hx hc ?_))
  repeat (any_goals (first | assumption | wp_step))
theorem class_attr_exc {x : Addr} {o : Obj} {Q : Option Value -> Shared -> Prop} (hC : h.get? C = some (excClassObj nm q C N bs bm hdct sn sub ab col dd k0 k1 k2 k3 k5 newId)) (hb : bm.contains (.type "BaseException") = true) (hob : bm.contains (.type "object") = true)
    (l1 : Tlk h C "__getattribute__" (some (.builtin "BaseException.__getattribute__"))) (l2 : Tlk h C "__getattr__" none) (l3 : Tlk h C "__class__" (some (.builtin "object.__class__"))) (hx : h.get? x = some o) (hc : o.cls = .ref C) (hq : Q (some (.ref C)) ⟨h, g, d, t + 1, os⟩) :
    wpAny (model prog w) A (getAttr? (.ref x) "__class__") Q E ⟨h, g, d, t, os⟩ := by
  unfold getAttr? getAttrBy?
  repeat (any_goals (first | assumption | with_reducible apply class_by_exc hC hb hob l1 l2 l3 hx hc | wp_step))
end
end Fx
namespace L2
open PySem PySem.Spec PyProof.Rows
structure YCls (K : PySem.W.Frag) (C : Addr) : Prop where
  ob : ∀ h : Heap, K.In h -> ∃ nm q N bs bm hdct sn sub ab col dd k0 k1 k2 k3 k5 newId, h.get? C = some (excClassObj nm q C N bs bm hdct sn sub ab col dd k0 k1 k2 k3 k5 newId) /\ bm.contains (.type "BaseException") = true /\ bm.contains (.type "object") = true
  ga : PySem.W.findIn K (.ref C) "__getattribute__" = some (some (.builtin "BaseException.__getattribute__"))
  gn : PySem.W.findIn K (.ref C) "__getattr__" = some none
  cl : PySem.W.findIn K (.ref C) "__class__" = some (some (.builtin "object.__class__"))
structure ZCls (K : PySem.W.Frag) (C : Addr) : Prop where
  cls : PySem.W.excIn K C [.type "ValueError", .type "Exception", .type "BaseException", .type "object"] "ValueError.__new__" = true
  kp : PySem.W.keepIn K (.ref C) = true
  ga : PySem.W.findIn K (.ref C) "__getattribute__" = some (some (.builtin "BaseException.__getattribute__"))
  gn : PySem.W.findIn K (.ref C) "__getattr__" = some none
  cl : PySem.W.findIn K (.ref C) "__class__" = some (some (.builtin "object.__class__"))
theorem kitx_exc {K : PySem.W.Frag} {x C : Addr} (c : YCls K C) : PySem.W.KitX K (.ref x) (.ref C) (fun h => ∃ o, h.get? x = some o /\ o.cls = .ref C) where
  ty := fun M h k p => by
    obtain ⟨o, h1, h2⟩ := p
    exact h2 ▸ (PySem.W.Looks.ld h1).andThen .now
  it := fun M h k p => by
    obtain ⟨nm, q, N, bs, bm, hdct, sn, sub, ab, col, dd, k0, k1, k2, k3, k5, ni, hC, _⟩ := c.ob h k
    intro A' Q' E' s' k' q'
    unfold isType loadHead
    exact wpAny_bind (wpAny_loadPart (k' _ _ hC) (wpAny_pure q'))
  ne := fun h tp dd its n sl k htp => by
    obtain ⟨nm, q, N, bs, bm, hdct, sn, sub, ab, col, dd', k0, k1, k2, k3, k5, ni, hC, _⟩ := c.ob h k
    refine Bool.eq_false_iff.mpr fun z => ?_
    have e : C = tp := Value.ref.inj (beq_iff_eq.mp z)
    subst e
    have z := congrArg Obj.cls (Option.some.inj (hC.symm.trans htp))
    have z2 : Value.type "type" = Value.type "tuple" := z
    exact absurd (Value.type.inj z2) (by decide)
  ca := fun {prog w A E Q s} k p hq => by
    obtain ⟨o, h1, h2⟩ := p
    obtain ⟨nm, q, N, bs, bm, hdct, sn, sub, ab, col, dd', k0, k1, k2, k3, k5, ni, hC, e1, e2⟩ := c.ob _ k
    obtain ⟨h, g, d, t, os⟩ := s
    exact Fx.class_attr_exc hC e1 e2 (tlk_of k c.ga) (tlk_of k c.gn) (tlk_of k c.cl) h1 h2 hq
section
variable {X : Cx}
theorem call_isX : CallR X (.builtin "isinstance") (fun xs H Q => ∃ a c d cv u b, xs = [.ref a, cv] /\ H a = some (excX a c d) /\ YCls X.K c /\ (∀ z, RelV cv z -> z = u) /\ PySem.W.kitOne X.K (.ref c) u = some b /\ Q (.bl b) H) := by
  intro pins s σ H xs us Q I r h
  obtain ⟨a, c, d, cv, u, b, rfl, ha, yc, un, e, q⟩ := h
  obtain ⟨u1, u2, rfl, r1, r2⟩ := vals2 r
  cases un u2 r2
  cases r1
  obtain ⟨⟨oe, vs, h1, h2, h3, h4⟩, _, _⟩ := I.hok a _ ha
  exact PySem.W.kia_one (kitx_exc yc) I.kIn ⟨oe, h1, h2⟩ e (fun z => nomatch z) fun tk => ⟨.bl b, H, I.tok tk, rfl, q⟩
end
end L2
namespace P2
open PySem L2 PySem.Spec
open PyProof.Rows hiding St
section
variable {X : Cx} {E : XK} {x : Str} {pos : Pos}
theorem callr_or {f : Value} {r r' : List V -> Hp -> VK -> Prop} (h : CallR X f r) (h' : CallR X f r') : CallR X f (fun xs H Q => r xs H Q \/ r' xs H Q) :=
  fun pins s σ H xs us Q I rx q => q.elim (h pins s σ H xs us Q I rx) (h' pins s σ H xs us Q I rx)
noncomputable def clsU : D -> Option Value
  | .ref C => some (.ref C)
  | .ty T => some (.type T)
  | _ => none
noncomputable def isXD (q : Addr -> Value -> Option Bool) (ds : List D) : R D := match ds with
  | [.exc c _ _, d] => (match (clsU d).bind (q c) with
    | some b => .ok (.bl b)
    | none => .bad)
  | ds => isD ds
noncomputable def IsOk (K : W.Frag) (q : Addr -> Value -> Option Bool) : Prop := ∀ c u b, q c u = some b -> YCls K c /\ W.kitOne K (.ref c) u = some b
theorem call_isXD {q : Addr -> Value -> Option Bool} (hI : IsOk X.K q) : CallD X E (.builtin "isinstance") (isXD q) := by
  obtain ⟨r0, c0, d0⟩ := call_isinstD (X := X) (E := E)
  refine ⟨_, callr_or call_isX c0, fun al H xs ds Q fr r h => ?_⟩
  unfold isXD at h
  split at h
  · rename_i c ns es d
    obtain ⟨v, u, rfl, p, p2⟩ := Reps.two r
    left
    cases z : (clsU d).bind (q c) with
    | none => rw [z] at h; exact h.elim
    | some b =>
      rw [z] at h
      have hq := h H (.refl H) _ (.bl _)
      obtain ⟨w, z1, z2⟩ := Option.bind_eq_some_iff.mp z
      obtain ⟨yc, kk⟩ := hI _ _ _ z2
      have ha : ∃ a dx, v = .ref a /\ H a = some (excX a c dx) := by
        cases p with
        | exc p1 p2 p3 p4 p5 => exact ⟨_, _, rfl, p2⟩
        | exc0 p1 p2 => exact ⟨_, _, rfl, p2⟩
      obtain ⟨a, dx, rfl, ha⟩ := ha
      refine ⟨a, c, dx, u, w, b, rfl, ha, yc, fun y hy => ?_, kk, hq⟩
      cases p2 with
      | ref C => cases z1; exact hy
      | ty T => cases z1; exact hy
      | _ => cases z1
  · exact .inr (d0 al H xs ds Q fr r h)
mutual
noncomputable def pyD : D -> Option PyData
  | .non => some .none
  | .bl b => some (.bool b)
  | .int i => some (.int i)
  | .str z => some (.str z)
  | .tup ds => (pyDs ds).map .tuple
  | .lst ds => (pyDs ds).map .list
  | _ => none
noncomputable def pyDs : List D -> Option (List PyData)
  | [] => some []
  | d :: ds => (pyD d).bind fun p => (pyDs ds).map (p :: ·)
end
mutual
theorem rep_reads {pins : List (Addr × Obj)} {σ : L2.St} {H : Hp} {s : Shared} (I : Inv X pins σ H s) {al : Addr -> Prop} : ∀ {v : V} {d : D} {u : Value} {p : PyData}, Rep X.K al H v d -> RelV v u -> pyD d = some p -> ∃ as, Reads s.heap u p as
  | _, _, _, _, .non, r, e => by cases r; cases e; exact ⟨_, .none⟩
  | _, _, _, _, .bl b, r, e => by cases r; cases e; exact ⟨_, .bool _⟩
  | _, _, _, _, .int b, r, e => by obtain ⟨t, rfl⟩ := r; cases e; exact ⟨_, .int _ _⟩
  | _, _, _, _, .str b, r, e => by obtain ⟨t, rfl⟩ := r; cases e; exact ⟨_, .str _ _⟩
  | _, _, _, _, .ty b, r, e => by cases e
  | _, _, _, _, .ref b, r, e => by cases e
  | _, _, _, _, .tup (vs := vs) z q, r, e => by
    cases r
    have e' : (pyDs _).map PyData.tuple = some _ := e
    obtain ⟨ps, e1, rfl⟩ := Option.map_eq_some_iff.mp e'
    have z' : SqT X.K H _ vs := z.elim (fun z => .inl z.2) .inr
    obtain ⟨its, rv, ⟨o, h1, h2, n, h3⟩, _⟩ := I.tuple z'
    obtain ⟨as, w⟩ := reps_reads I q rv e1
    exact ⟨as, reads_tuple_at h1 h2 h3 (by simpa using w)⟩
  | _, _, _, _, .lst (vs := vs) z q, r, e => by
    cases r
    have e' : (pyDs _).map PyData.list = some _ := e
    obtain ⟨ps, e1, rfl⟩ := Option.map_eq_some_iff.mp e'
    have z' : SqL X.K H _ vs := z.elim (fun z => .inl z.2) KL.sq
    obtain ⟨its, rv, ⟨o, n, h1, h2, h3, h4⟩, _⟩ := I.list z'
    obtain ⟨as, w⟩ := reps_reads I q rv e1
    exact ⟨_, reads_list_at h1 h2 h4 (by simpa using w)⟩
  | _, _, _, _, .exc _ _ _ _ _, r, e => by cases e
  | _, _, _, _, .exc0 _ _, r, e => by cases e
theorem reps_reads {pins : List (Addr × Obj)} {σ : L2.St} {H : Hp} {s : Shared} (I : Inv X pins σ H s) {al : Addr -> Prop} : ∀ {vs : List V} {ds : List D} {us : List Value} {ps : List PyData}, Reps X.K al H vs ds -> Vals vs us -> pyDs ds = some ps -> ∃ as, ReadsAll s.heap us ps as
  | _, _, _, _, .nil, r, e => by cases r; cases e; exact ⟨_, .nil⟩
  | _, _, _, _, .cons p q, r, e => by
    cases r with
    | cons r1 r2 =>
      obtain ⟨p1, e1, e2⟩ := Option.bind_eq_some_iff.mp e
      obtain ⟨ps, e3, rfl⟩ := Option.map_eq_some_iff.mp e2
      obtain ⟨as, w1⟩ := rep_reads I p r1 e1
      obtain ⟨bs, w2⟩ := reps_reads I q r2 e3
      exact ⟨_, .cons w1 w2⟩
end
noncomputable def eqvD (a b : D) : Option Bool := (pyD a).bind fun p => (pyD b).bind fun q => if (SeqAt.shaped p && SeqAt.shaped q) = true then some (PyData.eqv p q) else none
noncomputable def neDD (a b : D) : R D := match eqvD a b with
  | some r => .ok (.bl (!r))
  | none => .bad
theorem eqv_of {pins : List (Addr × Obj)} {σ : L2.St} {H : Hp} {s : Shared} (I : Inv X pins σ H s) {al : Addr -> Prop} {x y : V} {a b : D} {u v : Value} {r : Bool} (ra : Rep X.K al H x a) (rb : Rep X.K al H y b) (rx : RelV x u) (ry : RelV y v) (e : eqvD a b = some r) :
    ∃ p q as bs, Reads s.heap u p as /\ Reads s.heap v q bs /\ SeqAt.shaped p = true /\ SeqAt.shaped q = true /\ PyData.eqv p q = r := by
  obtain ⟨p, e1, e2⟩ := Option.bind_eq_some_iff.mp e
  obtain ⟨q, e3, e4⟩ := Option.bind_eq_some_iff.mp e2
  split at e4
  · rename_i z
    rw [Bool.and_eq_true] at z
    obtain ⟨as, w1⟩ := rep_reads I ra rx e1
    obtain ⟨bs, w2⟩ := rep_reads I rb ry e3
    exact ⟨p, q, as, bs, w1, w2, z.1, z.2, Option.some.inj e4⟩
  · cases e4
theorem op_neDD (hu : X.A.units + 64 < cLine) : OpD X E (compareOp .NotEq) neDD := by
  refine ⟨fun x y H Q => ∃ al a b r, Rep X.K al H x a /\ Rep X.K al H y b /\ eqvD a b = some r /\ Q (.bl (!r)) H, fun pins s σ H x y v u Q I rx ry h => ?_, fun al H x y dx dy Q fr rx ry h => ?_⟩
  · obtain ⟨al, a, b, r, h1, h2, h3, h4⟩ := h
    obtain ⟨p, q, as, bs, w1, w2, w3, w4, w5⟩ := eqv_of I h1 h2 rx ry h3
    exact ne_dataH w1 w2 w3 w4 hu (by rw [w5]; exact ⟨.bl (!r), H, I, rfl, h4⟩)
  · unfold neDD at h
    cases q : eqvD dx dy with
    | none => rw [q] at h; exact h.elim
    | some r => rw [q] at h; exact ⟨al, dx, dy, r, rx, ry, q, h H (.refl H) _ (.bl (!r))⟩
end
section
variable {X : Cx} {E : XK} {tg iter elt : Expr} {ifs : List Expr} {scope : Scope} {pos : Pos} {fi : Ev -> R (List D)} {l : List Nat} {a : D -> Ev -> Option Ev} {fc : Ev -> R Bool} {fe : Ev -> R D} {tn : Nat} {Nt : List Str}
theorem dnu_comp1 {x : Str} (i : Nat) {c : Addr} (nm : List (Str × NameKind)) (hc : X.calm = true) (hi : DI X E tg iter fi) (hg : ∀ fp s3 H3 C, DG (X.comp scope (Nt ++ [x]) [(x, c)] fp s3 H3 C) tg l a) (hl : ∀ j ∈ l, j < tn) (hf : ∀ fp s3 H3 C, DFt (X.comp scope (Nt ++ [x]) [(x, c)] fp s3 H3 C) ifs fc)
    (he : ∀ fp s3 H3 C, DE (X.comp scope (Nt ++ [x]) [(x, c)] fp s3 H3 C) (fun _ _ _ => False) elt fe)
    (hkind : scope.kind = .function) (hcell : ∀ y ∈ scope.names, y.2 ≠ .cell) (hnames : ∀ x ∈ scope.names, x.2 = .local -> scope.names.lookup x.1 = some .local) (hNt : Nt.length = tn)
    (hN : X.N[i]? = some x) (hk : X.env.kindOf x = some .cell) (hcl : X.env.cells.lookup x = some c) (hclos : closureFor scope X.env = pure [(x, c)]) (hrl : (relabel scope X.env).names = nm)
    (hnm : ∀ p ∈ nm, (p.2 = .cell \/ p.2 = .free) -> p.1 = x) (hvis : nm.lookup x = some .cell \/ nm.lookup x = some .free)
    (hs : ∀ x, foldedSetIterable iter X.env x = pure x := by intro _; rfl) : DNU X E (.ListComp elt [⟨tg, iter, ifs, 0⟩] scope pos) (dComp fi tn [i] a fc fe) := by
  refine dnu_comp (cl := [(x, c)]) (Nc := [x]) (ci := [i]) hc hi hg hl hf he hclos hkind hcell hnames (.cons hN (.inl hk) (by rw [hcl]; simp [List.lookup]) .nil) hNt (fun y d z => ?_) (fun y z => ?_) (fun y hy => ?_) hs
  · by_cases w : y = x
    · subst w; simp [List.lookup] at z; rw [hcl, z]
    · have : (y == x) = false := by simpa using w
      simp [List.lookup, this] at z
  · rw [hrl] at z
    have : y = x := z.elim (fun q => hnm _ (PySem.mem_of_lookup q) (.inl rfl)) fun q => hnm _ (PySem.mem_of_lookup q) (.inr rfl)
    subst this
    exact ⟨c, by simp [List.lookup]⟩
  · rw [List.mem_singleton] at hy
    subst hy
    rw [hrl]; exact hvis
theorem dn_comp1 {x : Str} (i : Nat) {c : Addr} (nm : List (Str × NameKind)) (hc : X.calm = true) (hi : DI X E tg iter fi) (hg : ∀ fp s3 H3 C, DG (X.comp scope (Nt ++ [x]) [(x, c)] fp s3 H3 C) tg l a) (hl : ∀ j ∈ l, j < tn) (hf : ∀ fp s3 H3 C, DFt (X.comp scope (Nt ++ [x]) [(x, c)] fp s3 H3 C) ifs fc)
    (he : ∀ fp s3 H3 C, DE (X.comp scope (Nt ++ [x]) [(x, c)] fp s3 H3 C) (fun _ _ _ => False) elt fe)
    (hkind : scope.kind = .function) (hcell : ∀ y ∈ scope.names, y.2 ≠ .cell) (hnames : ∀ x ∈ scope.names, x.2 = .local -> scope.names.lookup x.1 = some .local) (hNt : Nt.length = tn)
    (hN : X.N[i]? = some x) (hk : X.env.kindOf x = some .cell) (hcl : X.env.cells.lookup x = some c) (hclos : closureFor scope X.env = pure [(x, c)]) (hrl : (relabel scope X.env).names = nm)
    (hnm : ∀ p ∈ nm, (p.2 = .cell \/ p.2 = .free) -> p.1 = x) (hvis : nm.lookup x = some .cell \/ nm.lookup x = some .free)
    (hs : ∀ x, foldedSetIterable iter X.env x = pure x := by intro _; rfl) : DN X E (.ListComp elt [⟨tg, iter, ifs, 0⟩] scope pos) (dComp fi tn [i] a fc fe) :=
  (dnu_comp1 i nm hc hi hg hl hf he hkind hcell hnames hNt hN hk hcl hclos hrl hnm hvis hs).dn
end
end P2
namespace P2
open PySem L2 PySem.Spec
open PySem.Builtin PySem.Builtin.Str
open PyProof.Rows hiding St
section
variable {prog : Program} {w : World} {A : Around} {E : Value -> Shared -> Prop} {s : Shared} {x y : PySem.Str} {t u : Tok} {Q : Value -> Shared -> Prop}
end
section
variable {X : Cx} {E : XK}
noncomputable def okMul64 (i j : Int) : Bool := (decide (-18446744073709551616 < i) && decide (i < 18446744073709551616)) || (decide (-18446744073709551616 < j) && decide (j < 18446744073709551616))
end
end P2
namespace P2
open PySem L2 PySem.Spec
open PyProof.Rows hiding St
theorem pass_cx {CX : CXT} {P : Program} {w : World} {K : W.Frag} {mg : Str -> Option Value} {base : Heap} {N : List Str} {qual : Str} {scope : Scope} {f : Addr} {cd : Value} {A : Around} {outer : List Env} {s : Shared} {H : Hp} {E : XK} :
    PassesOwn (model (cxOf CX P w K mg base N qual scope f cd A outer s H E).prog (cxOf CX P w K mg base N qual scope f cd A outer s H E).w) (cxOf CX P w K mg base N qual scope f cd A outer s H E).A (cxOf CX P w K mg base N qual scope f cd A outer s H E).env (cxOf CX P w K mg base N qual scope f cd A outer s H E).xe :=
  PassesOwn.leaving (Q₁ := fun e s'' => CX outer H s E e s'')
section
variable {X : Cx} {E : XK} {e a b c tg : Expr} {f fa fb fc : Ev -> R D} {pos : Pos}
noncomputable def sameD : D -> D -> Option Bool
  | .non, .non => some true
  | .bl a, .bl b => some (a == b)
  | .bl _, .non => some false
  | .int _, .non => some false
  | .str _, .non => some false
  | .tup _, .non => some false
  | .lst _, .non => some false
  | _, _ => none
noncomputable def isD2 (x y : D) : R D := match sameD x y with
  | some b => .ok (.bl b)
  | none => .bad
noncomputable def isnD2 (x y : D) : R D := match sameD x y with
  | some b => .ok (.bl (!b))
  | none => .bad
theorem op_isnD2 : OpD X E (compareOp .IsNot) isnD2 := by
  refine ⟨_, opr_or op_notN op_isnot_bl, fun al H x y dx dy Q fr rx ry h => ?_⟩
  unfold isnD2 at h
  cases q : sameD dx dy with
  | none => rw [q] at h; exact h.elim
  | some b =>
    rw [q] at h
    have hq := h H (.refl H) _ (.bl _)
    unfold sameD at q
    split at q <;> first | (cases q; done) | skip
    · cases rx; cases ry; cases q; exact .inl ⟨rfl, hq⟩
    · cases rx; cases ry; cases q; exact .inr ⟨_, _, rfl, rfl, hq⟩
    all_goals (cases ry; cases q; cases rx <;> exact .inl ⟨rfl, hq⟩)
noncomputable def slWD : D -> Option Int -> Option Int -> R D
  | .tup ds, lo, hi => if ¬ (HT.sIx ds.length 0 lo = 0 /\ HT.sIx ds.length ds.length hi = ds.length) then .ok (.tup (cutD ds lo hi)) else .bad
  | d, lo, hi => slD d lo hi
theorem sl_WD : SlD X E slWD := by
  obtain ⟨r0, s0, d0⟩ := sl_D (X := X) (E := E)
  refine ⟨_, sl_tup.or s0, fun al H x dx lo hi Q fr rx h => ?_⟩
  unfold slWD at h
  split at h
  · obtain ⟨a, vs, rfl, h1, h2⟩ := rx.tupIn
    split at h
    · rename_i z
      exact .inl ⟨a, vs, rfl, h1, by rw [h2.length]; exact z, fun p hp => h _ (same_upd hp) _ ((h2.cut lo hi).tupNew hp (fr p hp))⟩
    · exact h.elim
  · exact .inr (d0 _ _ _ _ _ _ _ fr rx h)
end
end P2
namespace P2
open PySem L2 PySem.Spec
open PyProof.Rows hiding St
section
variable {X : Cx} {E : XK}
end
end P2
namespace L2
open PySem PySem.Spec PyProof.Rows
section
variable {X : Cx} {pos : Pos}
end
end L2
namespace P2
open PySem L2 PySem.Spec
open PyProof.Rows hiding St
section
variable {X : Cx} {E : XK} {a b c : Expr} {pos : Pos}
end
inductive FlatV : V -> D -> Prop
  | non : FlatV .non .non
  | bl (b : Bool) : FlatV (.bl b) (.bl b)
  | int (i : Int) : FlatV (.int i) (.int i)
  | str (x : Str) : FlatV (.str x) (.str x)
inductive FlatVs : List V -> List D -> Prop
  | nil : FlatVs [] []
  | cons {v : V} {d : D} {vs : List V} {ds : List D} : FlatV v d -> FlatVs vs ds -> FlatVs (v :: vs) (d :: ds)
structure GlT (K : W.Frag) (mg : Str -> Option Value) (x : Str) (ds : List D) : Prop where
  ex : ∃ (a : Addr) (vs : List V), mg x = some (.ref a) /\ KT K a vs /\ FlatVs vs ds
end P2
namespace P2
open PySem L2 PySem.Spec
open PyProof.Rows hiding St
section
variable {X : Cx} {E : XK} {e : Expr} {fn : Ev -> R (List D)} {pos : Pos}
end
end P2
namespace P2
open PySem L2 PySem.Spec
open PyProof.Rows hiding St
section
variable {X : Cx} {E : XK} {tg iter elt : Expr} {ifs : List Expr} {scope : Scope} {pos : Pos} {fi : Ev -> R (List D)} {l : List Nat} {a : D -> Ev -> Option Ev} {fc : Ev -> R Bool} {fe : Ev -> R D} {tn : Nat} {Nt : List Str}
theorem dnu_comp2 {x y : Str} (i j : Nat) {c d : Addr} (nm : List (Str × NameKind)) (hxy : x ≠ y) (hc : X.calm = true) (hi : DI X E tg iter fi) (hg : ∀ fp s3 H3 C, DG (X.comp scope (Nt ++ [x, y]) [(y, d), (x, c)] fp s3 H3 C) tg l a) (hl : ∀ j ∈ l, j < tn) (hf : ∀ fp s3 H3 C, DFt (X.comp scope (Nt ++ [x, y]) [(y, d), (x, c)] fp s3 H3 C) ifs fc)
    (he : ∀ fp s3 H3 C, DE (X.comp scope (Nt ++ [x, y]) [(y, d), (x, c)] fp s3 H3 C) (fun _ _ _ => False) elt fe)
    (hkind : scope.kind = .function) (hcell : ∀ y ∈ scope.names, y.2 ≠ .cell) (hnames : ∀ x ∈ scope.names, x.2 = .local -> scope.names.lookup x.1 = some .local) (hNt : Nt.length = tn)
    (hN : X.N[i]? = some x) (hk : X.env.kindOf x = some .cell) (hcl : X.env.cells.lookup x = some c) (hN2 : X.N[j]? = some y) (hk2 : X.env.kindOf y = some .cell) (hcl2 : X.env.cells.lookup y = some d) (hclos : closureFor scope X.env = pure [(y, d), (x, c)]) (hrl : (relabel scope X.env).names = nm)
    (hnm : ∀ p ∈ nm, (p.2 = .cell \/ p.2 = .free) -> p.1 = x \/ p.1 = y) (hvis : ∀ z ∈ [x, y], nm.lookup z = some .cell \/ nm.lookup z = some .free)
    (hs : ∀ x, foldedSetIterable iter X.env x = pure x := by intro _; rfl) : DNU X E (.ListComp elt [⟨tg, iter, ifs, 0⟩] scope pos) (dComp fi tn [i, j] a fc fe) := by
  have b1 : (x == y) = false := by simpa using hxy
  have l1 : ([(y, d), (x, c)] : List (Str × Addr)).lookup x = some c := by simp [List.lookup, b1]
  have l2 : ([(y, d), (x, c)] : List (Str × Addr)).lookup y = some d := by simp [List.lookup]
  refine dnu_comp (cl := [(y, d), (x, c)]) (Nc := [x, y]) (ci := [i, j]) hc hi hg hl hf he hclos hkind hcell hnames (.cons hN (.inl hk) (by rw [hcl, l1]) (.cons hN2 (.inl hk2) (by rw [hcl2, l2]) .nil)) hNt (fun z e q => ?_) (fun z q => ?_) (fun z hz => ?_) hs
  · by_cases w : z = y
    · subst w; rw [l2] at q; cases q; exact hcl2
    · by_cases w2 : z = x
      · subst w2; rw [l1] at q; cases q; exact hcl
      · have e1 : (z == y) = false := by simpa using w
        have e2 : (z == x) = false := by simpa using w2
        simp [List.lookup, e1, e2] at q
  · rw [hrl] at q
    have : z = x \/ z = y := q.elim (fun q => hnm _ (PySem.mem_of_lookup q) (.inl rfl)) fun q => hnm _ (PySem.mem_of_lookup q) (.inr rfl)
    rcases this with rfl | rfl
    · exact ⟨c, l1⟩
    · exact ⟨d, l2⟩
  · rw [hrl]; exact hvis z hz
end
section
variable {X : Cx} {E : XK}
end
end P2
namespace P2
open PySem L2 PySem.Spec
open PyProof.Rows hiding St
section
variable {X : Cx} {E : XK} {a b : Expr} {fa fb : Ev -> R D} {pos : Pos}
end
end P2
namespace P2
open PySem L2 PySem.Spec
open PyProof.Rows hiding St
section
variable {X : Cx} {E : XK}
end
end P2
namespace TM
open PySem PySem.NumText PySem.StrLaws Builtin Builtin.Str
noncomputable def cds (x : Str) : List Nat := x.cps.toList
theorem ext {x y : Str} (h : cds x = cds y) : x = y := by
  obtain ⟨x⟩ := x; obtain ⟨y⟩ := y
  have : x = y := Array.toList_inj.mp h
  rw [this]
theorem cds_app (x y : Str) : cds (x ++ y) = cds x ++ cds y := by
  show (x.cps ++ y.cps).toList = x.cps.toList ++ y.cps.toList
  simp
theorem len_cds (x : Str) : x.length = (cds x).length := by simp [Str.length, cds]
end TM
namespace P2
open PySem L2
theorem bits_le {i : Int} {k : Nat} (h : i.natAbs < 2 ^ k) : bits i <= k := intBits_le_iff.mpr h
section
variable {α β : Type} {a : α} {c : Addr} {ns : List Str} {es : List D} {k : α -> RT} {h : α -> R β} {ρ : Ev} {g u : Ev -> RT} {f fa fb : Ev -> R D} {fc fd : Ev -> R Bool} {fs : Ev -> R (List D)} {i j : Int} {x y : Str} {b b2 : Bool} {ds ds2 : List D} {d : D} {n m : Nat} {gd gd2 : D -> D -> R D} {g1 : D -> R D} {gl : List D -> R D} {gt : D -> List D -> R D}
variable {t : String} {g3 : D -> Option Int -> Option Int -> R D} {fl fu : Ev -> R (Option Int)} {cs : List Nat} {ga : D -> Ev -> Option Ev} {lo hi : Option Int} {fj : Str -> Ev -> R D}
theorem q_bind_k : (R.ok a).bind h = h a := rfl
theorem q_bind_x : (R.ex c ns es : R α).bind h = .ex c ns es := rfl
theorem q_bind_b : (R.bad : R α).bind h = .bad := rfl
theorem q_toS_k : toS (R.ok a) k = k a := rfl
theorem q_toS_x : toS (R.ex c ns es : R α) k = .ex c ns es := rfl
theorem q_toS_b : toS (R.bad : R α) k = .bad := rfl
theorem q_seq_n : seqT (.nx ρ) g = g ρ := rfl
theorem q_seq_r : seqT (.rt d) g = .rt d := rfl
theorem q_seq_x : seqT (.ex c ns es) g = .ex c ns es := rfl
theorem q_seq_b : seqT .bad g = .bad := rfl
theorem q_turn_n : turnT (.nx ρ) g = g ρ := rfl
theorem q_turn_c : turnT (.ct ρ) g = g ρ := rfl
theorem q_turn_k : turnT (.bk ρ) g = .nx ρ := rfl
theorem q_turn_r : turnT (.rt d) g = .rt d := rfl
theorem q_turn_b : turnT .bad g = .bad := rfl
theorem q_turn_x : turnT (.ex c ns es) g = .ex c ns es := rfl
theorem q_fin_r : finT (.rt d) = .ok d := rfl
theorem q_fin_n : finT (.nx ρ) = .ok .non := rfl
theorem q_fin_x : finT (.ex c ns es) = .ex c ns es := rfl
theorem q_noEx_k : noEx (R.ok a) = .ok a := rfl
theorem q_okO_k : okO (R.ok a) = some a := rfl
theorem q_ofO_s : ofO (some a) = .ok a := rfl
theorem q_sSeq_a : sSeq g u ρ = seqT (g ρ) u := rfl
theorem q_sNil_a : sNil ρ = .nx ρ := rfl
theorem q_sRet_a : sRet f ρ = toS (f ρ) .rt := rfl
theorem q_sExpr_a : sExpr f ρ = toS (f ρ) fun _ => .nx ρ := rfl
theorem q_sSet_a : sSet n f ρ = toS (f ρ) fun d => if n < ρ.length then .nx (ρ.set n (.sh d)) else .bad := rfl
theorem q_sIf_a : sIf fc g u ρ = toS (fc ρ) fun k => if k = true then g ρ else u ρ := rfl
theorem q_dC_a : dC d ρ = .ok d := rfl
theorem q_d1_a : d1 g1 f ρ = (f ρ).bind g1 := rfl
theorem q_d2_a : d2 gd fa fb ρ = (fa ρ).bind fun x => (fb ρ).bind fun y => gd x y := rfl
theorem q_b1B_a : b1 P2.tB f ρ = (f ρ).bind P2.tB := rfl
theorem q_b1T_a : b1 tT f ρ = (f ρ).bind tT := rfl
theorem q_bAnd_a : bAnd fc fd ρ = (fc ρ).bind fun c => if c = true then fd ρ else .ok false := rfl
theorem q_bOr_a : bOr fc fd ρ = (fc ρ).bind fun c => if c = true then .ok true else fd ρ := rfl
theorem q_bNot_a : bNot fc ρ = (fc ρ).bind fun c => .ok (!c) := rfl
theorem q_dAnd_a : dAnd fa fb ρ = ((fa ρ).bind P2.tB).bind fun c => if c = true then fb ρ else .ok (.bl false) := rfl
theorem q_dOr_a : dOr fa fb ρ = ((fa ρ).bind P2.tB).bind fun c => if c = true then .ok (.bl true) else fb ρ := rfl
theorem q_dNot_a : dNot fa ρ = ((fa ρ).bind P2.tB).bind fun c => .ok (.bl (!c)) := rfl
theorem q_dIf_a : dIf fc fa fb ρ = (fc ρ).bind fun k => if k = true then fa ρ else fb ρ := rfl
theorem q_dA_a : dA gl fs ρ = (fs ρ).bind gl := rfl
theorem q_aNil_a : aNil ρ = .ok [] := rfl
theorem q_aCons_a : aCons f fs ρ = (f ρ).bind fun x => (fs ρ).bind fun xs => .ok (x :: xs) := rfl
theorem q_asN_a : asN fs ρ = (fs ρ).bind fun ds => .ok (.lst ds) := rfl
theorem q_dMt_a : dMt t gt f fs ρ = (f ρ).bind fun x => if hasT t x = true then (fs ρ).bind fun xs => gt x xs else .bad := rfl
theorem q_dSl_a : dSl g3 f fl fu ρ = (f ρ).bind fun x => (fl ρ).bind fun i => (fu ρ).bind fun j => g3 x i j := rfl
theorem q_dComp_a : dComp fs n cs ga fc f ρ = (fs ρ).bind fun ds => if ds.length <= sizeLine then ofO (compO ga fc f (capD n cs ρ) ds) else .bad := rfl
theorem q_sFor_a : sFor fs ga g ρ = toS (fs ρ) fun ds => forD ga g ds ρ := rfl
theorem q_toO_s : toO (some a) k = k a := rfl
theorem q_gV_a : gV n d ρ = if n < ρ.length then some (ρ.set n (.sh d)) else none := rfl
theorem q_tB_b : P2.tB (.bl b) = .ok b := rfl
theorem q_tT_b : tT (.bl b) = .ok b := rfl
theorem q_tT_i : tT (.int i) = .ok (i != 0) := rfl
theorem q_tT_n : tT .non = .ok false := rfl
theorem q_tT_l : tT (.lst ds) = .ok (!ds.isEmpty) := rfl
theorem q_tT_t : tT (.tup ds) = .ok (!ds.isEmpty) := rfl
theorem q_add_i : addD (.int i) (.int j) = .ok (.int (i + j)) := rfl
theorem q_add_s : addD (.str x) (.str y) = if x.length + y.length <= sizeLine then .ok (.str (x ++ y)) else .bad := rfl
theorem q_add_l : addD (.lst ds) (.lst ds2) = if ds.length + ds2.length <= sizeLine then .ok (.lst (ds ++ ds2)) else .bad := rfl
theorem q_sub_i : subD (.int i) (.int j) = .ok (.int (i - j)) := rfl
theorem q_fdiv_i : fdivD (.int i) (.int j) = if okDiv i j = true then .ok (.int (i.fdiv j)) else .bad := rfl
theorem q_mod_i : modD (.int i) (.int j) = if decide (j ≠ 0) = true then .ok (.int (i.fmod j)) else .bad := rfl
theorem q_lt_i : P2.ltD (.int i) (.int j) = .ok (.bl (decide (i < j))) := rfl
theorem q_le_i : leD (.int i) (.int j) = .ok (.bl (decide (i <= j))) := rfl
theorem q_gt_i : gtD (.int i) (.int j) = .ok (.bl (decide (j < i))) := rfl
theorem q_ge_i : geD (.int i) (.int j) = .ok (.bl (decide (j <= i))) := rfl
theorem q_neg_i : negD (.int i) = .ok (.int (-i)) := rfl
theorem q_eq_i : eqSD (.int i) (.int j) = .ok (.bl (decide (i = j))) := rfl
theorem q_eq_s : eqSD (.str x) (.str y) = .ok (.bl (decide (x = y))) := rfl
theorem q_eq_b : eqSD (.bl b) (.bl b2) = .ok (.bl (decide (b = b2))) := rfl
theorem q_ne_i : neSD (.int i) (.int j) = .ok (.bl (!decide (i = j))) := rfl
theorem q_ne_s : neSD (.str x) (.str y) = .ok (.bl (!decide (x = y))) := rfl
theorem q_in_s : inSD (.str x) (.str y) = .ok (.bl (Txt.contains y x)) := rfl
theorem q_ix_l : ixD (.lst ds) (.int i) = match L2.atI ds i with | some d => .ok d | none => .bad := rfl
theorem q_ix_t : ixD (.tup ds) (.int i) = match L2.atI ds i with | some d => .ok d | none => .bad := rfl
theorem q_ix_s : ixD (.str x) (.int i) = if x.length <= sizeLine then (match L2.atI x.cps.toList i with | some c => .ok (.str ⟨#[c]⟩) | none => .bad) else .bad := rfl
theorem q_sl_l : slD (.lst ds) lo hi = .ok (.lst (cutD ds lo hi)) := rfl
theorem q_sl_s : slD (.str x) lo hi = if x.length <= sizeLine then .ok (.str (Txt.slice x lo hi)) else .bad := rfl
theorem q_pI_i : pI (.int i) = .ok (some i) := rfl
theorem q_len_s : lenD [.str x] = if x.length <= sizeLine then .ok (.int x.length) else .bad := rfl
theorem q_len_l : lenD [.lst ds] = .ok (.int ds.length) := rfl
theorem q_len_t : lenD [.tup ds] = .ok (.int ds.length) := rfl
theorem q_abs_i : absD [.int i] = .ok (.int (if i < 0 then -i else i)) := rfl
theorem q_max_i : max2D [.int i, .int j] = .ok (.int (if j > i then j else i)) := rfl
theorem q_int_s : intD [.str x] = match PySem.intText? x with | some n => if x.length <= 640 then .ok (.int n) else .bad | none => .bad := rfl
theorem q_all_l : allD [.lst ds] = match boolsD ds with | some bs => .ok (.bl (bs.all id)) | none => .bad := rfl
theorem q_any_l : anyD [.lst ds] = match boolsD ds with | some bs => .ok (.bl (bs.any id)) | none => .bad := rfl
theorem q_st_s : startsD (.str x) [.str y] = .ok (.bl (Txt.startswith x y)) := rfl
theorem q_zf_s : zfillD (.str x) [.int i] = if PadOk i = true then .ok (.str (Txt.zfill x i)) else .bad := rfl
theorem q_hs_s : hasT "str" (.str x) = true := by rfl
theorem q_mkT_a : mkT ds = if ds.length <= sizeLine then .ok (.tup ds) else .bad := rfl
theorem q_fitL_a : fitL ds = if ds.length <= sizeLine then .ok ds else .bad := rfl
theorem q_asI_l : asI (.lst ds) = .ok ds := rfl
theorem q_asI_t : asI (.tup ds) = .ok ds := rfl
theorem q_asI_s : asI (.str x) = .ok (signs x) := rfl
theorem q_fmt_s : fmtD (.str x) = if x.length <= sizeLine then .ok (.str x) else .bad := rfl
theorem q_jNil_a : jNil x ρ = if x.length <= sizeLine then .ok (.str x) else .bad := rfl
theorem q_jCons_k : jCons f fj x ρ = (f ρ).bind fun z => match z with | .str y => if (x ++ y).length <= sizeLine then fj (x ++ y) ρ else .bad | _ => .bad := rfl
theorem q_v0 {r : Ev} : dV 0 (.sh d :: r) = .ok d := rfl
theorem q_v1 {s0 : Sl} {r : Ev} : dV 1 (s0 :: .sh d :: r) = .ok d := rfl
theorem q_v2 {s0 s1 : Sl} {r : Ev} : dV 2 (s0 :: s1 :: .sh d :: r) = .ok d := rfl
theorem q_v3 {s0 s1 s2 : Sl} {r : Ev} : dV 3 (s0 :: s1 :: s2 :: .sh d :: r) = .ok d := rfl
theorem q_v4 {s0 s1 s2 s3 : Sl} {r : Ev} : dV 4 (s0 :: s1 :: s2 :: s3 :: .sh d :: r) = .ok d := rfl
theorem q_v5 {s0 s1 s2 s3 s4 : Sl} {r : Ev} : dV 5 (s0 :: s1 :: s2 :: s3 :: s4 :: .sh d :: r) = .ok d := rfl
theorem q_v6 {s0 s1 s2 s3 s4 s5 : Sl} {r : Ev} : dV 6 (s0 :: s1 :: s2 :: s3 :: s4 :: s5 :: .sh d :: r) = .ok d := rfl
theorem q_v7 {s0 s1 s2 s3 s4 s5 s6 : Sl} {r : Ev} : dV 7 (s0 :: s1 :: s2 :: s3 :: s4 :: s5 :: s6 :: .sh d :: r) = .ok d := rfl
theorem q_v8 {s0 s1 s2 s3 s4 s5 s6 s7 : Sl} {r : Ev} : dV 8 (s0 :: s1 :: s2 :: s3 :: s4 :: s5 :: s6 :: s7 :: .sh d :: r) = .ok d := rfl
theorem q_v9 {s0 s1 s2 s3 s4 s5 s6 s7 s8 : Sl} {r : Ev} : dV 9 (s0 :: s1 :: s2 :: s3 :: s4 :: s5 :: s6 :: s7 :: s8 :: .sh d :: r) = .ok d := rfl
theorem q_v10 {s0 s1 s2 s3 s4 s5 s6 s7 s8 s9 : Sl} {r : Ev} : dV 10 (s0 :: s1 :: s2 :: s3 :: s4 :: s5 :: s6 :: s7 :: s8 :: s9 :: .sh d :: r) = .ok d := rfl
theorem q_v11 {s0 s1 s2 s3 s4 s5 s6 s7 s8 s9 s10 : Sl} {r : Ev} : dV 11 (s0 :: s1 :: s2 :: s3 :: s4 :: s5 :: s6 :: s7 :: s8 :: s9 :: s10 :: .sh d :: r) = .ok d := rfl
theorem q_v12 {s0 s1 s2 s3 s4 s5 s6 s7 s8 s9 s10 s11 : Sl} {r : Ev} : dV 12 (s0 :: s1 :: s2 :: s3 :: s4 :: s5 :: s6 :: s7 :: s8 :: s9 :: s10 :: s11 :: .sh d :: r) = .ok d := rfl
theorem q_v13 {s0 s1 s2 s3 s4 s5 s6 s7 s8 s9 s10 s11 s12 : Sl} {r : Ev} : dV 13 (s0 :: s1 :: s2 :: s3 :: s4 :: s5 :: s6 :: s7 :: s8 :: s9 :: s10 :: s11 :: s12 :: .sh d :: r) = .ok d := rfl
theorem q_mod_p (hj : 0 < j) : modD (.int i) (.int j) = .ok (.int (i % j)) := by
  rw [q_mod_i, if_pos (by simp; omega), Int.fmod_eq_emod_of_nonneg _ (by omega)]
theorem q_fdiv_p (hj : 0 < j) (h2 : j < 18446744073709551616) : fdivD (.int i) (.int j) = .ok (.int (i / j)) := by
  have hb : bits j <= 64 := bits_le (by omega)
  rw [q_fdiv_i, if_pos (by unfold okDiv; simp only [Bool.and_eq_true, decide_eq_true_eq]; omega), Int.fdiv_eq_ediv_of_nonneg _ (by omega)]
theorem q_add_sp {x y : Str} (h1 : x.length <= 1000) (h2 : y.length <= 1000) : addD (.str x) (.str y) = .ok (.str (x ++ y)) := by
  rw [q_add_s, if_pos (Nat.le_trans (Nat.add_le_add h1 h2) (by decide))]
theorem q_add_lp {x y : List D} (h1 : x.length <= 1000) (h2 : y.length <= 1000) : addD (.lst x) (.lst y) = .ok (.lst (x ++ y)) := by
  rw [q_add_l, if_pos (Nat.le_trans (Nat.add_le_add h1 h2) (by decide))]
theorem q_fit_p {x : List D} (h1 : x.length <= 1000) : fitL x = .ok x := by
  rw [q_fitL_a, if_pos (Nat.le_trans h1 (by decide))]
theorem q_mkT_p {x : List D} (h1 : x.length <= 1000) : mkT x = .ok (.tup x) := by
  rw [q_mkT_a, if_pos (Nat.le_trans h1 (by decide))]
end
end P2
namespace P2
open PySem L2 PySem.Spec
open PyProof.Rows hiding St
section
variable {X : Cx} {E : XK}
noncomputable def okMulU (i j : Int) : Bool := okMul i j || okMul64 i j
noncomputable def mulUD : D -> D -> R D
  | .int i, .int j => if okMulU i j = true then .ok (.int (i * j)) else .bad
  | .str x, .int n => if okMulS x n = true then .ok (.str (Txt.mul x n)) else .bad
  | _, _ => .bad
theorem op_mulUD : OpD X E (binaryOp .Mult) mulUD := by
  refine ⟨_, opr_or (opr_or op_mul op_mulB) op_mul_str, fun al H x y dx dy Q fr rx ry h => ?_⟩
  unfold mulUD at h
  split at h
  · cases rx; cases ry
    split at h
    · rename_i z
      unfold okMulU at z
      rw [Bool.or_eq_true] at z
      rcases z with z | z
      · unfold okMul at z
        simp only [Bool.and_eq_true, decide_eq_true_eq] at z
        exact .inl (.inr ⟨_, _, rfl, rfl, z, h H (.refl H) _ (.int _)⟩)
      · refine .inl (.inl ⟨_, _, rfl, rfl, ?_, h H (.refl H) _ (.int _)⟩)
        unfold okMul64 at z
        simp only [Bool.or_eq_true, Bool.and_eq_true, decide_eq_true_eq] at z
        exact z
    · exact h.elim
  · cases rx; cases ry
    split at h
    · rename_i z; exact .inr ⟨_, _, rfl, rfl, mulOk_of z, h H (.refl H) _ (.str _)⟩
    · exact h.elim
  · exact h.elim
end
theorem q_mulU_r {i j : Int} (h1 : -18446744073709551616 < j) (h2 : j < 18446744073709551616) : mulUD (.int i) (.int j) = .ok (.int (i * j)) := by
  show (if okMulU i j = true then R.ok (D.int (i * j)) else .bad) = _
  rw [if_pos (by unfold okMulU okMul64; simp only [Bool.or_eq_true, Bool.and_eq_true, decide_eq_true_eq]; right; right; exact ⟨h1, h2⟩)]
theorem q_isX_i {q : Addr -> Value -> Option Bool} {i : Int} : isXD q [.int i, .ty "int"] = .ok (.bl true) := rfl
theorem q_isX_b {q : Addr -> Value -> Option Bool} {i : Int} : isXD q [.int i, .ty "bool"] = .ok (.bl false) := rfl
theorem q_isX_s {q : Addr -> Value -> Option Bool} {x : Str} : isXD q [.str x, .ty "str"] = .ok (.bl true) := rfl
theorem q_isX_t {q : Addr -> Value -> Option Bool} {ds : List D} : isXD q [.tup ds, .ty "tuple"] = .ok (.bl true) := rfl
theorem q_isX_l {q : Addr -> Value -> Option Bool} {ds : List D} : isXD q [.lst ds, .ty "list"] = .ok (.bl true) := rfl
theorem q_slW_l {ds : List D} {lo hi : Option Int} : slWD (.lst ds) lo hi = .ok (.lst (cutD ds lo hi)) := rfl
theorem q_slW_s {x : Str} {lo hi : Option Int} : slWD (.str x) lo hi = if x.length <= sizeLine then .ok (.str (Txt.slice x lo hi)) else .bad := rfl
theorem q_is_bb {a b : Bool} : isD2 (.bl a) (.bl b) = .ok (.bl (a == b)) := rfl
theorem q_isn_bb {a b : Bool} : isnD2 (.bl a) (.bl b) = .ok (.bl (!(a == b))) := rfl
theorem q_is_nn : isD2 .non .non = .ok (.bl true) := rfl
theorem q_isn_nn : isnD2 .non .non = .ok (.bl false) := rfl
theorem q_is_tn {ds : List D} : isD2 (.tup ds) .non = .ok (.bl false) := rfl
theorem q_isn_tn {ds : List D} : isnD2 (.tup ds) .non = .ok (.bl true) := rfl
end P2
namespace P2
open PySem L2 PySem.Spec
open PyProof.Rows hiding St
section
variable {X : Cx} {E : XK} {a b : Expr} {rest : List Expr} {pos : Pos} {ta tb : TE} {fa fb : Ev -> R D}
end
end P2
namespace P2
open PySem L2 PySem.Spec
open PyProof.Rows hiding St
section
variable {X : Cx} {σ : L2.St} {pins : List (Addr × Obj)} {f l it S : Addr} {dv : Value} {vs : List V} {H0 : Hp} {R : Result -> Shared -> Prop}
end
section
variable {X : Cx} {σ : L2.St} {pins : List (Addr × Obj)} {f l it S : Addr} {dv : Value} {vs : List V} {H0 : Hp} {R : Result -> Shared -> Prop}
end
section
variable {X : Cx} {E : XK} {k : Nat} {x fn p : Str} {F : List D -> R D} {fa fb : Ev -> R D} {e de : Expr} {pos p0 p1 p2 p3 : Pos}
end
end P2
namespace P2
open PySem L2 PySem.Spec PySem.Calls
open PyProof.Rows hiding St
noncomputable def BM (mg : Str -> Option Value) (h : Heap) : Prop := ∃ bm ob, mg "__builtins__" = some (.ref bm) /\ bm ≠ builtinsNs /\ h.get? bm = some ob /\ ob.cls = .type "module" /\ ob.dict = some builtinsNs /\ ob.data = .plain
section
variable {X : Cx} {pins : List (Addr × Obj)} {σ : List (Option V)} {H : Hp} {s : Shared}
end
section
variable {X : Cx} {E : XK} {k : Nat} {p : Str} {fa fb g : Ev -> R D} {e de body : Expr} {pos p0 p2 p3 p4 : Pos} {x qual : Str} {c P : Addr} {params : Arguments} {scope : Scope} {N : List Str}
end
section
variable {P : Program} {w : World} {K : W.Frag} {mg : Str -> Option Value} {base : Heap}
end
end P2
namespace P2
open PySem L2 PySem.Spec PySem.Calls
open PyProof.Rows hiding St
theorem law_callT {P : Program} {w : World} {K : W.Frag} {mg mb : Str -> Option Value} {CX : CXT} {k : Nat} {fa a : Addr} {fd : FuncData} {x : Str} {sp : Sp} {s₁ : Shared} {vs : List Value} {ns : List Int}
    (KX : K.In s₁.heap) (hns : s₁.heap.Ns mainGlobals mg) (hb : s₁.heap.Ns builtinsNs mb) (hbb : ∀ x : Str, x ≠ "__name__" -> mb x = bootBuiltins x) (hlim : s₁.heap.NoLimit) (hg : s₁.gens = #[])
    (ha : s₁.heap.get? a = some { cls := .type "list", data := .seq vs.toArray }) (hi : IntsAre vs ns) (hl : ns.length <= sizeLine) (hr : Room k callerA) (hT : ∀ t ∈ tabsOf K, W.CodeHd s₁.heap t.2.1 t.2.2 /\ s₁.heap.get? t.2.2 = some (W.tabObj #[])) (hN : W.noTabs K = true)
    (hB : BM mg s₁.heap)
    (F : ∀ base : Heap, K.In base -> base.Ns mainGlobals mg -> BM mg base -> FnOk P w K mg base CX k fa fd [x] sp) (hbind : ∀ (s : Shared) (u : Value), BindsTo s fd ⟨[u], []⟩ [(x, u)])
    (hsp : ∀ H : Hp, TbOk K H -> SqL K H a (ns.map V.int) -> sp [.ref a] H (fun v _ => v = .bl true) fun _ _ _ => False)
    (hCX : ∀ H e s', CX [] H s₁ (fun _ _ _ => False) e s' -> False) :
    codeAny (model P w) callerA (.call (.ref fa) ⟨[.ref a], []⟩) (fun r s' => r = .ok (.ret (.bool true)) /\ OldK s₁.heap s'.heap /\ s'.os = s₁.os /\ AllBare s'.gens) s₁ := by
  have rv := vals_ints hi
  have lenV := hi.length
  have na : ∀ t ∈ tabsOf K, t.2.2 ≠ a := fun t ht e => by
    have := (hT t ht).2
    rw [e, ha] at this
    cases this
  have nK : ∀ t ∈ tabsOf K, K.lookup t.2.2 = none := fun t ht => by
    cases q : K.lookup t.2.2 with
    | none => rfl
    | some o =>
      have e1 := KX _ _ q
      rw [(hT t ht).2] at e1
      cases e1
      have h2 := List.all_eq_true.mp hN (t.2.2, W.tabObj #[]) (W.mem_of_lookupK q)
      exact absurd (show false = true from h2) Bool.false_ne_true
  -- the heap's own view
  have core : ∀ H : Hp, (∀ b, H b = none \/ (∃ o xs, H b = some (.frz o (.lst xs)) /\ b = a /\ K.lookup a = none) \/ ∃ t ∈ tabsOf K, b = t.2.2 /\ H b = some (.tbl #[])) -> (∀ t ∈ tabsOf K, H t.2.2 = some (.tbl #[])) -> SqL K H a (ns.map V.int) -> HOk P w H s₁.heap ->
      codeAny (model P w) callerA (.call (.ref fa) ⟨[.ref a], []⟩) (fun r s' => r = .ok (.ret (.bool true)) /\ OldK s₁.heap s'.heap /\ s'.os = s₁.os /\ AllBare s'.gens) s₁ := by
    intro H hO hTb hS hok
    have base_of : ∀ {b : Addr} {o : Obj}, s₁.heap.get? b = some o -> H b = none -> (hidT s₁.heap H).get? b = some o := fun e n => hidT_get e n
    have noA : ∀ {b : Addr} {o : Obj} {es : Array DictEntry} {ep : Nat}, s₁.heap.get? b = some o -> o.data = .dict es ep -> H b = none := fun {b o es ep} e d => by
      rcases hO b with z | ⟨ob, xs, z, e', _⟩ | ⟨t, ht, e', z⟩
      · exact z
      · subst e'
        rw [ha] at e; cases e
        have d' : Data.seq vs.toArray _ = Data.dict es ep := d
        cases d'
      · subst e'
        rw [(hT t ht).2] at e; cases e
        have d' : Data.fields #[] = Data.dict es ep := d
        cases d'
    have nsK : ∀ {b : Addr} {m : Str -> Option Value}, s₁.heap.Ns b m -> (hidT s₁.heap H).Ns b m := fun {b m} ⟨o, es, ep, e, d, r⟩ => ⟨o, es, ep, base_of e (noA e d), d, r⟩
    have hKb : K.In (hidT s₁.heap H) := fun b o e => base_of (KX b o e) (by
      rcases hO b with z | ⟨ob, xs, z, e', hk⟩ | ⟨t, ht, e', z⟩
      · exact z
      · subst e'; rw [hk] at e; cases e
      · subst e'; rw [nK t ht] at e; cases e)
    have hBb : BM mg (hidT s₁.heap H) := by
      obtain ⟨bm, ob, b1, b2, b3, b4, b5, b6⟩ := hB
      refine ⟨bm, ob, b1, b2, base_of b3 ?_, b4, b5, b6⟩
      rcases hO bm with z | ⟨o2, xs, z, e', _⟩ | ⟨t, ht, e', z⟩
      · exact z
      · subst e'; rw [ha] at b3; cases b3; cases b6
      · subst e'; rw [(hT t ht).2] at b3; cases b3; cases b6
    have hM : Mod K mg (hidT s₁.heap H) := ⟨hKb, nsK hns, ⟨mb, nsK hb, hbb⟩, let ⟨mc, h1, h2⟩ := hlim; ⟨mc, nsK h1, h2⟩⟩
    have e0 : Env0 P w K mg (hidT s₁.heap H) callerA [] s₁ H := ⟨rfl, hM, fun b o e => of_hidT e, Nat.le_of_eq (hidT_size _ _), trivial, fun b hb => absurd (show b ∈ ([] : List Addr) from hb) (by simp), hok, .of_eq hg⟩
    have tb : TbOk K H := fun t ht => ⟨#[], hTb t ht, trivial, fun pos cv e => by cases e⟩
    refine codeAny_mono ((F _ hKb (nsK hns) hBb).run callerA [] s₁ H ⟨[.ref a], []⟩ [.ref a] [.ref a] _ _ hr e0 (hbind s₁ (.ref a)) (.cons rfl .nil) (hsp H tb hS)) fun r s' h => ?_
    cases r with
    | error e => exact (hCX H e s' h).elim
    | ok fl =>
      cases fl with
      | next => exact False.elim h
      | brk => exact False.elim h
      | cont => exact False.elim h
      | ret u =>
        obtain ⟨v, H', os, bare, un, hok', r', q⟩ := h
        have q' : v = .bl true := q
        subst q'
        obtain rfl : u = Value.bool true := r'
        have kept : ∀ b o, s₁.heap.get? b = some o -> s'.heap.get? b = some o \/ ∃ t ∈ tabsOf K, b = t.2.2 /\ ∃ ps, s'.heap.get? b = some (W.tabObj ps) := fun b o e => by
          rcases hO b with z | ⟨ob, xs, z, _⟩ | ⟨t, ht, e', z⟩
          · exact .inl (un.keep b o e z (by intro y; exact absurd (show b ∈ ([] : List Addr) from y) (by simp)) (by simp))
          · have z2 := un.frzs b ob _ z
            obtain ⟨e1, _⟩ := hok b _ z
            obtain ⟨e2, _⟩ := hok' b _ z2
            rw [e] at e1; cases e1
            exact .inl e2
          · obtain ⟨more, z2⟩ := un.tbls b #[] z
            have e2 : s'.heap.get? b = some { cls := .none, data := .fields (#[] ++ more) } := hok' b _ z2
            exact .inr ⟨t, ht, e', _, e2⟩
        refine ⟨rfl, ⟨fun b o e => ?_, fun b o e => ?_⟩, os, bare⟩
        · rcases kept b o e with z | ⟨t, ht, e', ps, z⟩
          · exact .inl z
          · subst e'
            have e2 := (hT t ht).2
            rw [e] at e2
            cases e2
            exact .inr (.inl ⟨((hT t ht).1.tab (hT t ht).2).isCodeTable, rfl, #[], ps, rfl, by rw [Array.empty_append]; exact z⟩)
        · rcases kept b o e with z | ⟨_, _, _, ps, z⟩
          · exact ⟨o, z⟩
          · exact ⟨_, z⟩
  have nz : ¬ ∃ t ∈ tabsOf K, a = t.2.2 := fun ⟨t, ht, e⟩ => na t ht e.symm
  have tbl : ∀ (H : Hp) (b : Addr), (∃ t ∈ tabsOf K, b = t.2.2) -> ObjOk P w H s₁.heap b (.tbl #[]) := fun H b ⟨t, ht, e⟩ => by subst e; exact (hT t ht).2
  cases hk : K.lookup a with
  | some o =>
    have e := KX a o hk
    rw [ha] at e
    cases e
    refine core (fun b => if (∃ t ∈ tabsOf K, b = t.2.2) then some (.tbl #[]) else none) (fun b => ?_) (fun t ht => if_pos ⟨t, ht, rfl⟩) (.inr ⟨_, vs.toArray, _, hk, rfl, rfl, rfl, by rw [List.size_toArray, lenV]; exact hl, by simpa using rv⟩) (fun b u e => ?_)
    · by_cases z : ∃ t ∈ tabsOf K, b = t.2.2
      · obtain ⟨t, ht, e⟩ := z
        exact .inr (.inr ⟨t, ht, e, if_pos ⟨t, ht, e⟩⟩)
      · exact .inl (if_neg z)
    · by_cases z : ∃ t ∈ tabsOf K, b = t.2.2
      · have e' := (if_pos z).symm.trans e
        cases e'
        exact tbl _ b z
      · have e' := (if_neg z).symm.trans e
        cases e'
  | none =>
    refine core (fun b => if (∃ t ∈ tabsOf K, b = t.2.2) then some (.tbl #[]) else if b = a then some (.frz { cls := .type "list", data := .seq vs.toArray } (.lst (ns.map V.int))) else none) (fun b => ?_) (fun t ht => if_pos ⟨t, ht, rfl⟩) (.inl (.inr ⟨{ cls := .type "list", data := .seq vs.toArray }, (if_neg nz).trans (if_pos rfl)⟩)) (fun b u e => ?_)
    · by_cases z : ∃ t ∈ tabsOf K, b = t.2.2
      · obtain ⟨t, ht, e⟩ := z
        exact .inr (.inr ⟨t, ht, e, if_pos ⟨t, ht, e⟩⟩)
      · by_cases y : b = a
        · exact .inr (.inl ⟨_, _, (if_neg z).trans (if_pos y), y, hk⟩)
        · exact .inl ((if_neg z).trans (if_neg y))
    · by_cases z : ∃ t ∈ tabsOf K, b = t.2.2
      · have e' := (if_pos z).symm.trans e
        cases e'
        exact tbl _ b z
      · by_cases y : b = a
        · have e' := ((if_neg z).trans (if_pos y)).symm.trans e
          cases e'
          subst y
          exact ⟨ha, by rw [List.length_map]; exact hl, vs, _, rv, ha⟩
        · have e' := ((if_neg z).trans (if_neg y)).symm.trans e
          cases e'
theorem tabs_of {p : Program} {loose : List Str} {mean : ExcName -> Option Value} {mg mb : Str -> Option Value} {h : Heap} {K : W.Frag} (T : Top p loose mean mg mb h) (X : K.In h) (hq : (tabsOf K).all (fun t => ((recsOf p).find? fun e => e.name == t.1).isSome) = true) :
    ∀ t ∈ tabsOf K, W.CodeHd h t.2.1 t.2.2 /\ h.get? t.2.2 = some (W.tabObj #[]) := fun t ht => by
  have h1 := List.all_eq_true.mp hq t ht
  obtain ⟨d, hd⟩ := Option.isSome_iff_exists.mp h1
  unfold tabsOf at ht
  obtain ⟨x, _, e⟩ := List.mem_filterMap.mp ht
  split at e
  · obtain ⟨q, e1, e2⟩ := Option.map_eq_some_iff.mp e
    subst e2
    exact W.tab_of T X hd e1
  · cases e
end P2
namespace P2
open PySem PySem.W PyProof.Rows
noncomputable def KOk {α : Type} (n : Nat) (c : Nat -> Nat -> Bool) : KasT α -> (α -> Prop) -> Prop
  | .ret a, Q => Q a
  | .ask i j k, Q => i < n /\ j < n /\ KOk n c (k (c i j)) Q
theorem KOk.bind {α β : Type} {n : Nat} {c : Nat -> Nat -> Bool} {f : α -> KasT β} {Q : β -> Prop} : ∀ {t : KasT α}, KOk n c t (fun a => KOk n c (f a) Q) -> KOk n c (t.bind f) Q
  | .ret _, h => h
  | .ask i j k, h => ⟨h.1, h.2.1, KOk.bind (t := k (c i j)) h.2.2⟩
theorem KOk.wp {α : Type} {n : Nat} {c : Nat -> Nat -> Bool} {cmp : Nat -> Nat -> (Bool -> Shared -> Prop) -> Shared -> Prop} {Q : α -> Prop} {G : α -> Shared -> Prop} {s : Shared}
    (hc : ∀ i j, i < n -> j < n -> ∀ C : Bool -> Shared -> Prop, C (c i j) s -> cmp i j C s) (hG : ∀ a, Q a -> G a s) : ∀ {t : KasT α}, KOk n c t Q -> t.kasWp cmp G s
  | .ret a, h => hG a h
  | .ask i j k, h => hc i j h.1 h.2.1 _ (KOk.wp hc hG (t := k (c i j)) h.2.2)
section
variable {n : Nat} {c : Nat -> Nat -> Bool} {rk : Nat -> Int}
noncomputable def KK (rk : Nat -> Int) (p : Array Nat) (i : Nat) : Int := rk ((p[i]?).getD 0)
noncomputable def Inr (n : Nat) (p : Array Nat) : Prop := p.Perm (List.toArray (List.range n))
theorem Inr.size {p : Array Nat} (h : Inr n p) : p.size = n := by rw [h.size_eq]; simp
theorem Inr.lt {p : Array Nat} (h : Inr n p) (h0 : 0 < n) (k : Nat) : p.getD k 0 < n := by
  rw [Array.getD_eq_getD_getElem?]
  cases e : p[k]? with
  | none => simpa using h0
  | some x =>
    have hm : x ∈ p.toList := by
      have := Array.mem_of_getElem? e
      exact Array.mem_toList_iff.mpr this
    have := (Array.perm_iff_toList_perm.mp h).mem_iff.mp hm
    simpa using this
theorem getD_KK (rk : Nat -> Int) (p : Array Nat) (i : Nat) : rk (p.getD i 0) = KK rk p i := by unfold KK; rw [Array.getD_eq_getD_getElem?]
theorem KK_congr {p q : Array Nat} {i j : Nat} (h : p[i]? = q[j]?) : KK rk p i = KK rk q j := by unfold KK; rw [h]
theorem KK_rev {p : Array Nat} {i j : Nat} (hj : j <= p.size) (k : Nat) : KK rk (kas_rev p i j) k = if i <= k /\ k < j then KK rk p (i + j - 1 - k) else KK rk p k := by
  have := getElem?_mirror_all (i := i) hj k
  unfold kas_rev
  split
  · rename_i h; rw [if_pos h] at this; exact KK_congr this
  · rename_i h; rw [if_neg h] at this; exact KK_congr this
theorem Inr.rev {p : Array Nat} (h : Inr n p) (i j : Nat) : Inr n (kas_rev p i j) := (mirror_perm ..).trans h
theorem Inr.bub {p : Array Nat} (h : Inr n p) (i j : Nat) : Inr n (bubble p i j) := (bubble_perm ..).trans h
variable (hc : ∀ i j, i < n -> j < n -> c i j = decide (rk i < rk j))
include hc
theorem ask_ok {α : Type} {p : Array Nat} (h : Inr n p) (h0 : 0 < n) (i j : Nat) {k : Bool -> KasT α} {Q : α -> Prop} (q : KOk n c (k (decide (KK rk p i < KK rk p j))) Q) : KOk n c (.ask (p.getD i 0) (p.getD j 0) k) Q := by
  refine ⟨h.lt h0 i, h.lt h0 j, ?_⟩
  rw [hc _ _ (h.lt h0 i) (h.lt h0 j), getD_KK rk p i, getD_KK rk p j]
  exact q
noncomputable def Asc (rk : Nat -> Int) (p : Array Nat) (m : Nat) : Prop := ∀ i j, i <= j -> j < m -> KK rk p i <= KK rk p j
noncomputable def Dsc (rk : Nat -> Int) (p : Array Nat) (m : Nat) : Prop := ∀ i j, i <= j -> j < m -> KK rk p j <= KK rk p i
omit hc in
theorem Asc.snoc {p : Array Nat} {m : Nat} (h : Asc rk p m) (h1 : 1 <= m) (e : KK rk p (m - 1) <= KK rk p m) : Asc rk p (m + 1) := fun i j hij hj => by
  by_cases z : j = m
  · subst z
    by_cases y : i = j
    · subst y; omega
    · have := h i (j - 1) (by omega) (by omega); omega
  · exact h i j hij (by omega)
omit hc in
theorem Dsc.snoc {p : Array Nat} {m : Nat} (h : Dsc rk p m) (h1 : 1 <= m) (e : KK rk p m <= KK rk p (m - 1)) : Dsc rk p (m + 1) := fun i j hij hj => by
  by_cases z : j = m
  · subst z
    by_cases y : i = j
    · subst y; omega
    · have := h i (j - 1) (by omega) (by omega); omega
  · exact h i j hij (by omega)
theorem ok_asc {p : Array Nat} (h : Inr n p) (h0 : 0 < n) {Q : Nat -> Prop} : ∀ (f m : Nat), 1 <= m -> Asc rk p m -> (∀ m', m <= m' -> m' <= m + f -> Asc rk p m' -> (m' < m + f -> KK rk p m' < KK rk p (m' - 1)) -> Q m') -> KOk n c (kas_asc p f m) Q
  | 0, m, _, a, q => q m (Nat.le_refl _) (Nat.le_refl _) a fun w => absurd w (by omega)
  | f + 1, m, h1, a, q => by
    refine ask_ok hc h h0 m (m - 1) ?_
    by_cases z : KK rk p m < KK rk p (m - 1)
    · rw [decide_eq_true z, if_pos rfl]
      exact q m (Nat.le_refl _) (by omega) a fun _ => z
    · rw [decide_eq_false z, if_neg (by decide)]
      exact ok_asc h h0 f (m + 1) (by omega) (a.snoc h1 (by omega)) fun m' g1 g2 g3 g4 => q m' (by omega) (by omega) g3 fun w => g4 (by omega)
omit hc in
theorem Dsc.rev {p : Array Nat} {a b m : Nat} (h : Dsc rk p m) (hb : b <= p.size) (hm : b <= m) (e : ∀ k, a <= k -> k < b -> KK rk p k = KK rk p (b - 1)) (k : Nat) : KK rk (kas_rev p a b) k = KK rk p k := by
  rw [KK_rev hb]
  split
  · rename_i z
    rw [e _ (by omega) (by omega), e k z.1 z.2]
  · rfl
theorem ok_desc (h0 : 0 < n) {Q : Array Nat × Nat × Nat -> Prop} : ∀ (f : Nat) (p : Array Nat) (m q : Nat), Inr n p -> 1 <= m -> m + f <= n -> q < m -> Dsc rk p m -> (∀ k, m - (q + 1) <= k -> k < m -> KK rk p k = KK rk p (m - 1)) ->
      (∀ p' m' q', Inr n p' -> m <= m' -> m' <= m + f -> q' < m' -> Dsc rk p' m' -> (∀ k, m' - (q' + 1) <= k -> k < m' -> KK rk p' k = KK rk p' (m' - 1)) -> Q (p', m', q')) -> KOk n c (kas_desc f p m q) Q
  | 0, p, m, q, h, _, _, hq, a, e, r => r p m q h (Nat.le_refl _) (Nat.le_refl _) hq a e
  | f + 1, p, m, q, h, h1, hmn, hq, a, e, r => by
    have hs := h.size
    refine ask_ok hc h h0 m (m - 1) ?_
    by_cases z : KK rk p m < KK rk p (m - 1)
    · rw [decide_eq_true z, if_pos rfl]
      by_cases y : q > 0
      · rw [if_pos y]
        have kk := Dsc.rev (a := m - (q + 1)) (b := m) a (by omega) (Nat.le_refl _) e
        have a' : Dsc rk (kas_rev p (m - (q + 1)) m) (m + 1) := Dsc.snoc (fun i j hij hj => by rw [kk, kk]; exact a i j hij hj) h1 (by rw [kk, kk]; omega)
        exact ok_desc h0 f _ (m + 1) 0 (h.rev _ _) (by omega) (by omega) (by omega) a' (fun k g1 g2 => by rw [show k = m + 1 - 1 by omega]) fun p' m' q' g1 g2 g3 g4 g5 g6 => r p' m' q' g1 (by omega) (by omega) g4 g5 g6
      · rw [if_neg y]
        exact ok_desc h0 f p (m + 1) 0 h (by omega) (by omega) (by omega) (a.snoc h1 (by omega)) (fun k g1 g2 => by rw [show k = m + 1 - 1 by omega]) fun p' m' q' g1 g2 g3 g4 g5 g6 => r p' m' q' g1 (by omega) (by omega) g4 g5 g6
    · rw [decide_eq_false z, if_neg (by decide)]
      refine ask_ok hc h h0 (m - 1) m ?_
      by_cases y : KK rk p (m - 1) < KK rk p m
      · rw [decide_eq_true y, if_pos rfl]
        exact r p m q h (Nat.le_refl _) (by omega) hq a e
      · rw [decide_eq_false y, if_neg (by decide)]
        have eq : KK rk p m = KK rk p (m - 1) := by omega
        refine ok_desc h0 f p (m + 1) (q + 1) h (by omega) (by omega) (by omega) (a.snoc h1 (by omega)) (fun k g1 g2 => ?_) fun p' m' q' g1 g2 g3 g4 g5 g6 => r p' m' q' g1 (by omega) (by omega) g4 g5 g6
        rw [Nat.add_sub_cancel]
        by_cases w : k = m
        · rw [w]
        · rw [e k (by omega) (by omega), eq]
theorem ok_tail3 {p : Array Nat} (h : Inr n p) (h0 : 0 < n) {m : Nat} (h1 : 1 <= m) (hm : m <= n) (a : Dsc rk p m) {Q : Nat × Array Nat -> Prop} (q : ∀ m' p', Inr n p' -> 1 <= m' -> m' <= n -> Asc rk p' m' -> Q (m', p')) : KOk n c (kas_tail3 m n p) Q := by
  have hs := h.size
  refine KOk.bind (ok_asc hc (h.rev 0 m) h0 _ _ h1 (fun i j hij hj => ?_) fun m' g1 g2 g3 g4 => q m' _ (h.rev 0 m) (by omega) (by omega) g3)
  rw [KK_rev (by omega), KK_rev (by omega), if_pos (by omega), if_pos (by omega)]
  exact a _ _ (by omega) (by omega)
theorem ok_descPart {p : Array Nat} (h : Inr n p) (h0 : 0 < n) {m : Nat} (h1 : 1 <= m) (hm : m < n) (a : Dsc rk p m) (e : KK rk p m < KK rk p (m - 1)) {Q : Nat × Array Nat -> Prop} (q : ∀ m' p', Inr n p' -> 1 <= m' -> m' <= n -> Asc rk p' m' -> Q (m', p')) : KOk n c (kas_descPart m n p) Q := by
  refine KOk.bind (ok_desc hc h0 _ _ _ _ h (by omega) (by omega) (by omega) (a.snoc h1 (by omega)) (fun k g1 g2 => by rw [show k = m + 1 - 1 by omega]) fun p' m' q' g1 g2 g3 g4 g5 g6 => ?_)
  dsimp only
  have hs := g1.size
  split
  · have kk := Dsc.rev (a := m' - (q' + 1)) (b := m') g5 (by omega) (Nat.le_refl _) g6
    exact ok_tail3 hc (g1.rev _ _) h0 (by omega) (by omega) (fun i j hij hj => by rw [kk, kk]; exact g5 i j hij hj) q
  · exact ok_tail3 hc g1 h0 (by omega) (by omega) g5 q
theorem ok_count {p : Array Nat} (h : Inr n p) (h0 : 1 <= n) {Q : Nat × Array Nat -> Prop} (q : ∀ m' p', Inr n p' -> 1 <= m' -> m' <= n -> Asc rk p' m' -> Q (m', p')) : KOk n c (kas_count n p) Q := by
  have hs := h.size
  refine KOk.bind (ok_asc hc h h0 _ _ (Nat.le_refl 1) (fun i j hij hj => by rw [show i = j by omega]; omega) fun m g1 g2 g3 g4 => ?_)
  by_cases z : m = n
  · subst z
    simp only [beq_self_eq_true, if_true]
    exact q m p h g1 (Nat.le_refl _) g3
  · have z' : ¬ (m == n) = true := by simpa using z
    rw [if_neg z']
    have e := g4 (by omega)
    split
    · refine ask_ok hc h h0 0 (m - 1) ?_
      by_cases y : KK rk p 0 < KK rk p (m - 1)
      · rw [decide_eq_true y, if_pos rfl]
        exact q m p h g1 (by omega) g3
      · rw [decide_eq_false y, if_neg (by decide)]
        have al : ∀ k, k < m -> KK rk p k = KK rk p (m - 1) := fun k hk => by
          have := g3 0 k (by omega) hk
          have := g3 k (m - 1) (by omega) (by omega)
          omega
        have kk : ∀ k, KK rk (kas_rev p 0 m) k = KK rk p k := fun k => by
          rw [KK_rev (by omega)]
          split
          · rw [al _ (by omega), al k (by omega)]
          · rfl
        exact ok_descPart hc (h.rev 0 m) h0 g1 (by omega) (fun i j hij hj => by rw [kk, kk, al i (by omega), al j hj]; omega) (by rw [kk, kk]; exact e) q
    · exact ok_descPart hc h h0 g1 (by omega) (fun i j hij hj => by rw [show i = j by omega]; omega) e q
theorem ok_place {p : Array Nat} (h : Inr n p) (h0 : 0 < n) {k : Nat} (a : Asc rk p k) {Q : Nat -> Prop} (q : ∀ l, l <= k -> (∀ i, i < l -> KK rk p i <= KK rk p k) -> (∀ i, l <= i -> i < k -> KK rk p k < KK rk p i) -> Q l) :
    ∀ (f l r : Nat), l <= r -> r <= k -> r - l <= f -> (∀ i, i < l -> KK rk p i <= KK rk p k) -> (∀ i, r <= i -> i < k -> KK rk p k < KK rk p i) -> KOk n c (kas_place p k f l r) Q
  | 0, l, r, h1, h2, h3, g1, g2 => q l (by omega) g1 fun i w1 w2 => g2 i (by omega) w2
  | f + 1, l, r, h1, h2, h3, g1, g2 => by
    show KOk n c (if l ≥ r then .ret l else _) Q
    split
    · exact q l (by omega) g1 fun i w1 w2 => g2 i (by omega) w2
    · refine ask_ok hc h h0 k ((l + r) / 2) ?_
      by_cases z : KK rk p k < KK rk p ((l + r) / 2)
      · rw [decide_eq_true z, if_pos rfl]
        exact ok_place h h0 a q f l ((l + r) / 2) (by omega) (by omega) (by omega) g1 fun i w1 w2 => by have := a ((l + r) / 2) i (by omega) w2; omega
      · rw [decide_eq_false z, if_neg (by decide)]
        exact ok_place h h0 a q f ((l + r) / 2 + 1) r (by omega) (by omega) (by omega) (fun i w => by have := a i ((l + r) / 2) (by omega) (by omega); omega) g2
theorem ok_bin (h0 : 0 < n) {Q : Array Nat -> Prop} (q : ∀ p, Inr n p -> Asc rk p n -> Q p) : ∀ (f : Nat) (p : Array Nat) (k : Nat), Inr n p -> k + f = n -> Asc rk p k -> KOk n c (kas_bin f p k) Q
  | 0, p, k, h, e, a => q p h (by rw [← e]; exact a)
  | f + 1, p, k, h, e, a => by
    have hs := h.size
    refine KOk.bind (ok_place hc h h0 a (fun l g1 g2 g3 => ?_) k 0 k (by omega) (Nat.le_refl _) (by omega) (fun i w => absurd w (by omega)) fun i w1 w2 => absurd w1 (by omega))
    refine ok_bin h0 q f _ (k + 1) (h.bub _ _) (by omega) fun i j hij hj => ?_
    have bb : ∀ x, KK rk (bubble p k (k - l)) x = if x = l then KK rk p k else if l < x /\ x <= k then KK rk p (x - 1) else KK rk p x := fun x => by
      have := getElem?_bubble (xs := p) (src := k) (by omega) (k - l) (by omega) x
      rw [show k - (k - l) = l by omega] at this
      split
      · rename_i w; rw [if_pos w] at this; exact KK_congr this
      · rename_i w
        rw [if_neg w] at this
        split
        · rename_i w2; rw [if_pos w2] at this; exact KK_congr this
        · rename_i w2; rw [if_neg w2] at this; exact KK_congr this
    rw [bb, bb]
    by_cases i1 : i = l
    · rw [if_pos i1]
      by_cases j1 : j = l
      · rw [if_pos j1]; omega
      · rw [if_neg j1, if_pos (by omega)]
        have := g3 (j - 1) (by omega) (by omega); omega
    · rw [if_neg i1]
      by_cases i2 : l < i /\ i <= k
      · rw [if_pos i2, if_neg (by omega), if_pos (by omega)]
        exact a _ _ (by omega) (by omega)
      · rw [if_neg i2]
        by_cases j1 : j = l
        · rw [if_pos j1]; exact g2 i (by omega)
        · rw [if_neg j1]
          by_cases j2 : l < j /\ j <= k
          · rw [if_pos j2]; exact a _ _ (by omega) (by omega)
          · rw [if_neg j2]; exact a _ _ hij (by omega)
theorem ok_sort (h2 : 1 <= n) {Q : Array Nat -> Prop} (q : ∀ p, Inr n p -> Asc rk p n -> Q p) : KOk n c (kas_sort n) Q := by
  refine KOk.bind (ok_count hc (Array.Perm.refl _) h2 fun m' p' g1 g2 g3 g4 => ?_)
  dsimp only
  split
  · rename_i z
    rw [show max m' 1 = m' by omega]
    exact ok_bin hc h2 q _ _ _ g1 (by omega) g4
  · exact q p' g1 (by rw [show n = m' by omega]; exact g4)
end
noncomputable def rankOf (n : Nat) (c : Nat -> Nat -> Bool) (i : Nat) : Int := (((List.range n).filter fun j => c j i).length : Nat)
theorem filter_len_le {α : Type} {l : List α} {p q : α -> Bool} (h : ∀ x ∈ l, p x = true -> q x = true) : (l.filter p).length <= (l.filter q).length := by
  induction l with
  | nil => simp
  | cons a l ih =>
    have ih' := ih fun x hx => h x (.tail _ hx)
    have ha := h a (.head _)
    simp only [List.filter_cons]
    cases hp : p a with
    | true => rw [ha hp]; simpa using ih'
    | false =>
      cases hq : q a with
      | true => simp; omega
      | false => simpa using ih'
theorem filter_len_lt {α : Type} {l : List α} {p q : α -> Bool} (h : ∀ x ∈ l, p x = true -> q x = true) {y : α} (hy : y ∈ l) (h1 : p y = false) (h2 : q y = true) : (l.filter p).length < (l.filter q).length := by
  induction l with
  | nil => simp at hy
  | cons a l ih =>
    have ha := h a (.head _)
    have le := filter_len_le fun x hx => h x (.tail _ hx)
    simp only [List.filter_cons]
    rcases List.mem_cons.mp hy with rfl | hy
    · rw [h1, h2]
      simp only [Bool.false_eq_true, if_false, if_true, List.length_cons]
      omega
    · have ih' := ih (fun x hx => h x (.tail _ hx)) hy
      cases hp : p a with
      | true => rw [ha hp]; simpa using ih'
      | false =>
        cases hq : q a with
        | true => simp; omega
        | false => simpa using ih'
theorem rank_ok {n : Nat} {c : Nat -> Nat -> Bool} (irr : ∀ i, i < n -> c i i = false) (tr : ∀ i j k, i < n -> j < n -> k < n -> c i j = true -> c j k = true -> c i k = true)
    (nt : ∀ i j k, i < n -> j < n -> k < n -> c i j = true -> c k j = true \/ c i k = true) (i j : Nat) (hi : i < n) (hj : j < n) : c i j = decide (rankOf n c i < rankOf n c j) := by
  cases h : c i j with
  | true =>
    symm
    rw [decide_eq_true_eq]
    have := filter_len_lt (l := List.range n) (p := fun k => c k i) (q := fun k => c k j) (fun k hk h1 => tr k i j (by simpa using hk) hi hj h1 h) (y := i) (by simpa using hi) (irr i hi) h
    unfold rankOf
    omega
  | false =>
    symm
    rw [decide_eq_false_iff_not]
    have := filter_len_le (l := List.range n) (p := fun k => c k j) (q := fun k => c k i) (fun k hk h1 => by
      rcases nt k j i (by simpa using hk) hj hi h1 with h2 | h2
      · rw [h] at h2; cases h2
      · exact h2)
    unfold rankOf
    omega
end P2
namespace PySem.F
theorem nolen_lri : typeLookup (.type "list_reverseiterator") "__len__" = pure none := by rw [typeLookup_type, builtinLookup_eq_fast]; kernel_rfl
theorem hint_lri : typeLookup (.type "list_reverseiterator") "__length_hint__" = pure (some (.builtin "list_reverseiterator.__length_hint__")) := by rw [typeLookup_type, builtinLookup_eq_fast]; kernel_rfl
end PySem.F
namespace P2
open PySem
section
variable {prog : Program} {w : World} {A : Around} {E : Value -> Shared -> Prop} {s : Shared} {R : Result -> Shared -> Prop}
variable {I : Addr} {fp wr : List Addr} {G : Array GenState -> Array GenState -> Prop} {n : Nat} {P : Nat -> Value -> Prop} {St : Nat -> Shared -> Prop}
theorem extend_rev (W : WalksS prog w A.in1 I fp wr G n P St) (hT : ∀ i s, St i s -> s.TypeIs (.ref I) "list_reverseiterator") (S : Addr) (res : Value) (c₀ : Nat) (hst : St 0 s) (hSf : S ∉ fp) (hI : I ∈ fp)
    (hS : s.heap.get? S = some { cls := .type "list", data := .seq #[] c₀ })
    (hR : ∀ s' acc' c', Moved (S :: wr) G s s' -> s'.heap.get? S = some { cls := .type "list", dict := none, data := .seq acc' c', slots := #[] } -> ItemsOf P acc' n -> R (.ok (.ret res)) s') (hn : n <= sizeLine) :
    wpAny (model prog w) A.in1 (Builtin.List.listExtendWith (.ref S) (.ref I) res)
      (fun fin s' => match fin with | .done f => R (.ok f) s' | .again c' => c'.quiet = true /\ codeAny (model prog w) A c' R s') (fun e s' => R (.error e) s') s := by
  have hSI : S ≠ I := fun e => hSf (e ▸ hI)
  have h1 : Builtin.List.listSameRef (.ref S) (.ref I) = false := by simp [Builtin.List.listSameRef, hSI]
  unfold Builtin.List.listExtendWith
  refine wpAny_bind (wpAny_typeOf (hT 0 _ hst) ?_)
  rw [if_neg (by rw [h1]; decide)]
  refine wpAny_bind (W.self 0 _ _ _ hst ?_)
  refine wpAny_bind (wpAny_holding ?_)
  unfold Builtin.List.listLengthHint
  refine wpAny_bind (wpAny_specialOf (hT 0 _ hst) F.nolen_lri ?_)
  show wpAny _ A.in1 (specialOf (Value.ref I) (Str.ofString "__length_hint__") >>= _) _ _ _
  refine wpAny_bind (wpAny_specialOf (hT 0 _ hst) F.hint_lri ?_)
  (generalize hid : ("list_reverseiterator.__length_hint__" : String) = id0; (fail_if_success (clear hid id0)); wp_delta; rw [show splitId id0 = some ("list_reverseiterator", "__length_hint__") from by subst hid; decide +kernel]; subst hid)
  refine wpAny_bind (wpAny_isInstance (b := true) (hT 0 _ hst) (by rw [isSubtype_type]; kernel_rfl) ?_)
  refine wpAny_pure ?_
  rw [if_neg (by decide)]
  exact wpAny_pure ⟨plainId_quiet F.plain_extend_loop _, codeAny_extend_loopS W hn _ hSf _ n 0 _ _ _ rfl (Nat.zero_le _) hst hS (ItemsOf.nil P) fun s' acc' c' hm hS' hacc => hR s' acc' c' hm hS' hacc⟩
theorem list_init_rev (W : WalksS prog w A.in1 I fp wr G n P St) (hT : ∀ i s, St i s -> s.TypeIs (.ref I) "list_reverseiterator") (S : Addr) (hst : St 0 s) (hSf : S ∉ fp) (hI : I ∈ fp)
    (hS : s.heap.get? S = some { cls := .type "list", data := .seq #[] })
    (hR : ∀ s' acc' c', Moved (S :: wr) G s s' -> s'.heap.get? S = some { cls := .type "list", dict := none, data := .seq acc' c', slots := #[] } -> ItemsOf P acc' n -> R (.ok (.ret .none)) s') (hn : n <= sizeLine) :
    wpAny (model prog w) A.in1 (Builtin.«list.__init__» ⟨[.ref S, .ref I], []⟩)
      (fun fin s' => match fin with | .done f => R (.ok f) s' | .again c' => c'.quiet = true /\ codeAny (model prog w) A c' R s') (fun e s' => R (.error e) s') s := by
  show wpAny _ A.in1 (do let old ← Builtin.List.listItems (.ref S); Builtin.List.listUpdate (.ref S) (fun _ => #[]); letGo old.toList.reverse; Builtin.List.listExtendWith (.ref S) (.ref I) .none) _ _ s
  refine wpAny_bind ?_
  unfold Builtin.List.listItems
  refine wpAny_bind (wpAny_seqItems hS rfl (wpAny_pure ?_))
  show wpAny _ A.in1 (updateSeq S (fun _ => #[]) >>= fun _ => letGo (#[] : Array Value).toList.reverse >>= fun _ => Builtin.List.listExtendWith (.ref S) (.ref I) .none) _ _ s
  refine wpAny_bind (wpAny_updateSeq hS rfl ?_)
  have hS₂ := Heap.get?_update_self (Obj.mapSeq (fun _ => (#[] : Array Value))) hS rfl
  have oth : ∀ b o, b ≠ S -> s.heap.get? b = some o -> (s.heap.update S (Obj.mapSeq (fun _ => (#[] : Array Value)))).get? b = some o :=
    fun b o hb e => (Heap.get?_update_other _ _ (Ne.symm hb)).trans e
  refine wpAny_bind (wpAny_letGo ?_)
  refine extend_rev (hn := hn) W hT S .none _ (W.frame 0 s _ s.toks hst (Nat.le_refl _) fun b hb o e => oth b o (fun h => hSf (h ▸ hb)) e) hSf hI hS₂ fun s' acc' c' hm hS' hacc => ?_
  exact hR s' acc' c' (Moved.trans W.gtrans ((Moved.refl W.grefl).then_heap (Nat.le_refl _) fun b o hb e => oth b o (fun h => hb (h ▸ List.mem_cons_self)) e) hm) hS' hacc
theorem call_list_rev {Q : Value -> Shared -> Prop} (W : WalksS prog w A.in1.in1 I fp wr G n P St) (hT : ∀ i s, St i s -> s.TypeIs (.ref I) "list_reverseiterator") (hst : St 0 s) (hfp : ∀ b ∈ fp, b < s.heap.objs.size) (hI : I ∈ fp)
    (hQ : ∀ s' acc' c', Moved (s.heap.objs.size :: wr) G { s with heap := s.heap.push { cls := .type "list", data := .seq #[] } } s' ->
      s'.heap.get? s.heap.objs.size = some { cls := .type "list", dict := none, data := .seq acc' c', slots := #[] } -> ItemsOf P acc' n -> Q (.ref s.heap.objs.size) s') (hn : n <= sizeLine) :
    wpAny (model prog w) A (call (.type "list") [.ref I]) Q E s := by
  have hSf : s.heap.objs.size ∉ fp := fun hm => Nat.lt_irrefl _ (hfp _ hm)
  refine callType_codes (Q₁ := fun obj s₁ => obj = .ref s.heap.objs.size /\ s₁ = { s with heap := s.heap.push { cls := .type "list", data := .seq #[] } }) F.called_list (F.typeCall_list_1 _) F.entry_list_init
    (code_list_new _ ⟨rfl, rfl⟩) fun obj s₁ h₁ => ?_
  obtain ⟨rfl, rfl⟩ := h₁
  have hS : (s.heap.push { cls := .type "list", data := .seq #[] }).get? s.heap.objs.size = some { cls := .type "list", data := .seq #[] } := Heap.get?_push_size _ rfl
  refine ⟨⟨_, hS, rfl⟩, F.args_list_init_2 _ _, list_init_rev (hn := hn) W hT _ (W.frame 0 s _ s.toks hst (Nat.le_refl _) fun b _ o e => Heap.get?_push_of_some _ e) hSf hI hS fun s' acc' c' hm hS' hacc => ?_⟩
  exact ⟨rfl, hQ s' acc' c' hm hS' hacc⟩
end
end P2
namespace P2
open PySem L2 PySem.Spec
open PyProof.Rows hiding St
theorem bt_reversed : bootBuiltins "reversed" = some (.type "reversed") := by decide +kernel
theorem vals_rev : ∀ {vs : List V} {us : List Value}, Vals vs us -> Vals vs.reverse us.reverse
  | _, _, .nil => .nil
  | _, _, .cons r q => by
    rw [List.reverse_cons, List.reverse_cons]
    exact (vals_rev q).append (.cons r .nil)
theorem Reps.rev {K : W.Frag} {al : Addr -> Prop} {H : Hp} : ∀ {vs : List V} {ds : List D}, Reps K al H vs ds -> Reps K al H vs.reverse ds.reverse
  | _, _, .nil => .nil
  | _, _, .cons r q => by
    rw [List.reverse_cons, List.reverse_cons]
    exact (Reps.rev q).append (.cons r .nil)
section
variable {X : Cx} {E : XK} {e : Expr} {ta : TE} {f : Ev -> R D} {p1 p2 pos pos2 : Pos}
theorem pe_listrev (he : PE X e ta) (hg1 : Gl X "list") (hm1 : X.mg "list" = none) (hg2 : Gl X "reversed") (hm2 : X.mg "reversed" = none) (hc : X.calm = true)
    (hs : starEach [e] X.env = (false, eval e X.env) :: starEach [] X.env := by rfl)
    (hs2 : starEach [.Call (.Name "reversed" p2) [e] [] pos2] X.env = (false, eval (.Call (.Name "reversed" p2) [e] [] pos2) X.env) :: starEach [] X.env := by rfl) :
    PE X (.Call (.Name "list" p1) [.Call (.Name "reversed" p2) [e] [] pos2] [] pos) (fun σ H Q => ta σ H fun x0 H1 => ∃ x, [x0] = [x] /\ ∃ l vs, x = .ref l /\ SqL X.K H1 l vs /\ ∀ p, H1 p = none -> Q (.ref p) (upd H1 p (.lst vs.reverse))) := by
  intro pins s σ H Q I h
  refine wpAny_Call_Name_kw (ld_blt I hg1 hm1 bt_list ?_)
  refine PyProof.Rows.callWith_type1 ?_ hs2
  rw [hs2]
  show wpAny _ _ (spliced ((false, eval (.Call (.Name "reversed" p2) [e] [] pos2) X.env) :: backTo pos (starEach [] X.env))) _ _ s
  refine Calls.spliced_cons ?_
  refine wpAny_Call_Name_kw (ld_blt I hg2 hm2 bt_reversed ?_)
  have PA1 : PA X [e] (tCons ta tNil) := pa_cons he pa_nil hs
  refine PyProof.Rows.callWith_type1 (thn (PA1 pos2 pins s σ H (fun vs H1 => ∃ x, vs = [x] /\ ∃ l vs, x = .ref l /\ SqL X.K H1 l vs /\ ∀ p, H1 p = none -> Q (.ref p) (upd H1 p (.lst vs.reverse))) I h) fun us s1 ⟨vs0, H1, I1, r1, q1⟩ => ?_) hs
  obtain ⟨x, rfl, l, vs, rfl, hl, q⟩ := q1
  obtain ⟨u, rfl, ru⟩ := vals1 r1
  obtain rfl : u = Value.ref l := ru
  obtain ⟨its, rv, pl, hz⟩ := I1.list hl
  have hil := pl.isList
  have hle := rv.length
  have hsz : its.toArray.size = its.length := List.size_toArray ..
  obtain ⟨ol, hol, _⟩ := id hil
  have hll : l < s1.heap.objs.size := Heap.lt_size hol
  refine call_reversed_list hil ?_
  refine Calls.spliced_nil ?_
  have hne : l ≠ s1.heap.objs.size := Nat.ne_of_lt hll
  have I2 : Inv X pins σ H1 { s1 with heap := s1.heap.push (revObj l ((its.toArray.size : Int) - 1)) } := I1.kept (t' := s1.toks) fun b o e => Heap.get?_push_of_some _ e
  have fI : FpOk X pins H1 s1.heap.objs.size := I1.fpOk (Nat.le_refl _) (I1.hok.fresh (Nat.le_refl _))
  have gI : (s1.heap.push (revObj l ((its.toArray.size : Int) - 1))).get? s1.heap.objs.size = some (revObj l ((its.toArray.size : Int) - 1)) := Heap.get?_push_size _ rfl
  have hil2 : (s1.heap.push (revObj l ((its.toArray.size : Int) - 1))).IsList l its.toArray := hil.at fun o e => Heap.get?_push_of_some _ e
  have W := (Walks.listRev (prog := X.prog) (w := X.w) (A := X.A.in1.in1) (I1.ok.hd hc) s1.heap.objs.size l hne its.toArray).toS
  have hsp : (s1.heap.push (revObj l ((its.toArray.size : Int) - 1))).objs.size = s1.heap.objs.size + 1 := size_push' ..
  have st0 : (s1.heap.push (revObj l ((its.toArray.size : Int) - 1))).IsRevIter s1.heap.objs.size l ((its.toArray.size : Int) - 1 - ((0 : Nat) : Int)) := by
    have e : ((its.toArray.size : Int) - 1 - ((0 : Nat) : Int)) = (its.toArray.size : Int) - 1 := by omega
    rw [e]
    exact ⟨_, gI, rfl, rfl⟩
  refine call_list_rev (s := { s1 with heap := s1.heap.push (revObj l ((its.toArray.size : Int) - 1)) }) W (fun i s st => st.2.1.typeIs) ⟨Nat.zero_le _, st0, hil2⟩ (fun b hb => ?_) (by simp) (fun s' acc c hm hS hacc => ?_) (by rw [hsz]; omega)
  · simp only [List.mem_cons, List.not_mem_nil, or_false] at hb
    show b < (s1.heap.push _).objs.size
    rw [hsp]
    rcases hb with h | h
    · rw [h]; exact Nat.lt_succ_self _
    · rw [h]; exact Nat.lt_succ_of_lt hll
  · have eacc : acc.toList = its.reverse := by
      refine List.ext_getElem? fun j => ?_
      obtain ⟨h1, h2⟩ := hacc
      by_cases hj : j < its.length
      · have hja : j < acc.size := by rw [h1, hsz]; exact hj
        have e1 : acc[j]? = some acc[j] := Array.getElem?_eq_getElem hja
        have e2 := h2 j acc[j] e1
        rw [Array.getElem?_toList, e1, List.getElem?_reverse hj, ← e2]
        simp
      · rw [Array.getElem?_toList, Array.getElem?_eq_none (by rw [h1, hsz]; omega), List.getElem?_eq_none (by rw [List.length_reverse]; omega)]
    have rr := vals_rev rv
    rw [← eacc] at rr
    have hzr : vs.reverse.length <= sizeLine := by rw [List.length_reverse]; exact hz
    have hS0 : H1 (s1.heap.push (revObj l ((its.toArray.size : Int) - 1))).objs.size = none := I2.hok.fresh (Nat.le_refl _)
    have I3 : Inv X pins σ (upd H1 (s1.heap.push (revObj l ((its.toArray.size : Int) - 1))).objs.size (.lst vs.reverse)) { s1 with heap := (s1.heap.push (revObj l ((its.toArray.size : Int) - 1))).push { cls := .type "list", data := .seq acc c } } :=
      I2.laid (t' := s1.toks) (fun b u e => Heap.get?_push_of_some _ e) (Nat.le_refl _) (show ObjOk X.prog X.w _ _ _ (.lst vs.reverse) from ⟨hzr, acc.toList, c, rr, by rw [Array.toArray_toList]; exact Heap.get?_push_size _ rfl⟩)
    have hSn : (s1.heap.push (revObj l ((its.toArray.size : Int) - 1))).objs.size ≠ s1.heap.objs.size := by rw [hsp]; omega
    obtain ⟨hh, g, d, tk, os⟩ := s'
    have e1 : g = s1.gens := hm.gens
    have e2 : d = s1.drawn := hm.drawn
    have e3 : os = s1.os := hm.os
    subst e1 e2 e3
    have I4 := I3.turned (h' := hh) (t' := tk) (it := s1.heap.objs.size) (fun b o hb e => by
      by_cases z : b = (s1.heap.push (revObj l ((its.toArray.size : Int) - 1))).objs.size
      · rw [z, Heap.get?_push_size _ rfl] at e
        cases e
        rw [z]; exact hS
      · have e' : (s1.heap.push (revObj l ((its.toArray.size : Int) - 1))).get? b = some o := by
          rw [Heap.get?_push_ne _ _ _ z] at e; exact e
        exact hm.heap b o (by rw [List.mem_cons, List.mem_singleton]; rintro (w | w); exact z w; exact hb w) (Heap.get?_push_of_some _ e')) (by rw [upd_ne (Ne.symm hSn)]; exact fI.1) fI.2.1 fI.2.2.2.1 fI.2.2.2.2.1 fI.2.2.2.2.2
    exact ⟨.ref _, _, I4, rfl, q _ hS0⟩
noncomputable def revL : D -> R (List D)
  | .lst ds => .ok ds.reverse
  | _ => .bad
theorem dn_listrev (hg1 : Gl X "list") (hm1 : X.mg "list" = none) (hg2 : Gl X "reversed") (hm2 : X.mg "reversed" = none) (hc : X.calm = true) (he : DE X E e f)
    (hs : starEach [e] X.env = (false, eval e X.env) :: starEach [] X.env := by rfl)
    (hs2 : starEach [.Call (.Name "reversed" p2) [e] [] pos2] X.env = (false, eval (.Call (.Name "reversed" p2) [e] [] pos2) X.env) :: starEach [] X.env := by rfl) :
    DN X E (.Call (.Name "list" p1) [.Call (.Name "reversed" p2) [e] [] pos2] [] pos) (fun ρ => (f ρ).bind revL) := by
  obtain ⟨t, p, r⟩ := he
  refine ⟨_, pe_listrev p hg1 hm1 hg2 hm2 hc hs hs2, fun P H0 al H σ ρ Q s h => r _ _ _ _ _ _ _ s (Aft.mono (Aft.split h) fun d H1 s1 h1 v rv => ⟨v, rfl, ?_⟩)⟩
  unfold revL at h1
  split at h1
  · obtain ⟨l, vs, rfl, hl, rvs⟩ := rv.lstIn
    exact ⟨l, vs, rfl, hl, fun p hp => h1 H1 (.refl H1) p _ hp rvs.rev⟩
  · exact h1.elim
end
end P2
namespace P2
open PySem L2 PySem.Spec PySem.Calls
open PyProof.Rows hiding St
theorem bt_sorted : bootBuiltins "sorted" = some (.builtin "sorted") := by decide +kernel
section
variable {X : Cx} {E : XK} {e : Expr} {ta : TE} {f : Ev -> R D} {p1 pos : Pos}
end
end P2
namespace P2
open PySem L2 PySem.Spec PySem.Calls PySem.W
open PyProof.Rows hiding St K
section
variable {prog : Program} {w : World} {A : Around} {E : Value -> Shared -> Prop} {s : Shared}
noncomputable abbrev runSt (κ : SortKind) (us : List Value) : SortSt := SortSt.mk' κ (us.toArray.zip us.toArray) #[] 7 none
noncomputable def Srt (prog : Program) (w : World) (G : Array Value -> Prop) (us : List Value) (t : Shared) : Prop :=
  ∀ B : Around, wpAny (model prog w) B (keyKind' us.toArray) (fun κ t' => t' = t /\ wpAny (model prog w) B ((sortRuns').run (runSt κ us)) (fun r t'' => t'' = t /\ failedOf r.2 = none /\ ((arrOf r.2).map (·.2)).size = us.length /\ G ((arrOf r.2).map (·.2))) (fun _ _ => False) t) (fun _ _ => False) t
theorem srt_list {d : Addr} {us : List Value} {e : Nat} {G : Array Value -> Prop} {Q : PySem.Fin -> Shared -> Prop} (hd : s.heap.get? d = some (seqObj "list" us.toArray e)) (hz : us.length <= sizeLine) (g0 : us.length < 2 -> G us.toArray)
    (g1 : 2 <= us.length -> ∀ t : Shared, (∀ b o, b ≠ d -> s.heap.get? b = some o -> t.heap.get? b = some o) -> Srt prog w G us t)
    (k : ∀ out : Array Value, out.size = us.length -> G out -> Q (.done (.ret .none)) { s with heap := sortedHeap s.heap d us out }) : wpAny (model prog w) A (Builtin.«list.sort» ⟨[.ref d], []⟩) Q E s := by
  have hlt : d < s.heap.objs.size := Heap.lt_size hd
  rw [list_sort_plain]
  apply wpAny_bind
  apply listItems_at hd rfl
  apply wpAny_bind
  apply listUpdate_at hd rfl (hsz := by simpa using hz) (hsz2 := Nat.zero_le _)
  have hd1 := get?_update_seq hd (fun _ => (#[] : Array Value))
  apply wpAny_bind
  apply seqEpoch_at hd1 rfl
  apply wpAny_bind
  refine wpAny_newTuple ?_ (by simpa using hz)
  apply wpAny_bind
  refine wpAny_newList ?_ (Nat.zero_le _)
  refine wpAny_holding ?_
  generalize hh : ((s.heap.update d (Obj.mapSeq fun _ => (#[] : Array Value))).push (seqObj "tuple" us.toArray 0)).push (seqObj "list" #[] 0) = h6
  have eh : ∀ out : Array Value, h6.update d (Obj.mapSeq fun _ => out) = sortedHeap s.heap d us out := fun out => by rw [← hh]; rfl
  have ne1 : d ≠ (s.heap.update d (Obj.mapSeq fun _ => (#[] : Array Value))).objs.size := by rw [Heap.size_update]; exact Nat.ne_of_lt hlt
  have ne2 : ∀ o : Obj, d ≠ ((s.heap.update d (Obj.mapSeq fun _ => (#[] : Array Value))).push o).objs.size := fun o => by rw [size_push', Heap.size_update]; exact Nat.ne_of_lt (Nat.lt_succ_of_lt hlt)
  have hd6 : ∃ e1, h6.get? d = some (seqObj "list" #[] e1) /\ ((s.heap.update d (Obj.mapSeq fun _ => (#[] : Array Value))).get? d = some (seqObj "list" #[] e1)) := by
    refine ⟨_, ?_, hd1⟩
    rw [← hh, Heap.get?_push_ne _ _ _ (ne2 _), Heap.get?_push_ne _ _ _ ne1]
    exact hd1
  obtain ⟨e1, hd6, hd1'⟩ := hd6
  have ee := hd1.symm.trans hd1'
  have old : ∀ b o, b ≠ d -> s.heap.get? b = some o -> h6.get? b = some o := fun b o hb q => by
    rw [← hh]
    refine Heap.get?_push_of_some _ (Heap.get?_push_of_some _ ?_)
    rw [Heap.get?_update_ne _ _ _ _ hb]; exact q
  show wpAny (model prog w) A _ Q E { s with heap := h6 }
  dsimp only
  have last : ∀ out : Array Value, out.size = us.length -> G out -> wpAny (model prog w) A (Builtin.List.listUpdate (.ref d) fun _ => out) (fun _ t => t = { s with heap := sortedHeap s.heap d us out }) E { s with heap := h6 } := fun out ho hg => by
    refine listUpdate_at (s := { s with heap := h6 }) hd6 rfl ?_ (hsz := Nat.zero_le _) (hsz2 := by rw [ho]; omega)
    show ({ s with heap := h6.update d (Obj.mapSeq fun _ => out) } : Shared) = _
    rw [eh out]
  by_cases h2 : us.toArray.size < 2
  · rw [if_pos h2, if_pos h2]
    apply wpAny_bind; apply wpAny_pure
    rw [StateT.run_pure]
    apply wpAny_bind; apply wpAny_pure
    dsimp only
    apply wpAny_bind
    apply seqEpoch_at (s := { s with heap := h6 }) hd6 rfl
    have e0 : (arrOf (SortSt.mk' general' (us.toArray.zip us.toArray) #[] 7 none)).map (·.2) = us.toArray := by
      show (us.toArray.zip us.toArray).map (·.2) = _
      apply Array.toList_inj.mp
      rw [Array.toList_map]
      simp only [Array.toList_zip]
      rw [← List.unzip_snd, List.unzip_zip rfl]
    rw [e0]
    refine wpAny_bind (wpAny_mono (last us.toArray (by simp) (g0 (by simpa using h2))) (fun _ t ht => ?_) fun _ _ x => x)
    subst ht
    have : e1 = (if (#[] : Array Value).size == us.toArray.size then e else e + 1) := by injection ee with w1; injection w1 with _ _ w2; injection w2 with _ w3; exact w3.symm
    rw [← this]
    simp only [bne_self_eq_false, Bool.false_eq_true, if_false]
    exact wpAny_pure (k _ (by simp) (g0 (by simpa using h2)))
  · rw [if_neg h2, if_neg h2]
    refine wpAny_bind (wpAny_mono (g1 (by simpa using h2) { s with heap := h6 } old A) (fun κ t hk => ?_) fun _ _ x => x.elim)
    obtain ⟨rfl, hk⟩ := hk
    refine wpAny_bind (wpAny_mono hk (fun r t hr => ?_) fun _ _ x => x.elim)
    obtain ⟨rfl, hf, hsz, hg⟩ := hr
    obtain ⟨⟨⟩, st⟩ := r
    dsimp only at hf hsz hg ⊢
    apply wpAny_bind
    apply seqEpoch_at (s := { s with heap := h6 }) hd6 rfl
    refine wpAny_bind (wpAny_mono (last _ hsz hg) (fun _ t ht => ?_) fun _ _ x => x)
    subst ht
    rw [hf]
    have : e1 = (if (#[] : Array Value).size == us.toArray.size then e else e + 1) := by injection ee with w1; injection w1 with _ _ w2; injection w2 with _ w3; exact w3.symm
    rw [← this]
    simp only [bne_self_eq_false, Bool.false_eq_true, if_false]
    exact wpAny_pure (k _ hsz hg)
theorem srt_call {l : Addr} {us : List Value} {G : Array Value -> Prop} {Q : Value -> Shared -> Prop} (hl : s.heap.IsList l us.toArray) (hz : us.length <= sizeLine) (g0 : us.length < 2 -> G us.toArray)
    (g1 : 2 <= us.length -> ∀ t : Shared, (∀ b o, s.heap.get? b = some o -> t.heap.get? b = some o) -> Srt prog w G us t)
    (k : ∀ out : Array Value, out.size = us.length -> G out -> Q (.ref (s.heap.objs.size + 1)) { s with heap := sortedAll s.heap us out }) : wpAny (model prog w) A (call (.builtin "sorted") [.ref l]) Q E s := by
  refine call_function_entry kind_sorted plain_sorted entry_sorted (args_sorted1 _) ?_
  unfold Builtin.«sorted»
  refine wpAny_bind (m := checkCount "sorted" 1 1 _) (wpAny_pure ?_)
  apply wpAny_bind
  refine collect_list hl ?_ hz
  apply wpAny_bind
  refine wpAny_newList ?_ hz
  have n1 : ((s.heap.push (seqObj "list" #[] 0)).update s.heap.objs.size (Obj.mapSeq (· ++ us.toArray))).objs.size = s.heap.objs.size + 1 := by rw [Heap.size_update, size_push']
  generalize hg : (s.heap.push (seqObj "list" #[] 0)).update s.heap.objs.size (Obj.mapSeq (· ++ us.toArray)) = g at n1
  have here : (g.push (seqObj "list" us.toArray 0)).get? (s.heap.objs.size + 1) = some (seqObj "list" us.toArray 0) := by rw [← n1]; exact Heap.get?_push_size _ rfl
  have kp : ∀ b o, s.heap.get? b = some o -> b ≠ s.heap.objs.size + 1 /\ (g.push (seqObj "list" us.toArray 0)).get? b = some o := fun b o q => by
    have lt := Heap.lt_size q
    refine ⟨Nat.ne_of_lt (Nat.lt_succ_of_lt lt), Heap.get?_push_of_some _ ?_⟩
    rw [← hg, Heap.get?_update_ne _ _ _ _ (Nat.ne_of_lt lt)]
    exact Heap.get?_push_of_some _ q
  show wpAny _ _ _ _ _ { s with heap := g.push (seqObj "list" us.toArray 0) }
  rw [n1]
  refine wpAny_bind (wpAny_holding (wpAny_call_entry slot_list_sort ⟨_, here, rfl⟩ entry_list_sort (srt_list (s := { s with heap := g.push (seqObj "list" us.toArray 0) }) here hz g0 (fun h2 t ht => g1 h2 t fun b o q => ht b o (kp b o q).1 (kp b o q).2) fun out ho hG => ⟨_, rfl, ?_⟩) (args_list_sort _)))
  refine wpAny_pure ⟨_, rfl, ?_⟩
  have e : sortedHeap (g.push (seqObj "list" us.toArray 0)) (s.heap.objs.size + 1) us out = sortedAll s.heap us out := by rw [← hg]; rfl
  show Q _ ({ s with heap := sortedHeap (g.push (seqObj "list" us.toArray 0)) (s.heap.objs.size + 1) us out } : Shared)
  rw [e]
  exact k out ho hG
end
end P2
namespace P2
open PySem L2 PySem.Spec PySem.Calls PySem.W
open PyProof.Rows hiding St K
noncomputable def lexL : List D -> List D -> Bool
  | .int i :: xs, .int j :: ys => if i = j then lexL xs ys else decide (i < j)
  | .str i :: xs, .str j :: ys => if i = j then lexL xs ys else decide (i.cps.toList < j.cps.toList)
  | [], _ :: _ => true
  | _, _ => false
noncomputable def ltQ : D -> D -> Bool
  | .int i, .int j => decide (i < j)
  | .str i, .str j => decide (i.cps.toList < j.cps.toList)
  | .tup a, .tup b => lexL a b
  | _, _ => false
noncomputable def sgL : List D -> Option (List Nat)
  | [] => some []
  | .int _ :: r => (sgL r).map (0 :: ·)
  | .str _ :: r => (sgL r).map (1 :: ·)
  | _ => none
noncomputable def sgQ : D -> Option (List Nat)
  | .int _ => some [0]
  | .str _ => some [1]
  | .tup (a :: r) => (sgL (a :: r)).map (2 :: ·)
  | _ => none
noncomputable def homQ : List D -> Bool
  | [] => true
  | d :: r => (sgQ d).isSome && r.all fun e => sgQ e == sgQ d
theorem homQ_all {ds : List D} (h : homQ ds = true) : ∃ s, ∀ d ∈ ds, sgQ d = some s := by
  cases ds with
  | nil => exact ⟨[], fun d hd => by simp at hd⟩
  | cons d r =>
    unfold homQ at h
    simp only [Bool.and_eq_true, List.all_eq_true, beq_iff_eq] at h
    obtain ⟨s, hs⟩ := Option.isSome_iff_exists.mp h.1
    refine ⟨s, fun e he => ?_⟩
    rcases List.mem_cons.mp he with rfl | he
    · exact hs
    · rw [h.2 e he, hs]
theorem str_ext {x y : Str} (h : x.cps.toList = y.cps.toList) : x = y := by
  cases x; cases y
  simp only at h
  congr 1
  exact Array.toList_inj.mp h
theorem slt_tri {x y : Str} (h1 : ¬ x.cps.toList < y.cps.toList) (h2 : ¬ y.cps.toList < x.cps.toList) : x = y :=
  str_ext (List.le_antisymm (List.not_lt.mp h2) (List.not_lt.mp h1))
theorem sgL_int {i : Int} {r : List D} {s : List Nat} (h : sgL (.int i :: r) = some s) : ∃ t, s = 0 :: t /\ sgL r = some t := by
  obtain ⟨t, h1, h2⟩ := Option.map_eq_some_iff.mp (show (sgL r).map (0 :: ·) = some s from h)
  exact ⟨t, h2.symm, h1⟩
theorem sgL_str {i : Str} {r : List D} {s : List Nat} (h : sgL (.str i :: r) = some s) : ∃ t, s = 1 :: t /\ sgL r = some t := by
  obtain ⟨t, h1, h2⟩ := Option.map_eq_some_iff.mp (show (sgL r).map (1 :: ·) = some s from h)
  exact ⟨t, h2.symm, h1⟩
inductive Two : List D -> List D -> Prop
  | nil : Two [] []
  | int (i j : Int) {xs ys : List D} : Two xs ys -> Two (.int i :: xs) (.int j :: ys)
  | str (i j : Str) {xs ys : List D} : Two xs ys -> Two (.str i :: xs) (.str j :: ys)
theorem two_of : ∀ {a b : List D} {s : List Nat}, sgL a = some s -> sgL b = some s -> Two a b
  | [], b, s, h1, h2 => by
    cases h1
    cases b with
    | nil => exact .nil
    | cons d r =>
      cases d with
      | int i => obtain ⟨t, e, _⟩ := sgL_int h2; cases e
      | str i => obtain ⟨t, e, _⟩ := sgL_str h2; cases e
      | _ => cases h2
  | .int i :: xs, b, s, h1, h2 => by
    obtain ⟨t, rfl, e1⟩ := sgL_int h1
    cases b with
    | nil => cases h2
    | cons d r =>
      cases d with
      | int j => obtain ⟨t', e, e2⟩ := sgL_int h2; cases e; exact .int i j (two_of e1 e2)
      | str j => obtain ⟨t', e, _⟩ := sgL_str h2; cases e
      | _ => cases h2
  | .str i :: xs, b, s, h1, h2 => by
    obtain ⟨t, rfl, e1⟩ := sgL_str h1
    cases b with
    | nil => cases h2
    | cons d r =>
      cases d with
      | str j => obtain ⟨t', e, e2⟩ := sgL_str h2; cases e; exact .str i j (two_of e1 e2)
      | int j => obtain ⟨t', e, _⟩ := sgL_int h2; cases e
      | _ => cases h2
  | .non :: _, _, _, h1, _ => by cases h1
  | .bl _ :: _, _, _, h1, _ => by cases h1
  | .ty _ :: _, _, _, h1, _ => by cases h1
  | .ref _ :: _, _, _, h1, _ => by cases h1
  | .tup _ :: _, _, _, h1, _ => by cases h1
  | .lst _ :: _, _, _, h1, _ => by cases h1
  | .exc _ _ _ :: _, _, _, h1, _ => by cases h1
theorem lexL_int (i j : Int) (xs ys : List D) : lexL (.int i :: xs) (.int j :: ys) = if i = j then lexL xs ys else decide (i < j) := rfl
theorem lexL_str (i j : Str) (xs ys : List D) : lexL (.str i :: xs) (.str j :: ys) = if i = j then lexL xs ys else decide (i.cps.toList < j.cps.toList) := rfl
theorem lex_irr {a b : List D} (h : Two a b) : lexL a a = false := by
  induction h with
  | nil => rfl
  | int i j h ih => rw [lexL_int, if_pos rfl]; exact ih
  | str i j h ih => rw [lexL_str, if_pos rfl]; exact ih
theorem lex_tri {a b : List D} (h : Two a b) (h1 : lexL a b = false) (h2 : lexL b a = false) : a = b := by
  induction h with
  | nil => rfl
  | int i j h ih =>
    rw [lexL_int] at h1 h2
    by_cases e : i = j
    · subst e
      rw [if_pos rfl] at h1 h2
      rw [ih h1 h2]
    · rw [if_neg e] at h1
      rw [if_neg (Ne.symm e)] at h2
      simp only [decide_eq_false_iff_not] at h1 h2
      omega
  | str i j h ih =>
    rw [lexL_str] at h1 h2
    by_cases e : i = j
    · subst e
      rw [if_pos rfl] at h1 h2
      rw [ih h1 h2]
    · rw [if_neg e] at h1
      rw [if_neg (Ne.symm e)] at h2
      simp only [decide_eq_false_iff_not] at h1 h2
      exact absurd (slt_tri h1 h2) e
theorem lex_tr : ∀ {a b c : List D}, Two a b -> Two b c -> lexL a b = true -> lexL b c = true -> lexL a c = true
  | [], _, _, .nil, _, h, _ => by cases h
  | .int i :: xs, .int j :: ys, .int k :: zs, .int _ _ p, .int _ _ q, h1, h2 => by
    rw [lexL_int] at h1 h2 ⊢
    by_cases e : i = j
    · subst e
      rw [if_pos rfl] at h1
      by_cases f : i = k
      · subst f
        rw [if_pos rfl] at h2 ⊢
        exact lex_tr p q h1 h2
      · rw [if_neg f] at h2 ⊢
        exact h2
    · rw [if_neg e] at h1
      by_cases f : j = k
      · subst f
        rw [if_neg e]
        exact h1
      · rw [if_neg f] at h2
        simp only [decide_eq_true_eq] at h1 h2
        rw [if_neg (by omega)]
        simp only [decide_eq_true_eq]
        omega
  | .str i :: xs, .str j :: ys, .str k :: zs, .str _ _ p, .str _ _ q, h1, h2 => by
    rw [lexL_str] at h1 h2 ⊢
    by_cases e : i = j
    · subst e
      rw [if_pos rfl] at h1
      by_cases f : i = k
      · subst f
        rw [if_pos rfl] at h2 ⊢
        exact lex_tr p q h1 h2
      · rw [if_neg f] at h2 ⊢
        exact h2
    · rw [if_neg e] at h1
      by_cases f : j = k
      · subst f
        rw [if_neg e]
        exact h1
      · rw [if_neg f] at h2
        simp only [decide_eq_true_eq] at h1 h2
        have t := List.lt_trans h1 h2
        rw [if_neg (fun w => by subst w; exact List.lt_irrefl _ t)]
        simp only [decide_eq_true_eq]
        exact t
inductive TwoQ : D -> D -> Prop
  | int (i j : Int) : TwoQ (.int i) (.int j)
  | str (i j : Str) : TwoQ (.str i) (.str j)
  | tup {a b : List D} {d e : D} : Two (d :: a) (e :: b) -> TwoQ (.tup (d :: a)) (.tup (e :: b))
theorem sgQ_form {x : D} {s : List Nat} (h : sgQ x = some s) : (∃ i, x = .int i /\ s = [0]) \/ (∃ i, x = .str i /\ s = [1]) \/ ∃ d r t, x = .tup (d :: r) /\ s = 2 :: t /\ sgL (d :: r) = some t := by
  unfold sgQ at h
  split at h
  · cases h; exact .inl ⟨_, rfl, rfl⟩
  · cases h; exact .inr (.inl ⟨_, rfl, rfl⟩)
  · rename_i a r
    obtain ⟨t, h1, h2⟩ := Option.map_eq_some_iff.mp h
    exact .inr (.inr ⟨a, r, t, rfl, h2.symm, h1⟩)
  · cases h
theorem twoQ_of {x y : D} {s : List Nat} (h1 : sgQ x = some s) (h2 : sgQ y = some s) : TwoQ x y := by
  rcases sgQ_form h1 with ⟨i, rfl, rfl⟩ | ⟨i, rfl, rfl⟩ | ⟨d, r, t, rfl, rfl, e1⟩
  · rcases sgQ_form h2 with ⟨j, rfl, _⟩ | ⟨j, rfl, e⟩ | ⟨d', r', t', rfl, e, e2⟩
    · exact .int i j
    · cases e
    · cases e
  · rcases sgQ_form h2 with ⟨j, rfl, e⟩ | ⟨j, rfl, e⟩ | ⟨d', r', t', rfl, e, e2⟩
    · cases e
    · exact .str i j
    · cases e
  · rcases sgQ_form h2 with ⟨j, rfl, e⟩ | ⟨j, rfl, e⟩ | ⟨d', r', t', rfl, e, e2⟩
    · cases e
    · cases e
    · cases e; exact .tup (two_of e1 e2)
theorem ltQ_irr {x : D} {s : List Nat} (h : sgQ x = some s) : ltQ x x = false := by
  cases twoQ_of h h with
  | int i j => exact decide_eq_false (by omega)
  | str i j => exact decide_eq_false (List.lt_irrefl _)
  | tup q => exact lex_irr q
theorem ltQ_tri {x y : D} {s : List Nat} (hx : sgQ x = some s) (hy : sgQ y = some s) (h1 : ltQ x y = false) (h2 : ltQ y x = false) : x = y := by
  cases twoQ_of hx hy with
  | int i j =>
    have a := of_decide_eq_false h1
    have b := of_decide_eq_false h2
    rw [show i = j by omega]
  | str i j => rw [slt_tri (of_decide_eq_false h1) (of_decide_eq_false h2)]
  | tup q => rw [lex_tri q h1 h2]
theorem ltQ_tr {x y z : D} {s : List Nat} (hx : sgQ x = some s) (hy : sgQ y = some s) (hz : sgQ z = some s) (h1 : ltQ x y = true) (h2 : ltQ y z = true) : ltQ x z = true := by
  cases twoQ_of hx hy with
  | int i j =>
    cases twoQ_of hy hz with
    | int _ k => have a := of_decide_eq_true h1; have b := of_decide_eq_true h2; exact decide_eq_true (by omega)
  | str i j =>
    cases twoQ_of hy hz with
    | str _ k => exact decide_eq_true (List.lt_trans (of_decide_eq_true h1) (of_decide_eq_true h2))
  | tup q =>
    cases twoQ_of hy hz with
    | tup q' => exact lex_tr q q' h1 h2
noncomputable def insQ (x : D) : List D -> List D
  | [] => [x]
  | y :: r => if ltQ y x = true then y :: insQ x r else x :: y :: r
noncomputable def sortQL (ds : List D) : List D := ds.foldr insQ []
noncomputable def Rising (ds : List D) : Prop := ds.Pairwise fun a b => ltQ b a = false
theorem insQ_perm (x : D) : ∀ r : List D, (insQ x r).Perm (x :: r)
  | [] => .refl _
  | y :: r => by
    unfold insQ
    split
    · exact ((insQ_perm x r).cons y).trans (.swap x y r)
    · exact .refl _
theorem sortQL_perm : ∀ ds : List D, (sortQL ds).Perm ds
  | [] => .refl _
  | d :: r => (insQ_perm d (sortQL r)).trans ((sortQL_perm r).cons d)
theorem insQ_rising {s : List Nat} {x : D} (hx : sgQ x = some s) : ∀ {r : List D}, (∀ d ∈ r, sgQ d = some s) -> Rising r -> Rising (insQ x r)
  | [], _, _ => List.pairwise_singleton ..
  | y :: r, hs, h => by
    have hy := hs y (.head _)
    obtain ⟨h1, h2⟩ := List.pairwise_cons.mp h
    unfold insQ
    split
    · rename_i lt
      refine List.pairwise_cons.mpr ⟨fun z hz => ?_, insQ_rising hx (fun d hd => hs d (.tail _ hd)) h2⟩
      rcases List.mem_cons.mp ((insQ_perm x r).mem_iff.mp hz) with rfl | hz
      · cases q : ltQ z y with
        | false => rfl
        | true => have := ltQ_tr hy hx hy lt q; rw [ltQ_irr hy] at this; cases this
      · exact h1 z hz
    · rename_i lt
      have lt' : ltQ y x = false := by simpa using lt
      refine List.pairwise_cons.mpr ⟨fun z hz => ?_, h⟩
      rcases List.mem_cons.mp hz with rfl | hz
      · exact lt'
      · cases q : ltQ z x with
        | false => rfl
        | true =>
          have hz' := hs z (.tail _ hz)
          cases q2 : ltQ x y with
          | true => have := ltQ_tr hz' hx hy q q2; rw [h1 z hz] at this; cases this
          | false => rw [ltQ_tri hx hy q2 lt'] at q; rw [h1 z hz] at q; cases q
theorem sortQL_rising {s : List Nat} : ∀ {ds : List D}, (∀ d ∈ ds, sgQ d = some s) -> Rising (sortQL ds)
  | [], _ => .nil
  | d :: r, h => insQ_rising (h d (.head _)) (fun e he => h e (.tail _ ((sortQL_perm r).mem_iff.mp he))) (sortQL_rising fun e he => h e (.tail _ he))
theorem rising_uniq {s : List Nat} {a b : List D} (h : a.Perm b) (hs : ∀ d ∈ a, sgQ d = some s) (ha : Rising a) (hb : Rising b) : a = b :=
  List.Perm.eq_of_pairwise (fun x y hx hy h1 h2 => ltQ_tri (hs x hx) (hs y (h.symm.mem_iff.mp hy)) h2 h1) ha hb h
end P2
namespace P2
open PySem L2 PySem.Spec PySem.Calls PySem.W
open PyProof.Rows hiding St K
noncomputable def FlV : D -> Value -> Prop
  | .int i, .int j _ => i = j
  | .str x, .str y _ => x = y
  | _, _ => False
inductive Fl2 : List D -> List Value -> Prop
  | nil : Fl2 [] []
  | cons {d : D} {v : Value} {ds : List D} {vs : List Value} : FlV d v -> Fl2 ds vs -> Fl2 (d :: ds) (v :: vs)
noncomputable def TupAt (h : Heap) (u : Value) (ds : List D) : Prop := ∃ a o xs n, u = .ref a /\ h.get? a = some o /\ o.cls = .type "tuple" /\ o.data = .seq xs n /\ Fl2 ds xs.toList
theorem TupAt.keep {h h' : Heap} {u : Value} {ds : List D} (t : TupAt h u ds) (k : ∀ b o, h.get? b = some o -> h'.get? b = some o) : TupAt h' u ds :=
  let ⟨a, o, xs, n, h1, h2, r⟩ := t; ⟨a, o, xs, n, h1, k a o h2, r⟩
noncomputable def ItemAt (h : Heap) (u : Value) : D -> Prop
  | .int i => FlV (.int i) u
  | .str x => FlV (.str x) u
  | .tup ds => TupAt h u ds
  | _ => False
theorem ItemAt.keep {h h' : Heap} {u : Value} {d : D} (t : ItemAt h u d) (k : ∀ b o, h.get? b = some o -> h'.get? b = some o) : ItemAt h' u d := by
  cases d with
  | tup ds => exact TupAt.keep t k
  | _ => exact t
theorem flat_int {i : Int} {v : Value} (h : FlV (.int i) v) : ∃ t, v = .int i t := by
  cases v with
  | int j t => cases h; exact ⟨t, rfl⟩
  | _ => exact h.elim
theorem flat_str {i : Str} {v : Value} (h : FlV (.str i) v) : ∃ t, v = .str i t := by
  cases v with
  | str j t => cases h; exact ⟨t, rfl⟩
  | _ => exact h.elim
section
variable {prog : Program} {w : World} {A : Around} {E : Value -> Shared -> Prop} {s : Shared}
theorem one_int {b : Bool} {i j : Int} {t u : Tok} {Q : Bool -> Shared -> Prop} (h : Q (decide (i < j)) s) : wpAny (model prog w) A (oneLt' b (.int i t) (.int j u)) Q E s := by
  cases b with
  | true => exact oneLt_int h
  | false => exact kat_one _ _ (lt_int h)
theorem one_str {b : Bool} {i j : Str} {t u : Tok} {Q : Bool -> Shared -> Prop} (h : Q (decide (i.cps.toList < j.cps.toList)) s) : wpAny (model prog w) A (oneLt' b (.str i t) (.str j u)) Q E s := by
  cases b with
  | true => exact oneLt_str h
  | false => exact kat_one _ _ (PyProof.Rows.lt_str h)
theorem lex_go {fl fin : Bool} {Q : Bool -> Shared -> Prop} : ∀ {xs ys : List D}, Two xs ys -> ∀ {us vs : List Value} (i : Nat), Fl2 xs us -> Fl2 ys vs -> (xs = ys -> Q fin s) -> (xs ≠ ys -> Q (lexL xs ys) s) -> KatLex prog w A fl fin Q (us.zip vs) i s
  | _, _, .nil, _, _, i, .nil, .nil, h, _ => h rfl
  | .int x :: xs, .int y :: ys, .int _ _ q, _, _, i, .cons (vs := us) fu ru, .cons (vs := vs) fv rv, h1, h2 => by
    obtain ⟨t, rfl⟩ := flat_int fu
    obtain ⟨t', rfl⟩ := flat_int fv
    rw [List.zip_cons_cons]
    refine kat_cons (wpAny_eqBool_int ?_)
    by_cases e : x = y
    · subst e
      rw [show (x == x) = true by simp]
      refine kat_yes (lex_go q (i + 1) ru rv (fun w => h1 (by rw [w])) fun w => ?_)
      have := h2 (fun z => w (by injection z))
      rwa [lexL_int, if_pos rfl] at this
    · rw [show (x == y) = false by simpa using e]
      refine kat_no (one_int ?_)
      have := h2 (fun z => e (by injection z with z1; injection z1))
      rwa [lexL_int, if_neg e] at this
  | .str x :: xs, .str y :: ys, .str _ _ q, _, _, i, .cons (vs := us) fu ru, .cons (vs := vs) fv rv, h1, h2 => by
    obtain ⟨t, rfl⟩ := flat_str fu
    obtain ⟨t', rfl⟩ := flat_str fv
    rw [List.zip_cons_cons]
    refine kat_cons (wpAny_eqBool_str ?_)
    by_cases e : x = y
    · subst e
      rw [show decide (x = x) = true by simp]
      refine kat_yes (lex_go q (i + 1) ru rv (fun w => h1 (by rw [w])) fun w => ?_)
      have := h2 (fun z => w (by injection z))
      rwa [lexL_str, if_pos rfl] at this
    · rw [show decide (x = y) = false by simpa using e]
      refine kat_no (one_str ?_)
      have := h2 (fun z => e (by injection z with z1; injection z1))
      rwa [lexL_str, if_neg e] at this
theorem Two.len {xs ys : List D} (q : Two xs ys) : xs.length = ys.length := by
  induction q with
  | nil => rfl
  | int i j h ih => rw [List.length_cons, List.length_cons, ih]
  | str i j h ih => rw [List.length_cons, List.length_cons, ih]
theorem all2_len {xs : List D} {us : List Value} (h : Fl2 xs us) : xs.length = us.length := by
  induction h with
  | nil => rfl
  | cons _ _ ih => rw [List.length_cons, List.length_cons, ih]
theorem tup_lt {fl : Bool} {u v : Value} {xs ys : List D} {Q : Bool -> Shared -> Prop} (q : Two xs ys) (hu : TupAt s.heap u xs) (hv : TupAt s.heap v ys) (h : Q (lexL xs ys) s) : wpAny (model prog w) A (keyLt' (tuples' fl) u v) Q E s := by
  obtain ⟨a, o, us, n, rfl, h1, h2, h3, h4⟩ := hu
  obtain ⟨b, p, vs, m, rfl, g1, g2, g3, g4⟩ := hv
  refine kat_lt h1 h3 g1 g3 (lex_go q 0 h4 g4 (fun e => ?_) fun _ => h)
  have l1 := all2_len h4
  have l2 := all2_len g4
  have l3 := q.len
  simp only [Array.length_toList] at l1 l2
  subst e
  rw [lex_irr q] at h
  rw [show decide (us.size < vs.size) = false from decide_eq_false (by omega)]
  exact h
end
section
variable {prog : Program} {w : World} {A : Around} {E : Value -> Shared -> Prop} {s : Shared}
inductive Items (h : Heap) : List Value -> List D -> Prop
  | nil : Items h [] []
  | cons {u : Value} {d : D} {us : List Value} {ds : List D} : ItemAt h u d -> Items h us ds -> Items h (u :: us) (d :: ds)
theorem Items.keep {h h' : Heap} {us : List Value} {ds : List D} (t : Items h us ds) (k : ∀ b o, h.get? b = some o -> h'.get? b = some o) : Items h' us ds := by
  induction t with
  | nil => exact .nil
  | cons a _ ih => exact .cons (a.keep k) ih
theorem Items.len {h : Heap} {us : List Value} {ds : List D} (t : Items h us ds) : us.length = ds.length := by
  induction t with
  | nil => rfl
  | cons a _ ih => rw [List.length_cons, List.length_cons, ih]
theorem Items.get {h : Heap} {us : List Value} {ds : List D} (t : Items h us ds) : ∀ {i : Nat}, i < ds.length -> ItemAt h (us.getD i .none) (ds.getD i .non) := by
  induction t with
  | nil => intro i hi; simp at hi
  | cons a _ ih =>
    intro i hi
    cases i with
    | zero => simpa using a
    | succ i => simpa using ih (by simpa using hi)
theorem ints_of {h : Heap} : ∀ {us : List Value} {ds : List D}, Items h us ds -> (∀ d ∈ ds, sgQ d = some [0]) -> ∃ ns, IntsAre us ns
  | _, _, .nil, _ => ⟨[], .nil⟩
  | _, _, .cons (d := d) a r, hs => by
    rcases sgQ_form (hs d (.head _)) with ⟨i, rfl, _⟩ | ⟨i, rfl, e⟩ | ⟨_, _, _, rfl, e, _⟩
    · obtain ⟨t, rfl⟩ := flat_int a
      obtain ⟨ns, hn⟩ := ints_of r fun d hd => hs d (.tail _ hd)
      exact ⟨i :: ns, .cons i t hn⟩
    · cases e
    · cases e
theorem strs_of {h : Heap} : ∀ {us : List Value} {ds : List D}, Items h us ds -> (∀ d ∈ ds, sgQ d = some [1]) -> ∃ ns, StrsAre us ns
  | _, _, .nil, _ => ⟨[], .nil⟩
  | _, _, .cons (d := d) a r, hs => by
    rcases sgQ_form (hs d (.head _)) with ⟨i, rfl, e⟩ | ⟨i, rfl, _⟩ | ⟨_, _, _, rfl, e, _⟩
    · cases e
    · obtain ⟨t, rfl⟩ := flat_str a
      obtain ⟨ns, hn⟩ := strs_of r fun d hd => hs d (.tail _ hd)
      exact ⟨i :: ns, .cons i t hn⟩
    · cases e
theorem tups_of {h : Heap} {k : Nat} {t : List Nat} : ∀ {us : List Value} {ds : List D}, Items h us ds -> (∀ d ∈ ds, sgQ d = some (2 :: k :: t)) -> ∃ fs, KatTups h us fs /\ fs.length = us.length /\ ∀ v ∈ fs, (k = 0 /\ ∃ i u, v = .int i u) \/ (k = 1 /\ ∃ i u, v = .str i u)
  | _, _, .nil, _ => ⟨[], .nil, rfl, fun v hv => by simp at hv⟩
  | _, _, .cons (d := d) a r, hs => by
    obtain ⟨fs, f1, f2, f3⟩ := tups_of r fun d hd => hs d (.tail _ hd)
    rcases sgQ_form (hs d (.head _)) with ⟨i, rfl, e⟩ | ⟨i, rfl, e⟩ | ⟨d0, r0, t0, rfl, e, e2⟩
    · cases e
    · cases e
    · cases e
      obtain ⟨b, o, xs, n, rfl, h1, h2, h3, h4⟩ := a
      cases hx : xs.toList with
      | nil => rw [hx] at h4; cases h4
      | cons f xr =>
        rw [hx] at h4
        cases h4 with
        | cons hf hr =>
          have h0 : xs[0]? = some f := by rw [← Array.getElem?_toList, hx]; rfl
          refine ⟨f :: fs, .cons h1 h2 h3 h0 f1, by simp [f2], fun v hv => ?_⟩
          rcases List.mem_cons.mp hv with rfl | hv
          · cases d0 with
            | int i =>
              obtain ⟨z, e1, _⟩ := sgL_int e2
              cases e1
              obtain ⟨u, rfl⟩ := flat_int hf
              exact .inl ⟨rfl, i, u, rfl⟩
            | str i =>
              obtain ⟨z, e1, _⟩ := sgL_str e2
              cases e1
              obtain ⟨u, rfl⟩ := flat_str hf
              exact .inr ⟨rfl, i, u, rfl⟩
            | _ => cases e2
          · exact f3 v hv
theorem kind_of {us : List Value} {ds : List D} {sg : List Nat} (t : Items s.heap us ds) (h2 : 2 <= us.length) (hs : ∀ d ∈ ds, sgQ d = some sg) :
    ∃ κ : SortKind, (∀ Q : SortKind -> Shared -> Prop, Q κ s -> wpAny (model prog w) A (keyKind' us.toArray) Q E s) /\
      ∀ i j, i < ds.length -> j < ds.length -> ∀ C : Bool -> Shared -> Prop, C (ltQ (ds.getD i .non) (ds.getD j .non)) s -> wpAny (model prog w) A (keyLt' κ (us.getD i .none) (us.getD j .none)) C E s := by
  have hl := t.len
  have gd : ∀ i, i < ds.length -> sgQ (ds.getD i .non) = some sg := fun i hi => by
    rw [List.getD_eq_getElem?_getD, List.getElem?_eq_getElem hi, Option.getD_some]
    exact hs _ (List.getElem_mem hi)
  have d0 := gd 0 (by omega)
  obtain ⟨v1, v2, vr, rfl⟩ : ∃ v1 v2 vr, us = v1 :: v2 :: vr := by
    match us, h2 with
    | v1 :: v2 :: vr, _ => exact ⟨v1, v2, vr, rfl⟩
  rcases sgQ_form d0 with ⟨i0, e0, rfl⟩ | ⟨i0, e0, rfl⟩ | ⟨x0, r0, t0, e0, rfl, e2⟩
  · obtain ⟨ns, hn⟩ := ints_of t hs
    refine ⟨oneType', fun Q q => by rw [keyKind_ints hn]; exact wpAny_pure q, fun i j hi hj C c => ?_⟩
    have a := t.get hi
    have b := t.get hj
    have gi := gd i hi
    have gj := gd j hj
    generalize ds.getD i .non = x at a c gi
    generalize ds.getD j .non = y at b c gj
    cases twoQ_of gi gj with
    | int x y =>
      obtain ⟨t1, e1⟩ := flat_int a
      obtain ⟨t2, e2⟩ := flat_int b
      rw [e1, e2, keyLt'_oneType]
      exact oneLt_int c
    | str x y => cases gi
    | tup q => rcases sgQ_form gi with ⟨_, e, _⟩ | ⟨_, e, _⟩ | ⟨_, _, _, _, e, _⟩ <;> cases e
  · obtain ⟨ns, hn⟩ := strs_of t hs
    refine ⟨oneType', fun Q q => by rw [keyKind_strs hn]; exact wpAny_pure q, fun i j hi hj C c => ?_⟩
    have a := t.get hi
    have b := t.get hj
    have gi := gd i hi
    have gj := gd j hj
    generalize ds.getD i .non = x at a c gi
    generalize ds.getD j .non = y at b c gj
    cases twoQ_of gi gj with
    | int x y => cases gi
    | str x y =>
      obtain ⟨t1, e1⟩ := flat_str a
      obtain ⟨t2, e2⟩ := flat_str b
      rw [e1, e2, keyLt'_oneType]
      exact oneLt_str c
    | tup q => rcases sgQ_form gi with ⟨_, e, _⟩ | ⟨_, e, _⟩ | ⟨_, _, _, _, e, _⟩ <;> cases e
  · obtain ⟨k, t1, ht0⟩ : ∃ k t1, t0 = k :: t1 := by
      cases x0 with
      | int i => obtain ⟨z, e1, _⟩ := sgL_int e2; exact ⟨_, _, e1⟩
      | str i => obtain ⟨z, e1, _⟩ := sgL_str e2; exact ⟨_, _, e1⟩
      | _ => cases e2
    subst ht0
    obtain ⟨fs, f1, f2, f3⟩ := tups_of t hs
    refine ⟨tuples' true, fun Q q => ?_, fun i j hi hj C c => ?_⟩
    · have hk : k = 0 \/ k = 1 := by
        cases fs with
        | nil => simp at f2
        | cons f fr => rcases f3 f (.head _) with ⟨e, _⟩ | ⟨e, _⟩ <;> omega
      rcases hk with rfl | rfl
      · refine kat_kind (T := .type "int") f1 (by rw [f2]; omega) (fun v hv => ?_) (by rfl) q
        rcases f3 v hv with ⟨_, i, u, rfl⟩ | ⟨e, _⟩
        · exact .now
        · cases e
      · refine kat_kind (T := .type "str") f1 (by rw [f2]; omega) (fun v hv => ?_) (by rfl) q
        rcases f3 v hv with ⟨e, _⟩ | ⟨_, i, u, rfl⟩
        · cases e
        · exact .now
    · have a := t.get hi
      have b := t.get hj
      have gi := gd i hi
      have gj := gd j hj
      generalize ds.getD i .non = x at a c gi
      generalize ds.getD j .non = y at b c gj
      cases twoQ_of gi gj with
      | int x y => cases gi
      | str x y => cases gi
      | tup q => exact tup_lt q a b c
noncomputable def outs (us : List Value) (p : Array Nat) : List Value := p.toList.map fun i => us.getD i .none
noncomputable def outD (ds : List D) (p : Array Nat) : List D := p.toList.map fun i => ds.getD i .non
theorem getD_map_range {α : Type} (l : List α) (x : α) : (List.range l.length).map (fun i => l.getD i x) = l := by
  apply List.ext_getElem
  · simp
  · intro i h1 h2
    simp [List.getElem_map, h2]
theorem outD_perm {ds : List D} {p : Array Nat} (h : Inr ds.length p) : (outD ds p).Perm ds := by
  have := (Array.perm_iff_toList_perm.mp h).map fun i => ds.getD i .non
  rw [show (List.range ds.length).toArray.toList = List.range ds.length from rfl, getD_map_range] at this
  exact this
theorem outD_rising {ds : List D} {sg : List Nat} (hs : ∀ d ∈ ds, sgQ d = some sg) {p : Array Nat} (h : Inr ds.length p) (h0 : 0 < ds.length)
    (a : Asc (rankOf ds.length fun i j => ltQ (ds.getD i .non) (ds.getD j .non)) p ds.length) (hc : ∀ i j, i < ds.length -> j < ds.length -> ltQ (ds.getD i .non) (ds.getD j .non) = decide (rankOf ds.length (fun i j => ltQ (ds.getD i .non) (ds.getD j .non)) i < rankOf ds.length (fun i j => ltQ (ds.getD i .non) (ds.getD j .non)) j)) : Rising (outD ds p) := by
  have sz := h.size
  refine List.pairwise_iff_getElem.mpr fun i j hi hj hij => ?_
  unfold outD at hi hj ⊢
  rw [List.length_map, Array.length_toList] at hi hj
  rw [List.getElem_map, List.getElem_map, Array.getElem_toList, Array.getElem_toList]
  have k1 : p.getD i 0 = p[i] := by simp [Array.getD, hi]
  have k2 : p.getD j 0 = p[j] := by simp [Array.getD, hj]
  have l1 := h.lt h0 i
  have l2 := h.lt h0 j
  have le := a i j (by omega) (by omega)
  rw [← getD_KK, ← getD_KK] at le
  rw [k1] at l1 le
  rw [k2] at l2 le
  rw [hc _ _ l2 l1]
  exact decide_eq_false (by omega)
theorem srt_items {us : List Value} {ds : List D} (t : Items s.heap us ds) (hh : homQ ds = true) (h2 : 2 <= us.length) (h64 : us.length < 64) : Srt prog w (fun out => ∃ p, Inr ds.length p /\ out.toList = P2.outs us p /\ outD ds p = sortQL ds) us s := by
  intro B
  obtain ⟨sg, hs⟩ := homQ_all hh
  obtain ⟨κ, k1, k2⟩ := kind_of (prog := prog) (w := w) (A := B) (E := fun _ _ => False) t h2 hs
  have hl := t.len
  have gd : ∀ i, i < ds.length -> sgQ (ds.getD i .non) = some sg := fun i hi => by
    rw [List.getD_eq_getElem?_getD, List.getElem?_eq_getElem hi, Option.getD_some]
    exact hs _ (List.getElem_mem hi)
  have hc := rank_ok (n := ds.length) (c := fun i j => ltQ (ds.getD i .non) (ds.getD j .non)) (fun i hi => ltQ_irr (gd i hi)) (fun i j k hi hj hk => ltQ_tr (gd i hi) (gd j hj) (gd k hk)) fun i j k hi hj hk h => by
    cases q1 : ltQ (ds.getD k .non) (ds.getD j .non) with
    | true => exact .inl rfl
    | false =>
      cases q2 : ltQ (ds.getD i .non) (ds.getD k .non) with
      | true => exact .inr rfl
      | false =>
        cases q3 : ltQ (ds.getD k .non) (ds.getD i .non) with
        | true => have := ltQ_tr (gd k hk) (gd i hi) (gd j hj) q3 h; rw [q1] at this; cases this
        | false => have := ltQ_tri (gd i hi) (gd k hk) q2 q3; rw [this, q1] at h; cases h
  refine k1 _ ⟨rfl, ?_⟩
  refine wpAny_mono (kat_run (ks := us) (vs := us) (Q := fun st' t' => t' = s /\ failedOf st' = none /\ ((arrOf st').map (·.2)).size = us.length /\ ∃ p, Inr ds.length p /\ ((arrOf st').map (·.2)).toList = P2.outs us p /\ outD ds p = sortQL ds)
    (G := fun p t' => t' = s /\ Inr ds.length p /\ outD ds p = sortQL ds) rfl h2 h64 (fun p st' t' a1 a2 a3 a4 => ?_) ?_) (fun r t' q => q) fun _ _ x => x
  · obtain ⟨b1, b2, b3⟩ := a4
    have e := kat_snds rfl a2
    refine ⟨b1, a3, ?_, p, b2, ?_, b3⟩
    · rw [e]; simp [a1]
    · rw [e]; rfl
  · rw [hl]
    refine KOk.wp (c := fun i j => ltQ (ds.getD i .non) (ds.getD j .non)) (Q := fun p => Inr ds.length p /\ outD ds p = sortQL ds) (fun i j hi hj C c => k2 i j hi hj C c) (fun p q => ⟨rfl, q⟩) ?_
    refine ok_sort hc (by omega) fun p g1 g2 => ⟨g1, ?_⟩
    have pm := outD_perm g1
    exact rising_uniq (pm.trans (sortQL_perm ds).symm) (fun d hd => hs d (pm.mem_iff.mp hd)) (outD_rising hs g1 (by omega) g2 hc) (sortQL_rising hs)
end
end P2
namespace P2
open PySem L2 PySem.Spec PySem.Calls PySem.W
open PyProof.Rows hiding St K
section
variable {X : Cx} {E : XK} {e : Expr} {ta : TE} {f : Ev -> R D} {p1 pos : Pos}
theorem fl_of {K : W.Frag} {al : Addr -> Prop} {H : Hp} {v : V} {d : D} {u : Value} (r : Rep K al H v d) (hv : RelV v u) (h : (∃ i, d = .int i) \/ ∃ i, d = .str i) : FlV d u := by
  rcases h with ⟨i, rfl⟩ | ⟨i, rfl⟩
  · cases r; obtain ⟨t, rfl⟩ := hv; rfl
  · cases r; obtain ⟨t, rfl⟩ := hv; rfl
theorem fl2_of {K : W.Frag} {al : Addr -> Prop} {H : Hp} : ∀ {ds : List D} {sg : List Nat} {vs : List V} {us : List Value}, sgL ds = some sg -> Reps K al H vs ds -> Vals vs us -> Fl2 ds us
  | [], _, _, _, _, .nil, .nil => .nil
  | .int i :: r, _, _, _, h, .cons a b, .cons hv hr => by
    obtain ⟨t, _, e⟩ := sgL_int h
    exact .cons (fl_of a hv (.inl ⟨i, rfl⟩)) (fl2_of e b hr)
  | .str i :: r, _, _, _, h, .cons a b, .cons hv hr => by
    obtain ⟨t, _, e⟩ := sgL_str h
    exact .cons (fl_of a hv (.inr ⟨i, rfl⟩)) (fl2_of e b hr)
  | .non :: _, _, _, _, h, _, _ => by cases h
  | .bl _ :: _, _, _, _, h, _, _ => by cases h
  | .ty _ :: _, _, _, _, h, _, _ => by cases h
  | .ref _ :: _, _, _, _, h, _, _ => by cases h
  | .tup _ :: _, _, _, _, h, _, _ => by cases h
  | .lst _ :: _, _, _, _, h, _, _ => by cases h
  | .exc _ _ _ :: _, _, _, _, h, _, _ => by cases h
theorem item_of {pins : List (Addr × Obj)} {s : Shared} {σ : L2.St} {H : Hp} (I : Inv X pins σ H s) {al : Addr -> Prop} {v : V} {d : D} {u : Value} {sg : List Nat} (r : Rep X.K al H v d) (hv : RelV v u) (h : sgQ d = some sg) : ItemAt s.heap u d := by
  rcases sgQ_form h with ⟨i, rfl, _⟩ | ⟨i, rfl, _⟩ | ⟨d0, r0, t, rfl, _, e⟩
  · exact fl_of r hv (.inl ⟨i, rfl⟩)
  · exact fl_of r hv (.inr ⟨i, rfl⟩)
  · obtain ⟨a, vs, rfl, h1, h2⟩ := r.tupIn
    obtain rfl : u = .ref a := hv
    obtain ⟨its, q, ⟨o, g1, g2, n, g3⟩, _⟩ := I.tuple h1
    exact ⟨a, o, _, n, rfl, g1, g2, g3, fl2_of e h2 q⟩
theorem items_of {pins : List (Addr × Obj)} {s : Shared} {σ : L2.St} {H : Hp} (I : Inv X pins σ H s) {al : Addr -> Prop} {sg : List Nat} : ∀ {ds : List D} {vs : List V} {us : List Value}, (∀ d ∈ ds, sgQ d = some sg) -> Reps X.K al H vs ds -> Vals vs us -> Items s.heap us ds
  | [], _, _, _, .nil, .nil => .nil
  | d :: r, _, _, h, .cons a b, .cons hv hr => .cons (item_of I a hv (h d (.head _))) (items_of I (fun e he => h e (.tail _ he)) b hr)
theorem vals_pick {vs : List V} {us : List Value} (h : Vals vs us) : ∀ l : List Nat, (∀ i ∈ l, i < us.length) -> Vals (l.map fun i => vs.getD i .non) (l.map fun i => us.getD i .none)
  | [], _ => .nil
  | i :: l, hl => by
    have get : ∀ {vs : List V} {us : List Value}, Vals vs us -> ∀ i, i < us.length -> RelV (vs.getD i .non) (us.getD i .none) := fun {vs us} h => by
      induction h with
      | nil => intro i hi; simp at hi
      | cons a _ ih =>
        intro i hi
        cases i with
        | zero => simpa using a
        | succ i => simpa using ih i (by simpa using hi)
    exact .cons (get h i (hl i (.head _))) (vals_pick h l fun j hj => hl j (.tail _ hj))
theorem reps_pick {K : W.Frag} {al : Addr -> Prop} {H : Hp} {vs : List V} {ds : List D} (h : Reps K al H vs ds) : ∀ l : List Nat, (∀ i ∈ l, i < ds.length) -> Reps K al H (l.map fun i => vs.getD i .non) (l.map fun i => ds.getD i .non)
  | [], _ => .nil
  | i :: l, hl => by
    have hi := hl i (.head _)
    obtain ⟨v, e1, e2⟩ := h.getD (List.getElem?_eq_getElem hi)
    refine .cons ?_ (reps_pick h l fun j hj => hl j (.tail _ hj))
    show Rep K al H (vs.getD i V.non) (ds.getD i D.non)
    rw [List.getD_eq_getElem?_getD, List.getD_eq_getElem?_getD, e1, List.getElem?_eq_getElem hi]
    exact e2
theorem inr_all {n : Nat} {p : Array Nat} (h : Inr n p) : ∀ i ∈ p.toList, i < n := fun i hi => by
  have := (Array.perm_iff_toList_perm.mp h).mem_iff.mp hi
  simpa using this
theorem pe_sortedQ (he : PE X e ta) (hg : Gl X "sorted") (hm : X.mg "sorted" = none)
    (hs : starEach [e] X.env = (false, eval e X.env) :: starEach [] X.env := by rfl) (hpl : (backTo pos (starEach [] X.env)).any (·.1) = false := by rfl) :
    PE X (.Call (.Name "sorted" p1) [e] [] pos) (fun σ H Q => ta σ H fun x0 H1 => ∃ x, [x0] = [x] /\ ∃ (l : Addr) (vs : List V) (ds : List D) (al : Addr -> Prop), x = .ref l /\ SqL X.K H1 l vs /\ Reps X.K al H1 vs ds /\ homQ ds = true /\ ds.length < 64 /\ ∀ p ws, H1 p = none -> Reps X.K al H1 ws (sortQL ds) -> Q (.ref p) (upd H1 p (.lst ws))) := by
  intro pins s σ H Q I h
  refine wpAny_Call_Name_kw (ld_blt I hg hm bt_sorted ?_)
  have PA1 : PA X [e] (tCons ta tNil) := pa_cons he pa_nil hs
  refine PyProof.Rows.callWith_builtin1 (thn (PA1 pos pins s σ H (fun vs0 H1 => ∃ x, vs0 = [x] /\ ∃ (l : Addr) (vs : List V) (ds : List D) (al : Addr -> Prop), x = .ref l /\ SqL X.K H1 l vs /\ Reps X.K al H1 vs ds /\ homQ ds = true /\ ds.length < 64 /\ ∀ p ws, H1 p = none -> Reps X.K al H1 ws (sortQL ds) -> Q (.ref p) (upd H1 p (.lst ws))) I h) fun us s1 ⟨vs0, H1, I1, r1, q1⟩ => ?_) hs hpl
  obtain ⟨x, rfl, l, vs, ds, al, rfl, hl, rv, hh, h64, q⟩ := q1
  obtain ⟨u, rfl, ru⟩ := vals1 r1
  obtain rfl : u = Value.ref l := ru
  obtain ⟨its, vv, pl, hz⟩ := I1.list hl
  obtain ⟨sg, hsg⟩ := homQ_all hh
  have hle := vv.length
  have hle2 := rv.length
  have it := items_of I1 hsg rv vv
  have done : ∀ (out : Array Value) (ws : List V), out.size = its.length -> Vals ws out.toList -> Reps X.K al H1 ws (sortQL ds) -> ∃ v H', Inv X pins σ H' { s1 with heap := sortedAll s1.heap its out } /\ RelV v (.ref (s1.heap.objs.size + 1)) /\ Q v H' := fun out ws ho hw hr => by
    obtain ⟨ep, he⟩ := sortedAll_at s1.heap its out
    have lw : ws.length <= sizeLine := by
      have := hw.length
      simp only [Array.length_toList] at this
      omega
    have I2 : Inv X pins σ (upd H1 (s1.heap.objs.size + 1) (.lst ws)) { s1 with heap := sortedAll s1.heap its out } :=
      I1.laid (t' := s1.toks) (fun b u e => sortedAll_old e) (Nat.le_succ _) (show ObjOk X.prog X.w _ _ _ (.lst ws) from ⟨lw, out.toList, ep, hw, by rw [Array.toArray_toList]; exact he⟩)
    exact ⟨.ref _, _, I2, rfl, q _ ws (I1.hok.fresh (Nat.le_succ _)) hr⟩
  refine srt_call (G := fun out => ∃ ws, Vals ws out.toList /\ Reps X.K al H1 ws (sortQL ds)) pl.isList (by omega) (fun h2 => ⟨vs, by simpa using vv, ?_⟩) (fun h2 t kp B => ?_) fun out ho hG => ?_
  · have : sortQL ds = ds := by
      match ds, hle2 with
      | [], _ => rfl
      | [d], _ => rfl
      | _ :: _ :: r, w => simp at w; omega
    rw [this]; exact rv
  · have := srt_items (prog := X.prog) (w := X.w) (s := t) (it.keep kp) hh h2 (by omega) B
    refine wpAny_mono this (fun κ t' hk => ⟨hk.1, wpAny_mono hk.2 (fun r t'' hr => ⟨hr.1, hr.2.1, hr.2.2.1, ?_⟩) fun _ _ x => x⟩) fun _ _ x => x
    obtain ⟨p, g1, g2, g3⟩ := hr.2.2.2
    have al1 := inr_all g1
    refine ⟨p.toList.map fun i => vs.getD i .non, ?_, ?_⟩
    · rw [g2]; exact vals_pick vv _ fun i hi => by have := al1 i hi; omega
    · rw [← g3]; exact reps_pick rv _ al1
  · obtain ⟨ws, hw, hr⟩ := hG
    exact done out ws ho hw hr
end
end P2
namespace P2
open PySem L2
inductive Z where
  | d (x : D) | loc (n : Nat) | tk (ks : List Key)
inductive Cell where
  | li (zs : List Z) | ob (C : Addr) (fs : List (Str × Z)) | dk (kvs : List (Key × Z)) | dt (kvs : List (List Key × Z)) | no | mk
noncomputable abbrev Sto := List Cell
noncomputable abbrev Lo := Nat -> Option Addr
noncomputable abbrev ZEv := List (Option Z)
noncomputable def RepZ (K : W.Frag) (al : Addr -> Prop) (lo : Lo) (H : Hp) (v : V) : Z -> Prop
  | .d x => Rep K al H v x
  | .loc n => ∃ a, lo n = some a /\ v = .ref a
  | .tk ks => ∃ a, al a /\ H a = some (.tup (ks.map kV)) /\ v = .ref a
inductive RepZs (K : W.Frag) (al : Addr -> Prop) (lo : Lo) (H : Hp) : List V -> List Z -> Prop
  | nil : RepZs K al lo H [] []
  | cons {v : V} {z : Z} {vs : List V} {zs : List Z} : RepZ K al lo H v z -> RepZs K al lo H vs zs -> RepZs K al lo H (v :: vs) (z :: zs)
inductive RepK {κ : Type} (K : W.Frag) (al : Addr -> Prop) (lo : Lo) (H : Hp) : List (κ × V) -> List (κ × Z) -> Prop
  | nil : RepK K al lo H [] []
  | cons {k : κ} {v : V} {z : Z} {vs : List (κ × V)} {zs : List (κ × Z)} : RepZ K al lo H v z -> RepK K al lo H vs zs -> RepK K al lo H ((k, v) :: vs) ((k, z) :: zs)
noncomputable def CellAt (K : W.Frag) (al : Addr -> Prop) (lo : Lo) (H : Hp) (a : Addr) : Cell -> Prop
  | .li zs => ∃ vs, H a = some (.lst vs) /\ RepZs K al lo H vs zs
  | .ob C fs => ∃ dx us, H a = some (.ins C dx us) /\ RepK K al lo H us fs
  | .dk kvs => ∃ us, H a = some (.dK us) /\ RepK K al lo H us kvs
  | .dt kvs => ∃ us, H a = some (.dT us) /\ RepK K al lo H us kvs
  | .no => False
  | .mk => False
noncomputable def TupTb (o : HO) : Prop := (∃ ys, o = .tup ys) \/ ∃ ps, o = .tbl ps
structure StOk (K : W.Frag) (al : Addr -> Prop) (lo : Lo) (H : Hp) (S : Sto) : Prop where
  at' : ∀ n a, lo n = some a -> ∃ c, S[n]? = some c /\ CellAt K al lo H a c
  has : ∀ n c, S[n]? = some c -> c ≠ .no -> c ≠ .mk -> ∃ a, lo n = some a
  na : ∀ n a, lo n = some a -> ¬ al a
  inj : ∀ m n a, lo m = some a -> lo n = some a -> m = n
  tl : S[0]? = some .mk -> ∀ b o, H b = some o -> TupTb o -> al b
structure Z0 where
  H : Hp
  al : Addr -> Prop
  lo : Lo
  n : Nat
structure EZ (K : W.Frag) (B : Z0) (al : Addr -> Prop) (lo : Lo) (H : Hp) (S : Sto) : Prop where
  fr : ∀ b o, NT o -> B.H b = some o -> (∀ n, B.lo n ≠ some b) -> H b = some o
  hf : ∀ b, H b = none -> B.H b = none
  tt : TbOk K H
  fresh : ∀ a, H a = none -> al a
  st : StOk K al lo H S
  lx : ∀ n a, B.lo n = some a -> lo n = some a
  nw : ∀ n a, lo n = some a -> B.lo n = some a \/ (B.H a = none /\ B.n <= n)
  bd : ∀ n a, B.lo n = some a -> n < B.n
  sz : B.n <= S.length
  xt : Xt B.al B.H al H
  sb : ∀ a, al a -> B.al a \/ B.H a = none
structure RZ (K : W.Frag) (B : Z0) (al : Addr -> Prop) (lo : Lo) (H : Hp) (σ : St) (ρ : ZEv) (S : Sto) : Prop extends EZ K B al lo H S where
  len : ρ.length = σ.length
  vr : ∀ (i : Nat) (z : Z), ρ[i]? = some (some z) -> ∃ v, σ[i]? = some (some v) /\ RepZ K al lo H v z
noncomputable def Lx (lo lo' : Lo) : Prop := ∀ n a, lo n = some a -> lo' n = some a
theorem Lx.refl {lo : Lo} : Lx lo lo := fun _ _ h => h
theorem Lx.trans {lo lo1 lo2 : Lo} (x : Lx lo lo1) (y : Lx lo1 lo2) : Lx lo lo2 := fun n a h => y n a (x n a h)
section
variable {K : W.Frag} {al al' : Addr -> Prop} {lo lo' : Lo} {H H' : Hp}
theorem RepZ.mv (x : Xt al H al' H') (y : Lx lo lo') {v : V} {z : Z} (r : RepZ K al lo H v z) : RepZ K al' lo' H' v z := by
  cases z with
  | d d => exact Rep.mv x r
  | loc n => obtain ⟨a, h1, h2⟩ := r; exact ⟨a, y n a h1, h2⟩
  | tk ks => obtain ⟨a, h1, h2, h3⟩ := r; obtain ⟨g1, g2⟩ := x a (.tup (ks.map kV)) (fun _ h => nomatch h) h1 h2; exact ⟨a, g1, g2, h3⟩
theorem RepZs.mv (x : Xt al H al' H') (y : Lx lo lo') {vs : List V} {zs : List Z} (r : RepZs K al lo H vs zs) : RepZs K al' lo' H' vs zs := by
  induction r with
  | nil => exact .nil
  | cons a _ ih => exact .cons (a.mv x y) ih
theorem RepK.mv {κ : Type} (x : Xt al H al' H') (y : Lx lo lo') {vs : List (κ × V)} {zs : List (κ × Z)} (r : RepK K al lo H vs zs) : RepK K al' lo' H' vs zs := by
  induction r with
  | nil => exact .nil
  | cons a _ ih => exact .cons (a.mv x y) ih
theorem RepZs.length {vs : List V} {zs : List Z} (r : RepZs K al lo H vs zs) : vs.length = zs.length := by
  induction r with
  | nil => rfl
  | cons _ _ ih => rw [List.length_cons, List.length_cons, ih]
theorem RepZs.append {vs ws : List V} {zs ys : List Z} (r : RepZs K al lo H vs zs) (q : RepZs K al lo H ws ys) : RepZs K al lo H (vs ++ ws) (zs ++ ys) := by
  induction r with
  | nil => exact q
  | cons a _ ih => exact .cons a ih
theorem RepZs.get {vs : List V} {zs : List Z} (r : RepZs K al lo H vs zs) {i : Nat} {z : Z} (e : zs[i]? = some z) : ∃ v, vs[i]? = some v /\ RepZ K al lo H v z := by
  induction r generalizing i with
  | nil => simp at e
  | cons a _ ih =>
    cases i with
    | zero => simp at e; subst e; exact ⟨_, rfl, a⟩
    | succ i => simpa using ih (by simpa using e)
theorem RepZs.ofD {vs : List V} {ds : List D} (r : Reps K al H vs ds) : RepZs K al lo H vs (ds.map .d) := by
  induction ds generalizing vs with
  | nil => cases r; exact .nil
  | cons d ds ih => cases r with | cons a b => exact .cons a (ih b)
theorem RepZs.toD {vs : List V} {ds : List D} (r : RepZs K al lo H vs (ds.map .d)) : Reps K al H vs ds := by
  induction ds generalizing vs with
  | nil => cases r; exact .nil
  | cons d ds ih => cases r with | cons a b => exact .cons a (ih b)
theorem CellAt.mv (x : Xt al H al' H') (y : Lx lo lo') {a : Addr} {c : Cell} (e : ∀ o, NT o -> H a = some o -> H' a = some o) (r : CellAt K al lo H a c) : CellAt K al' lo' H' a c := by
  cases c with
  | li zs => obtain ⟨vs, h1, h2⟩ := r; exact ⟨vs, e _ nt_lst h1, h2.mv x y⟩
  | ob C fs => obtain ⟨dx, us, h1, h2⟩ := r; exact ⟨dx, us, e _ (fun _ h => nomatch h) h1, h2.mv x y⟩
  | dk kvs => obtain ⟨us, h1, h2⟩ := r; exact ⟨us, e _ (fun _ h => nomatch h) h1, h2.mv x y⟩
  | dt kvs => obtain ⟨us, h1, h2⟩ := r; exact ⟨us, e _ (fun _ h => nomatch h) h1, h2.mv x y⟩
  | no => exact r
  | mk => exact r
theorem CellAt.isO {a : Addr} {c : Cell} (r : CellAt K al lo H a c) : H a ≠ none /\ (∀ ps, H a ≠ some (.tbl ps)) /\ (∀ q, H a ≠ some (CodeO a q)) := by
  cases c with
  | li zs => obtain ⟨vs, h1, h2⟩ := r; rw [h1]; exact ⟨nofun, fun _ => nofun, fun _ w => by unfold CodeO at w; exact nomatch w⟩
  | ob C fs => obtain ⟨dx, us, h1, h2⟩ := r; rw [h1]; exact ⟨nofun, fun _ => nofun, fun _ w => by unfold CodeO at w; exact nomatch w⟩
  | dk kvs => obtain ⟨us, h1, h2⟩ := r; rw [h1]; exact ⟨nofun, fun _ => nofun, fun _ w => by unfold CodeO at w; exact nomatch w⟩
  | dt kvs => obtain ⟨us, h1, h2⟩ := r; rw [h1]; exact ⟨nofun, fun _ => nofun, fun _ w => by unfold CodeO at w; exact nomatch w⟩
  | no => exact r.elim
  | mk => exact r.elim
theorem CellAt.nTT {a : Addr} {c : Cell} (r : CellAt K al lo H a c) {o : HO} (h : H a = some o) : ¬ TupTb o := by
  rintro (⟨ys, rfl⟩ | ⟨ps, rfl⟩)
  · cases c with
    | li zs => obtain ⟨vs, h1, h2⟩ := r; rw [h] at h1; cases h1
    | ob C fs => obtain ⟨dx, us, h1, h2⟩ := r; rw [h] at h1; cases h1
    | dk kvs => obtain ⟨us, h1, h2⟩ := r; rw [h] at h1; cases h1
    | dt kvs => obtain ⟨us, h1, h2⟩ := r; rw [h] at h1; cases h1
    | no => exact r.elim
    | mk => exact r.elim
  · exact r.isO.2.1 ps h
end
section
variable {K : W.Frag} {B : Z0} {al : Addr -> Prop} {lo : Lo} {H H' : Hp} {σ : St} {ρ : ZEv} {S : Sto}
theorem EZ.start {zs : List Z} (tt : TbOk K H) (fr : ∀ a, H a = none -> al a) (st : StOk K al lo H S) : EZ K ⟨H, al, lo, S.length⟩ al lo H S where
  fr := fun _ _ _ h _ => h
  hf := fun _ h => h
  tt := tt
  fresh := fr
  st := st
  lx := fun _ _ h => h
  nw := fun _ _ h => .inl h
  bd := fun n a h => by obtain ⟨c, e, _⟩ := st.at' n a h; exact (List.getElem?_eq_some_iff.mp e).1
  sz := Nat.le_refl _
  xt := .refl
  sb := fun _ h => .inl h
theorem EZ.grow (r : EZ K B al lo H S) (s : Same K H H') : EZ K B al lo H' S where
  fr := fun b o n h w => s.at' b o n (r.fr b o n h w)
  hf := fun b h => r.hf b (s.fr b h)
  tt := s.tt r.tt
  fresh := fun a h => r.fresh a (s.fr a h)
  st := {
    at' := fun n a h => by obtain ⟨c, e, q⟩ := r.st.at' n a h; exact ⟨c, e, q.mv (.of s) .refl fun o no h => s.at' _ o no h⟩
    has := r.st.has
    na := r.st.na
    inj := r.st.inj
    tl := fun m b o hb ho => by
      cases q : H b with
      | none => exact r.fresh b q
      | some o0 =>
        by_cases nt : NT o0
        · have e := s.at' b o0 nt q
          rw [hb] at e; cases e
          exact r.st.tl m b o q ho
        · exact r.st.tl m b o0 q (.inr (Classical.byContradiction fun w => nt fun ps e => w ⟨ps, e⟩)) }
  lx := r.lx
  nw := r.nw
  bd := r.bd
  sz := r.sz
  xt := r.xt.trans (.of s)
  sb := r.sb
theorem RZ.grow (r : RZ K B al lo H σ ρ S) (s : Same K H H') : RZ K B al lo H' σ ρ S :=
  ⟨r.toEZ.grow s, r.len, fun i z e => let ⟨v, h1, h2⟩ := r.vr i z e; ⟨v, h1, h2.mv (.of s) .refl⟩⟩
noncomputable def purS : Option Z -> Sl
  | some (.d x) => .sh x
  | _ => .no
noncomputable def pur (ρ : ZEv) : Ev := ρ.map purS
theorem RZ.rs (r : RZ K B al lo H σ ρ S) : RS K al H al H σ (pur ρ) where
  same := .refl H
  tt := r.tt
  fresh := r.fresh
  sub := fun _ h => h
  pf := r.fresh
  len := by unfold pur; rw [List.length_map]; exact r.len
  sh := fun i d h => by
    unfold pur at h
    rw [List.getElem?_map] at h
    obtain ⟨z, h1, h2⟩ := Option.map_eq_some_iff.mp h
    cases z with
    | none => cases h2
    | some z =>
      cases z with
      | d x => cases h2; exact r.vr i _ h1
      | loc n => cases h2
      | tk ks => cases h2
  ow := fun i ds h => by
    unfold pur at h
    rw [List.getElem?_map] at h
    obtain ⟨z, h1, h2⟩ := Option.map_eq_some_iff.mp h
    cases z with
    | none => cases h2
    | some z => cases z <;> cases h2
  apart := fun i j ds ds' a h _ _ _ => by
    unfold pur at h
    rw [List.getElem?_map] at h
    obtain ⟨z, h1, h2⟩ := Option.map_eq_some_iff.mp h
    cases z with
    | none => cases h2
    | some z => cases z <;> cases h2
theorem RZ.set (r : RZ K B al lo H σ ρ S) {i : Nat} {v : V} {z : Z} (hi : i < ρ.length) (q : RepZ K al lo H v z) : RZ K B al lo H (σ.set i (some v)) (ρ.set i (some z)) S where
  toEZ := r.toEZ
  len := by rw [List.length_set, List.length_set]; exact r.len
  vr := fun j e h => by
    by_cases w : i = j
    · subst w
      rw [List.getElem?_set_self hi] at h; cases h
      exact ⟨v, List.getElem?_set_self (by rw [← r.len]; exact hi), q⟩
    · rw [List.getElem?_set_ne w] at h
      obtain ⟨u, a, b⟩ := r.vr j e h
      exact ⟨u, by rw [List.getElem?_set_ne w]; exact a, b⟩
noncomputable def loNew (lo : Lo) (n : Nat) (p : Addr) : Lo := fun m => if m = n then some p else lo m
theorem StOk.none (st : StOk K al lo H S) : lo S.length = Option.none := by
  cases h : lo S.length with
  | none => rfl
  | some a =>
    obtain ⟨c, e, _⟩ := st.at' _ a h
    have := (List.getElem?_eq_some_iff.mp e).1
    omega
theorem loNew_x (st : StOk K al lo H S) (p : Addr) : Lx lo (loNew lo S.length p) := fun n a h => by
  unfold loNew
  rw [if_neg]
  · exact h
  · intro w; rw [w, st.none] at h; cases h
theorem xt_new {p : Addr} {o : HO} (hp : H p = none) : Xt al H (fun b => al b /\ b ≠ p) (upd H p o) := fun b u _ hb e => ⟨⟨hb, ne_of_none e hp⟩, by rw [upd_ne (ne_of_none e hp)]; exact e⟩
theorem EZ.new (r : EZ K B al lo H S) {p : Addr} {o : HO} {c : Cell} (hp : H p = none) (no : NT o) (hc : CellAt K (fun b => al b /\ b ≠ p) (loNew lo S.length p) (upd H p o) p c) (cn : c ≠ .no) :
    EZ K B (fun b => al b /\ b ≠ p) (loNew lo S.length p) (upd H p o) (S ++ [c]) := by
  have s : Same K H (upd H p o) := same_upd hp
  have x : Xt al H (fun b => al b /\ b ≠ p) (upd H p o) := xt_new hp
  have g := r.grow s
  refine ⟨g.fr, g.hf, g.tt, fun a h => ⟨g.fresh a h, fun w => by rw [w, upd_same] at h; cases h⟩, ⟨fun n a h => ?_, fun n c' h w w' => ?_, fun n a h w => ?_, fun m n a h1 h2 => ?_, fun m b u hb hu => ?_⟩, fun n a h => loNew_x r.st p n a (r.lx n a h), fun n a h => ?_, r.bd, by rw [List.length_append]; have := r.sz; omega, r.xt.trans x, fun b hb => r.sb b hb.1⟩
  · unfold loNew at h
    by_cases w : n = S.length
    · rw [if_pos w] at h; cases h
      exact ⟨c, by rw [w]; simp, hc⟩
    · rw [if_neg w] at h
      obtain ⟨c', e, q⟩ := r.st.at' n a h
      have ne : a ≠ p := fun z => q.isO.1 (by rw [z]; exact hp)
      exact ⟨c', by rw [List.getElem?_append_left (List.getElem?_eq_some_iff.mp e).1]; exact e, q.mv x (loNew_x r.st p) fun u _ h => by rw [upd_ne ne]; exact h⟩
  · by_cases z : n < S.length
    · rw [List.getElem?_append_left z] at h
      obtain ⟨a, h1⟩ := r.st.has n c' h w w'
      exact ⟨a, loNew_x r.st p n a h1⟩
    · have : n = S.length := by
        have := (List.getElem?_eq_some_iff.mp h).1
        rw [List.length_append, List.length_singleton] at this
        omega
      exact ⟨p, by unfold loNew; rw [if_pos this]⟩
  · unfold loNew at h
    by_cases z : n = S.length
    · rw [if_pos z] at h; cases h; exact w.2 rfl
    · rw [if_neg z] at h; exact r.st.na n a h w.1
  · have old : ∀ k b, lo k = some b -> b ≠ p := fun k b hk z => by
      obtain ⟨c', _, q⟩ := r.st.at' k b hk
      exact q.isO.1 (by rw [z]; exact hp)
    unfold loNew at h1 h2
    by_cases z : m = S.length
    · rw [if_pos z] at h1; cases h1
      by_cases y : n = S.length
      · omega
      · rw [if_neg y] at h2; exact absurd rfl (old n _ h2)
    · rw [if_neg z] at h1
      by_cases y : n = S.length
      · rw [if_pos y] at h2; cases h2; exact absurd rfl (old m _ h1)
      · rw [if_neg y] at h2; exact r.st.inj m n a h1 h2
  · have m' : S[0]? = some .mk := by
      cases S with
      | nil =>
        have e : some c = some Cell.mk := m
        cases e
        exact hc.elim
      | cons d r => exact m
    by_cases z : b = p
    · rw [z] at hb
      exact absurd hu (hc.nTT hb)
    · rw [upd_ne z] at hb
      exact ⟨r.st.tl m' b u hb hu, z⟩
  · unfold loNew at h
    by_cases z : n = S.length
    · rw [if_pos z] at h; cases h; exact .inr ⟨r.hf _ hp, by rw [z]; exact r.sz⟩
    · rw [if_neg z] at h; exact r.nw n a h
theorem RZ.new (r : RZ K B al lo H σ ρ S) {p : Addr} {o : HO} {c : Cell} (hp : H p = none) (no : NT o) (hc : CellAt K (fun b => al b /\ b ≠ p) (loNew lo S.length p) (upd H p o) p c) (cn : c ≠ .no) :
    RZ K B (fun b => al b /\ b ≠ p) (loNew lo S.length p) (upd H p o) σ ρ (S ++ [c]) :=
  ⟨r.toEZ.new hp no hc cn, r.len, fun i z e => let ⟨v, h1, h2⟩ := r.vr i z e; ⟨v, h1, h2.mv (xt_new hp) (loNew_x r.st p)⟩⟩
theorem EZ.write (r : EZ K B al lo H S) {n : Nat} {a : Addr} {o : HO} {c : Cell} (hn : lo n = some a) (no : NT o) (nc : ∀ q, o ≠ CodeO a q) (hc : CellAt K al lo (upd H a o) a c) (cn : c ≠ .no) : EZ K B al lo (upd H a o) (S.set n c) /\ Xt al H al (upd H a o) := by
  obtain ⟨c0, e0, q0⟩ := r.st.at' n a hn
  have hl : n < S.length := (List.getElem?_eq_some_iff.mp e0).1
  have na := r.st.na n a hn
  have x : Xt al H al (upd H a o) := fun b u _ hb e => ⟨hb, by rw [upd_ne fun w => na (by rw [← w]; exact hb)]; exact e⟩
  refine ⟨⟨fun b u nu h w => ?_, fun b h => ?_, r.tt.upd q0.isO.2.1 q0.isO.2.2, fun b h => ?_, ⟨fun m b h => ?_, fun m c' h w w' => ?_, r.st.na, r.st.inj, fun m b u hb hu => ?_⟩, r.lx, r.nw, r.bd, by rw [List.length_set]; exact r.sz, r.xt.trans x, r.sb⟩, x⟩
  · have := r.fr b u nu h w
    by_cases z : b = a
    · subst z
      rcases r.nw n b hn with q | q
      · exact absurd q (w n)
      · rw [q.1] at h; cases h
    · rw [upd_ne z]; exact this
  · by_cases z : b = a
    · rw [z, upd_same] at h; cases h
    · rw [upd_ne z] at h; exact r.hf b h
  · by_cases z : b = a
    · rw [z, upd_same] at h; cases h
    · rw [upd_ne z] at h; exact r.fresh b h
  · by_cases z : n = m
    · subst z
      rw [hn] at h; cases h
      exact ⟨c, List.getElem?_set_self hl, hc⟩
    · obtain ⟨c', e, q⟩ := r.st.at' m b h
      refine ⟨c', by rw [List.getElem?_set_ne z]; exact e, q.mv x .refl fun u _ h' => ?_⟩
      rw [upd_ne fun w => z (r.st.inj n m a hn (by rw [← w]; exact h))]; exact h'
  · by_cases z : n = m
    · subst z; exact ⟨a, hn⟩
    · rw [List.getElem?_set_ne z] at h; exact r.st.has m c' h w w'
  · have m' : S[0]? = some .mk := by
      by_cases z : n = 0
      · subst z
        rw [List.getElem?_set_self hl] at m
        cases m
        exact hc.elim
      · rw [List.getElem?_set_ne z] at m; exact m
    by_cases z : b = a
    · rw [z] at hb
      exact absurd hu (hc.nTT hb)
    · rw [upd_ne z] at hb
      exact r.st.tl m' b u hb hu
theorem RZ.write (r : RZ K B al lo H σ ρ S) {n : Nat} {a : Addr} {o : HO} {c : Cell} (hn : lo n = some a) (no : NT o) (nc : ∀ q, o ≠ CodeO a q) (hc : CellAt K al lo (upd H a o) a c) (cn : c ≠ .no) : RZ K B al lo (upd H a o) σ ρ (S.set n c) /\ Xt al H al (upd H a o) :=
  let ⟨e, x⟩ := r.toEZ.write hn no nc hc cn
  ⟨⟨e, r.len, fun i z e => let ⟨v, h1, h2⟩ := r.vr i z e; ⟨v, h1, h2.mv x .refl⟩⟩, x⟩
end
end P2
namespace P2
open PySem L2
inductive RX (α : Type) where
  | ok (a : α) (S : Sto) | ex (c : Addr) (ns : List Str) (ds : List D) (S : Sto) | bad
noncomputable def RX.bind {α β : Type} : RX α -> (α -> Sto -> RX β) -> RX β
  | .ok a S, f => f a S
  | .ex c ns ds S, _ => .ex c ns ds S
  | .bad, _ => .bad
noncomputable def upR {α : Type} (r : R α) (S : Sto) : RX α := match r with
  | .ok a => .ok a S
  | .ex c ns ds => .ex c ns ds S
  | .bad => .bad
noncomputable def AftZ {α : Type} (K : W.Frag) (B : Z0) (E : XK) (al : Addr -> Prop) (lo : Lo) (H : Hp) (σ : St) (ρ : ZEv) (r : RX α) (k : α -> (Addr -> Prop) -> Lo -> Hp -> Sto -> Prop) : Prop := match r with
  | .ok x S' => ∀ al' lo' H', RZ K B al' lo' H' σ ρ S' -> Xt al H al' H' -> Lx lo lo' -> k x al' lo' H' S'
  | .ex c ns ds S' => ∀ al' lo' H' dx, EZ K B al' lo' H' S' -> XR K al' H' dx ns ds -> E (.ref c) dx H'
  | .bad => False
section
variable {α β : Type} {K : W.Frag} {B : Z0} {E : XK} {al al' : Addr -> Prop} {lo lo' : Lo} {H H' : Hp} {σ : St} {ρ : ZEv} {S S' : Sto} {k k' : α -> (Addr -> Prop) -> Lo -> Hp -> Sto -> Prop}
theorem AftZ.up {r : RX α} (h : AftZ K B E al lo H σ ρ r k) (x : Xt al H al' H') (y : Lx lo lo') : AftZ K B E al' lo' H' σ ρ r k := by
  cases r with
  | ok a S => exact fun al2 lo2 H2 z x2 y2 => h al2 lo2 H2 z (x.trans x2) (y.trans y2)
  | ex c ns ds S => exact h
  | bad => exact h
theorem AftZ.mono {r : RX α} (h : AftZ K B E al lo H σ ρ r k) (m : ∀ x al' lo' H' S', RZ K B al' lo' H' σ ρ S' -> Xt al H al' H' -> Lx lo lo' -> k x al' lo' H' S' -> k' x al' lo' H' S') : AftZ K B E al lo H σ ρ r k' := by
  cases r with
  | ok a S => exact fun al2 lo2 H2 z x2 y2 => m _ _ _ _ _ z x2 y2 (h al2 lo2 H2 z x2 y2)
  | ex c ns ds S => exact h
  | bad => exact h
theorem AftZ.split {r : RX α} {g : α -> Sto -> RX β} {k : β -> (Addr -> Prop) -> Lo -> Hp -> Sto -> Prop} (h : AftZ K B E al lo H σ ρ (r.bind g) k) : AftZ K B E al lo H σ ρ r (fun x al' lo' H' S' => AftZ K B E al' lo' H' σ ρ (g x S') k) := by
  cases r with
  | ok a S => exact fun al2 lo2 H2 z x2 y2 => AftZ.up h x2 y2
  | ex c ns ds S => exact h
  | bad => exact h
theorem AftZ.toAft {r : R α} (z : RZ K B al lo H σ ρ S) (h : AftZ K B E al lo H σ ρ (upR r S) k) : Aft K al E H r (fun x H' => k x al lo H' S) := by
  cases r with
  | ok a => exact fun H1 s1 => h al lo H1 (z.grow s1) (.of s1) .refl
  | ex c ns ds => exact fun dx H1 s1 q => h al lo H1 dx (z.toEZ.grow s1) q
  | bad => exact h
end
noncomputable def ZE (X : Cx) (E : XK) (e : Expr) (f : ZEv -> Sto -> RX Z) : Prop := ∃ t : TE, PE X e t /\
  ∀ B al lo H σ ρ S (Q : VK), RZ X.K B al lo H σ ρ S -> AftZ X.K B E al lo H σ ρ (f ρ S) (fun z al' lo' H' _ => ∀ v, RepZ X.K al' lo' H' v z -> Q v H') -> t σ H Q
noncomputable def ZT (X : Cx) (E : XK) (e : Expr) (f : ZEv -> Sto -> RX Bool) : Prop := ∃ t : TT, PT X e t /\
  ∀ B al lo H σ ρ S (Q : Bool -> Hp -> Prop), RZ X.K B al lo H σ ρ S -> AftZ X.K B E al lo H σ ρ (f ρ S) (fun b _ _ H' _ => Q b H') -> t σ H Q
noncomputable def ZA (X : Cx) (E : XK) (es : List Expr) (f : ZEv -> Sto -> RX (List Z)) : Prop := ∃ t : TA, PA X es t /\
  (∀ B al lo H σ ρ S (Q : List V -> Hp -> Prop), RZ X.K B al lo H σ ρ S -> AftZ X.K B E al lo H σ ρ (f ρ S) (fun zs al' lo' H' _ => ∀ vs, RepZs X.K al' lo' H' vs zs -> Q vs H') -> t σ H Q) /\ ∀ ρ S zs S', f ρ S = .ok zs S' -> zs.length = es.length
noncomputable def zD (f : Ev -> R D) : ZEv -> Sto -> RX Z := fun ρ S => (upR (f (pur ρ)) S).bind fun d S => .ok (.d d) S
noncomputable def zB (f : Ev -> R Bool) : ZEv -> Sto -> RX Bool := fun ρ S => upR (f (pur ρ)) S
noncomputable def zV (i : Nat) : ZEv -> Sto -> RX Z := fun ρ S => match ρ[i]? with
  | some (some z) => .ok z S
  | _ => .bad
noncomputable def asDs : List Z -> Option (List D)
  | [] => some []
  | .d x :: r => (asDs r).map (x :: ·)
  | _ :: _ => none
theorem asDs_map : ∀ {zs : List Z} {ds : List D}, asDs zs = some ds -> zs = ds.map .d
  | [], _, h => by cases h; rfl
  | .d x :: r, ds, h => by
    obtain ⟨t, h1, h2⟩ := Option.map_eq_some_iff.mp (show (asDs r).map (x :: ·) = some ds from h)
    subst h2
    rw [List.map_cons, ← asDs_map h1]
  | .loc _ :: _, _, h => by cases h
theorem asDs_of : ∀ ds : List D, asDs (ds.map .d) = some ds
  | [] => rfl
  | d :: r => by show (asDs (r.map .d)).map (d :: ·) = _; rw [asDs_of r]; rfl
noncomputable def z2 (g : D -> D -> R D) (a b : ZEv -> Sto -> RX Z) : ZEv -> Sto -> RX Z := fun ρ S => (a ρ S).bind fun x S1 => (b ρ S1).bind fun y S2 => match x, y with
  | .d x, .d y => (upR (g x y) S2).bind fun d S => .ok (.d d) S
  | _, _ => .bad
noncomputable def zTst (t : D -> R Bool) (a : ZEv -> Sto -> RX Z) : ZEv -> Sto -> RX Bool := fun ρ S => (a ρ S).bind fun x S1 => match x with
  | .d x => upR (t x) S1
  | _ => .bad
noncomputable def zAndB (a b : ZEv -> Sto -> RX Bool) : ZEv -> Sto -> RX Bool := fun ρ S => (a ρ S).bind fun k S1 => if k = true then b ρ S1 else .ok false S1
noncomputable def zOrB (a b : ZEv -> Sto -> RX Bool) : ZEv -> Sto -> RX Bool := fun ρ S => (a ρ S).bind fun k S1 => if k = true then .ok true S1 else b ρ S1
noncomputable def zNotB (a : ZEv -> Sto -> RX Bool) : ZEv -> Sto -> RX Bool := fun ρ S => (a ρ S).bind fun k S1 => .ok (!k) S1
noncomputable def zNil : ZEv -> Sto -> RX (List Z) := fun _ S => .ok [] S
noncomputable def zCons (a : ZEv -> Sto -> RX Z) (r : ZEv -> Sto -> RX (List Z)) : ZEv -> Sto -> RX (List Z) := fun ρ S => (a ρ S).bind fun x S1 => (r ρ S1).bind fun xs S2 => .ok (x :: xs) S2
noncomputable def zF (g : List D -> R D) (a : ZEv -> Sto -> RX (List Z)) : ZEv -> Sto -> RX Z := fun ρ S => (a ρ S).bind fun zs S1 => match asDs zs with
  | some ds => (upR (g ds) S1).bind fun d S => .ok (.d d) S
  | none => .bad
noncomputable def zZ (F : List Z -> Sto -> RX Z) (a : ZEv -> Sto -> RX (List Z)) : ZEv -> Sto -> RX Z := fun ρ S => (a ρ S).bind F
section
variable {X : Cx} {E : XK} {e a b c : Expr} {es rest : List Expr} {pos : Pos} {f fa fb : ZEv -> Sto -> RX Z} {ga gb : ZEv -> Sto -> RX Bool} {fs : ZEv -> Sto -> RX (List Z)}
theorem ze_lift {f : Ev -> R D} (h : DE X E e f) : ZE X E e (zD f) := by
  obtain ⟨t, p, r⟩ := h
  refine ⟨t, p, fun B al lo H σ ρ S Q z h => r _ _ _ _ _ _ _ z.rs ?_⟩
  have := AftZ.toAft z (AftZ.split h)
  exact Aft.mono this fun d H1 s1 h1 v rv => h1 al lo H1 (z.grow s1) .refl .refl v rv
theorem zt_lift {f : Ev -> R Bool} (h : DT X E e f) : ZT X E e (zB f) := by
  obtain ⟨t, p, r⟩ := h
  exact ⟨t, p, fun B al lo H σ ρ S Q z h => r _ _ _ _ _ _ _ z.rs (AftZ.toAft z h)⟩
theorem ze_var (i : Nat) {x : Str} (hN : X.N[i]? = some x := by rfl) (hv : Vis X.env.scope x := by first | exact Or.inl rfl | exact Or.inr (Or.inl rfl) | exact Or.inr (Or.inr rfl)) (hd : (x == ("__debug__" : Str)) = false := by decide)
    (hcd : (x == ("__classdict__" : Str)) = false := by decide) : ZE X E (.Name x pos) (zV i) := by
  refine ⟨_, pe_var hN hv hd hcd, fun B al lo H σ ρ S Q z h => ?_⟩
  unfold zV at h
  split at h
  · rename_i z0 q
    obtain ⟨v, e1, e2⟩ := z.vr i z0 q
    exact ⟨v, e1, h al lo H z .refl .refl v e2⟩
  · exact h.elim
theorem ze_op {op : Operator} {g : D -> D -> R D} (ho : OpD X E (binaryOp op) g) (ha : ZE X E a fa) (hb : ZE X E b fb) : ZE X E (.BinOp a op b pos) (z2 g fa fb) := by
  obtain ⟨r, ro, rr⟩ := ho
  obtain ⟨ta, pa, ra⟩ := ha
  obtain ⟨tb, pb, rb⟩ := hb
  refine ⟨_, pe_op ro pa pb, fun B al lo H σ ρ S Q s h => ra _ _ _ _ _ _ _ _ s (AftZ.mono (AftZ.split h) fun x al1 lo1 H1 S1 s1 x1 y1 h1 v rv => rb _ _ _ _ _ _ _ _ s1 (AftZ.mono (AftZ.split h1) fun y al2 lo2 H2 S2 s2 x2 y2 h2 u ru => ?_))⟩
  split at h2
  · exact rr _ _ _ _ _ _ _ s2.fresh (RepZ.mv x2 y2 rv) ru (Aft.mono (AftZ.toAft s2 (AftZ.split h2)) fun d H3 s3 h3 w rw' => h3 al2 lo2 H3 (s2.grow s3) .refl .refl w rw')
  · exact h2.elim
theorem zt_cmp {op : CmpOp} {g : D -> D -> R D} (ho : OpD X E (compareOp op) g) (ha : ZE X E a fa) (hb : ZE X E b fb) (hm : behindInMarks op b = false := by first | exact nomark _ | with_unfolding_all rfl) : ZT X E (.Compare a [op] [b] pos) (zTst tB (z2 g fa fb)) := by
  obtain ⟨r, ro, rr⟩ := ho
  obtain ⟨ta, pa, ra⟩ := ha
  obtain ⟨tb, pb, rb⟩ := hb
  refine ⟨_, pt_cmpR ro pa pb hm, fun B al lo H σ ρ S Q s h => ra _ _ _ _ _ _ _ _ s (AftZ.mono (AftZ.split (AftZ.split h)) fun x al1 lo1 H1 S1 s1 x1 y1 h1 v rv => rb _ _ _ _ _ _ _ _ s1 (AftZ.mono (AftZ.split h1) fun y al2 lo2 H2 S2 s2 x2 y2 h2 u ru => ?_))⟩
  split at h2
  · refine rr _ _ _ _ _ _ _ s2.fresh (RepZ.mv x2 y2 rv) ru (Aft.mono (AftZ.toAft s2 (AftZ.split h2)) fun d H3 s3 h3 w rw' => ?_)
    have h4 := h3 al2 lo2 H3 (s2.grow s3) .refl .refl
    exact rep_tB rw' (Aft.mono (AftZ.toAft (s2.grow s3) h4) fun _ _ _ q => q)
  · exact h2.elim
theorem zt_truth (ha : ZE X E e fa) (he : ∀ whole, isTrue e X.env whole = (do let v ← whole; standAt e.pos; holding [v] (truthy v)) := by intro _; rfl) : ZT X E e (zTst tT fa) := by
  obtain ⟨ta, pa, ra⟩ := ha
  refine ⟨_, pt_truth pa he, fun B al lo H σ ρ S Q s h => ra _ _ _ _ _ _ _ _ s (AftZ.mono (AftZ.split h) fun x al1 lo1 H1 S1 s1 x1 y1 h1 v rv => ?_)⟩
  split at h1
  · exact rep_tT rv (AftZ.toAft s1 h1)
  · exact h1.elim
theorem zt_not (ha : ZT X E a ga) : ZT X E (.UnaryOp .Not a pos) (zNotB ga) := by
  obtain ⟨ta, pa, ra⟩ := ha
  exact ⟨_, pt_not pa, fun B al lo H σ ρ S Q s h => ra _ _ _ _ _ _ _ _ s (AftZ.mono (AftZ.split h) fun c al1 lo1 H1 S1 s1 _ _ h1 => h1 al1 lo1 H1 s1 .refl .refl)⟩
noncomputable def ZW (X : Cx) (E : XK) (e : Expr) (f : ZEv -> Sto -> RX Bool) : Prop := ∃ t : TT, PW X e t /\
  ∀ B al lo H σ ρ S (Q : Bool -> Hp -> Prop), RZ X.K B al lo H σ ρ S -> AftZ X.K B E al lo H σ ρ (f ρ S) (fun b _ _ H' _ => Q b H') -> t σ H Q
theorem ZW.zt (h : ZW X E e ga) : ZT X E e ga := let ⟨t, p, r⟩ := h; ⟨t, p.pt, r⟩
theorem zw_and1 (h : ZT X E a ga) : ZW X E (.BoolOp .And [a] pos) ga := let ⟨t, p, r⟩ := h; ⟨t, pw_and1 p, r⟩
theorem zw_or1 (h : ZT X E a ga) : ZW X E (.BoolOp .Or [a] pos) ga := let ⟨t, p, r⟩ := h; ⟨t, pw_or1 p, r⟩
theorem zw_and (ha : ZT X E a ga) (hb : ZW X E (.BoolOp .And (b :: rest) pos) gb) : ZW X E (.BoolOp .And (a :: b :: rest) pos) (zAndB ga gb) := by
  obtain ⟨ta, pa, ra⟩ := ha
  obtain ⟨tb, pb, rb⟩ := hb
  refine ⟨_, pw_and pa pb, fun B al lo H σ ρ S Q s h => ra _ _ _ _ _ _ _ _ s (AftZ.mono (AftZ.split h) fun c al1 lo1 H1 S1 s1 _ _ h1 => ?_)⟩
  cases c with
  | true => exact iteT (rb _ _ _ _ _ _ _ _ s1 h1)
  | false => exact iteF (h1 al1 lo1 H1 s1 .refl .refl)
theorem zw_or (ha : ZT X E a ga) (hb : ZW X E (.BoolOp .Or (b :: rest) pos) gb) : ZW X E (.BoolOp .Or (a :: b :: rest) pos) (zOrB ga gb) := by
  obtain ⟨ta, pa, ra⟩ := ha
  obtain ⟨tb, pb, rb⟩ := hb
  refine ⟨_, pw_or pa pb, fun B al lo H σ ρ S Q s h => ra _ _ _ _ _ _ _ _ s (AftZ.mono (AftZ.split h) fun c al1 lo1 H1 S1 s1 _ _ h1 => ?_)⟩
  cases c with
  | true => exact iteT (h1 al1 lo1 H1 s1 .refl .refl)
  | false => exact iteF (rb _ _ _ _ _ _ _ _ s1 h1)
theorem ze_ix {g : D -> D -> R D} (ho : IxD X E g) (ha : ZE X E a fa) (hb : ZE X E b fb) (hs : PlainIx b := by exact fun _ _ => rfl) : ZE X E (.Subscript a b pos) (z2 g fa fb) := by
  obtain ⟨r, ro, rr⟩ := ho
  obtain ⟨ta, pa, ra⟩ := ha
  obtain ⟨tb, pb, rb⟩ := hb
  refine ⟨_, pe_ix ro pa pb hs, fun B al lo H σ ρ S Q s h => ra _ _ _ _ _ _ _ _ s (AftZ.mono (AftZ.split h) fun x al1 lo1 H1 S1 s1 x1 y1 h1 v rv => rb _ _ _ _ _ _ _ _ s1 (AftZ.mono (AftZ.split h1) fun y al2 lo2 H2 S2 s2 x2 y2 h2 u ru => ?_))⟩
  split at h2
  · exact rr _ _ _ _ _ _ _ s2.fresh (RepZ.mv x2 y2 rv) ru (Aft.mono (AftZ.toAft s2 (AftZ.split h2)) fun d H3 s3 h3 w rw' => h3 al2 lo2 H3 (s2.grow s3) .refl .refl w rw')
  · exact h2.elim
theorem za_nil : ZA X E [] zNil := ⟨_, pa_nil, fun B al lo H σ ρ S Q s h => h al lo H s .refl .refl _ .nil, fun _ _ _ _ h => by cases h; rfl⟩
theorem za_cons (ha : ZE X E e fa) (hr : ZA X E es fs) (hs : starEach (e :: es) X.env = (false, eval e X.env) :: starEach es X.env := by rfl) : ZA X E (e :: es) (zCons fa fs) := by
  obtain ⟨ta, pa, ra⟩ := ha
  obtain ⟨tb, pb, rb, lb⟩ := hr
  refine ⟨_, pa_cons pa pb hs, fun B al lo H σ ρ S Q s h => ra _ _ _ _ _ _ _ _ s (AftZ.mono (AftZ.split h) fun x al1 lo1 H1 S1 s1 x1 y1 h1 v rv => rb _ _ _ _ _ _ _ _ s1 (AftZ.mono (AftZ.split h1) fun y al2 lo2 H2 S2 s2 x2 y2 h2 u ru => ?_)), fun ρ S zs S' h => ?_⟩
  · exact h2 al2 lo2 H2 s2 .refl .refl _ (.cons (rv.mv x2 y2) ru)
  · unfold zCons at h
    cases q : fa ρ S with
    | bad => rw [q] at h; cases h
    | ex c ns ds S1 => rw [q] at h; cases h
    | ok x S1 =>
      rw [q] at h
      have h' : (fs ρ S1).bind (fun xs S2 => .ok (x :: xs) S2) = RX.ok zs S' := h
      cases q2 : fs ρ S1 with
      | bad => rw [q2] at h'; cases h'
      | ex c ns ds S1 => rw [q2] at h'; cases h'
      | ok xs S2 =>
        rw [q2] at h'
        cases h'
        rw [List.length_cons, List.length_cons, lb _ _ _ _ q2]
theorem ze_tup {x1} (ha : ZA X E es fs) : ZE X E (.Tuple es x1 pos) (zF mkT fs) := by
  obtain ⟨ta, pa, ra, _⟩ := ha
  refine ⟨_, pe_tup pa, fun B al lo H σ ρ S Q s h => ra _ _ _ _ _ _ _ _ s (AftZ.mono (AftZ.split h) fun x al1 lo1 H1 S1 s1 x1 y1 h1 v rv => ?_)⟩
  split at h1
  · rename_i ds e
    have := asDs_map e
    subst this
    have rv' := rv.toD
    have h2 := Aft.mono (AftZ.toAft s1 (AftZ.split h1)) fun d H3 s3 h3 => h3 al1 lo1 H3 (s1.grow s3) .refl .refl
    unfold mkT at h2
    by_cases z : ds.length <= sizeLine
    · rw [if_pos z] at h2
      exact ⟨by rw [rv'.length]; exact z, fun p hp => h2 _ (same_upd hp) _ (rv'.tupNew hp (s1.fresh p hp))⟩
    · rw [if_neg z] at h2
      exact h2.elim
  · exact h1.elim
variable {x : Str} {p : Pos}
variable {k n : Nat} {ps : List Str} {F : List D -> R D}
theorem ze_callD (G : Has X.prog X.w X.K X.mg X.base (CXx X.prog X.w) k x ps (spD n X.K F)) (hr : Room k X.A) (hg : Gl X x) (hx : Passes (CXx X.prog X.w) X E) (hn : (e :: es).length = n) (ha : ZA X E (e :: es) fs) (hdb : (x == ("__debug__" : Str)) = false := by decide)
    (he : starEach (e :: es) X.env = (false, eval e X.env) :: starEach es X.env := by rfl) (hpl : (backTo pos (starEach es X.env)).any (·.1) = false := by rfl) : ZE X E (.Call (.Name x p) (e :: es) [] pos) (zF F fs) := by
  obtain ⟨ta, pa, ra, lb⟩ := ha
  refine ⟨_, pe_has G hr hg hx pa hdb he hpl, fun B al lo H σ ρ S Q s h => ra _ _ _ _ _ _ _ _ s ?_⟩
  unfold zF at h
  cases q : fs ρ S with
  | bad => rw [q] at h; exact h.elim
  | ex c ns ds S1 => rw [q] at h; exact h
  | ok zs S1 =>
    rw [q] at h
    intro al1 lo1 H1 s1 x1 y1 vs rv
    have ll := lb _ _ _ _ q
    have h1 : AftZ X.K B E al lo H σ ρ (match asDs zs with | some ds => (upR (F ds) S1).bind fun d S => .ok (.d d) S | none => .bad) (fun z al' lo' H' _ => ∀ v, RepZ X.K al' lo' H' v z -> Q v H') := h
    split at h1
    · rename_i ds e
      have := asDs_map e
      subst this
      have rv' := rv.toD
      rw [List.append_nil]
      exact ⟨by rw [rv'.length]; rw [List.length_map] at ll; rw [ll]; exact hn, s1.tt, al1, ds, s1.fresh, rv', Aft.mono (AftZ.toAft s1 (AftZ.split (AftZ.up h1 x1 y1))) fun d H3 s3 h3 => h3 al1 lo1 H3 (s1.grow s3) .refl .refl⟩
    · exact h1.elim
end
noncomputable def AftF (K : W.Frag) (B : Z0) (E : XK) (r : RX Z) (Q : VK) : Prop := match r with
  | .ok z S' => ∀ al' lo' H' v, EZ K B al' lo' H' S' -> RepZ K al' lo' H' v z -> Q v H'
  | .ex c ns ds S' => ∀ al' lo' H' dx, EZ K B al' lo' H' S' -> XR K al' H' dx ns ds -> E (.ref c) dx H'
  | .bad => False
noncomputable def spZ (n : Nat) (K : W.Frag) (F : List Z -> Sto -> RX Z) : Sp := fun vs H Q E => vs.length = n /\ TbOk K H /\ ∃ al lo zs S, (∀ a, H a = none -> al a) /\ StOk K al lo H S /\ RepZs K al lo H vs zs /\ AftF K ⟨H, al, lo, S.length⟩ E (F zs S) Q
theorem EZ.trans {K : W.Frag} {B : Z0} {al al' : Addr -> Prop} {lo lo' : Lo} {H H' : Hp} {S S' : Sto} (r : EZ K B al lo H S) (q : EZ K ⟨H, al, lo, S.length⟩ al' lo' H' S') : EZ K B al' lo' H' S' where
  fr := fun b o n h w => q.fr b o n (r.fr b o n h w) fun m hm => by
    rcases r.nw m b hm with z | z
    · exact w m z
    · rw [z.1] at h; cases h
  hf := fun b h => r.hf b (q.hf b h)
  tt := q.tt
  fresh := q.fresh
  st := q.st
  lx := fun n a h => q.lx n a (r.lx n a h)
  nw := fun n a h => by
    rcases q.nw n a h with z | z
    · exact r.nw n a z
    · exact .inr ⟨r.hf a z.1, Nat.le_trans r.sz z.2⟩
  bd := r.bd
  sz := Nat.le_trans r.sz q.sz
  xt := r.xt.trans q.xt
  sb := fun a h => by
    rcases q.sb a h with z | z
    · exact r.sb a z
    · exact .inr (r.hf a z)
theorem RZ.after {K : W.Frag} {B : Z0} {al al' : Addr -> Prop} {lo lo' : Lo} {H H' : Hp} {S S' : Sto} {σ : St} {ρ : ZEv} (r : RZ K B al lo H σ ρ S) (q : EZ K ⟨H, al, lo, S.length⟩ al' lo' H' S') : RZ K B al' lo' H' σ ρ S' :=
  ⟨r.toEZ.trans q, r.len, fun i z e => let ⟨v, h1, h2⟩ := r.vr i z e; ⟨v, h1, h2.mv q.xt q.lx⟩⟩
section
variable {X : Cx} {E : XK} {e : Expr} {es : List Expr} {pos p : Pos} {fs : ZEv -> Sto -> RX (List Z)} {x : Str} {k n : Nat} {ps : List Str} {F : List Z -> Sto -> RX Z}
theorem ze_callZ (G : Has X.prog X.w X.K X.mg X.base (CXx X.prog X.w) k x ps (spZ n X.K F)) (hr : Room k X.A) (hg : Gl X x) (hx : Passes (CXx X.prog X.w) X E) (hn : (e :: es).length = n) (ha : ZA X E (e :: es) fs) (hdb : (x == ("__debug__" : Str)) = false := by decide)
    (he : starEach (e :: es) X.env = (false, eval e X.env) :: starEach es X.env := by rfl) (hpl : (backTo pos (starEach es X.env)).any (·.1) = false := by rfl) : ZE X E (.Call (.Name x p) (e :: es) [] pos) (zZ F fs) := by
  obtain ⟨ta, pa, ra, lb⟩ := ha
  refine ⟨_, pe_has G hr hg hx pa hdb he hpl, fun B al lo H σ ρ S Q s h => ra _ _ _ _ _ _ _ _ s ?_⟩
  unfold zZ at h
  cases q : fs ρ S with
  | bad => rw [q] at h; exact h.elim
  | ex c ns ds S1 => rw [q] at h; exact h
  | ok zs S1 =>
    rw [q] at h
    intro al1 lo1 H1 s1 x1 y1 vs rv
    have ll := lb _ _ _ _ q
    have h1 : AftZ X.K B E al lo H σ ρ (F zs S1) (fun z al' lo' H' _ => ∀ v, RepZ X.K al' lo' H' v z -> Q v H') := h
    rw [List.append_nil]
    refine ⟨by rw [rv.length, ll]; exact hn, s1.tt, al1, lo1, zs, S1, s1.fresh, s1.st, rv, ?_⟩
    cases q2 : F zs S1 with
    | bad => rw [q2] at h1; exact h1.elim
    | ex c ns ds S2 => rw [q2] at h1; exact fun al2 lo2 H2 dx e2 xr => h1 al2 lo2 H2 dx (s1.toEZ.trans e2) xr
    | ok z S2 => rw [q2] at h1; exact fun al2 lo2 H2 v e2 rv2 => h1 al2 lo2 H2 (s1.after e2) (x1.trans e2.xt) (y1.trans e2.lx) v rv2
end
end P2
namespace P2
open PySem L2
inductive RTZ where
  | nx (ρ : ZEv) (S : Sto) | rt (z : Z) (S : Sto) | bk (ρ : ZEv) (S : Sto) | ct (ρ : ZEv) (S : Sto) | ex (c : Addr) (ns : List Str) (ds : List D) (S : Sto) | bad
noncomputable def toZ {α : Type} (r : RX α) (k : α -> Sto -> RTZ) : RTZ := match r with
  | .ok a S => k a S
  | .ex c ns ds S => .ex c ns ds S
  | .bad => .bad
noncomputable def seqZ (r : RTZ) (k : ZEv -> Sto -> RTZ) : RTZ := match r with
  | .nx ρ S => k ρ S
  | r => r
noncomputable def okZ (K : W.Frag) (B : Z0) (E : XK) (D : Ends) (al : Addr -> Prop) (H : Hp) : RTZ -> Prop
  | .nx ρ S => ∀ al' lo' H' σ', Xt al H al' H' -> RZ K B al' lo' H' σ' ρ S -> D.nx σ' H'
  | .bk ρ S => ∀ al' lo' H' σ', Xt al H al' H' -> RZ K B al' lo' H' σ' ρ S -> D.bk σ' H'
  | .ct ρ S => ∀ al' lo' H' σ', Xt al H al' H' -> RZ K B al' lo' H' σ' ρ S -> D.ct σ' H'
  | .rt z S => ∀ al' lo' H' v, EZ K B al' lo' H' S -> RepZ K al' lo' H' v z -> D.rt v H'
  | .ex c ns ds S => ∀ al' lo' H' dx, EZ K B al' lo' H' S -> XR K al' H' dx ns ds -> E (.ref c) dx H'
  | .bad => False
section
variable {K : W.Frag} {B : Z0} {E : XK} {D : Ends} {al al' : Addr -> Prop} {lo : Lo} {H H' : Hp} {s : RTZ} {σ : St} {ρ : ZEv}
theorem okZ.ext (h : okZ K B E D al H s) (x : Xt al H al' H') : okZ K B E D al' H' s := by
  cases s with
  | nx ρ S => exact fun a l h1 σ1 y r => h a l h1 σ1 (x.trans y) r
  | bk ρ S => exact fun a l h1 σ1 y r => h a l h1 σ1 (x.trans y) r
  | ct ρ S => exact fun a l h1 σ1 y r => h a l h1 σ1 (x.trans y) r
  | rt d S => exact h
  | ex c ns ds S => exact h
  | bad => exact h
theorem okZ.ofX {α : Type} {r : RX α} {k : α -> Sto -> RTZ} (h : okZ K B E D al H (toZ r k)) : AftZ K B E al lo H σ ρ r (fun x al' lo' H' S' => okZ K B E D al' H' (k x S')) := by
  cases r with
  | ok x S => exact fun al1 lo1 H1 s1 x1 y1 => okZ.ext h x1
  | ex c ns ds S => exact h
  | bad => exact h
end
noncomputable def ZS (X : Cx) (E : XK) (b : Nat) (st : Stmt) (g : ZEv -> Sto -> RTZ) : Prop := ∃ t : TS, PS X st t /\
  ∀ B : Z0, B.n = b -> ∀ al lo H σ ρ S (D : Ends), RZ X.K B al lo H σ ρ S -> okZ X.K B E D al H (g ρ S) -> t D σ H
noncomputable def ZSs (X : Cx) (E : XK) (b : Nat) (st : List Stmt) (g : ZEv -> Sto -> RTZ) : Prop := ∃ t : TS, PSs X st t /\
  ∀ B : Z0, B.n = b -> ∀ al lo H σ ρ S (D : Ends), RZ X.K B al lo H σ ρ S -> okZ X.K B E D al H (g ρ S) -> t D σ H
noncomputable def yNil : ZEv -> Sto -> RTZ := .nx
noncomputable def ySeq (a b : ZEv -> Sto -> RTZ) : ZEv -> Sto -> RTZ := fun ρ S => seqZ (a ρ S) b
noncomputable def yExpr (f : ZEv -> Sto -> RX Z) : ZEv -> Sto -> RTZ := fun ρ S => toZ (f ρ S) fun _ S1 => .nx ρ S1
noncomputable def yRet (f : ZEv -> Sto -> RX Z) : ZEv -> Sto -> RTZ := fun ρ S => toZ (f ρ S) .rt
noncomputable def ySet (i : Nat) (f : ZEv -> Sto -> RX Z) : ZEv -> Sto -> RTZ := fun ρ S => toZ (f ρ S) fun z S1 => if i < ρ.length then .nx (ρ.set i (some z)) S1 else .bad
noncomputable def yIf (c : ZEv -> Sto -> RX Bool) (a b : ZEv -> Sto -> RTZ) : ZEv -> Sto -> RTZ := fun ρ S => toZ (c ρ S) fun k S1 => if k = true then a ρ S1 else b ρ S1
section
variable {X : Cx} {E : XK} {b : Nat} {st : Stmt} {rest sa sb : List Stmt} {g u ga gb : ZEv -> Sto -> RTZ} {e c : Expr} {f : ZEv -> Sto -> RX Z} {fc : ZEv -> Sto -> RX Bool} {pos : Pos}
theorem zss_nil : ZSs X E b [] yNil := ⟨_, pss_nil, fun B hb al lo H σ ρ S _ s h => h al lo H σ .refl s⟩
theorem zss_one (h : ZS X E b st g) : ZSs X E b [st] g := let ⟨t, p, r⟩ := h; ⟨t, pss_one p, r⟩
theorem zss_cons (h1 : ZS X E b st g) (h2 : ZSs X E b rest u) : ZSs X E b (st :: rest) (ySeq g u) := by
  obtain ⟨t1, p1, r1⟩ := h1
  obtain ⟨t2, p2, r2⟩ := h2
  refine ⟨_, pss_cons p1 p2, fun B hb al lo H σ ρ S D s h => r1 B hb al lo H σ ρ S _ s ?_⟩
  unfold ySeq at h
  cases q : g ρ S with
  | nx ρ1 S1 =>
    rw [q] at h
    exact fun al' lo' H' σ' x s' => r2 B hb al' lo' H' σ' ρ1 S1 D s' (okZ.ext h x)
  | bk ρ1 S1 => rw [q] at h; exact h
  | ct ρ1 S1 => rw [q] at h; exact h
  | rt d S1 => rw [q] at h; exact h
  | ex c ns ds S1 => rw [q] at h; exact h
  | bad => rw [q] at h; exact h
theorem zs_expr (he : ZE X E e f) (hs : swapsWith e none pos.line X.env = pure false := by rfl) : ZS X E b (.Expr e pos) (yExpr f) := by
  obtain ⟨t, p, r⟩ := he
  exact ⟨_, ps_expr p hs, fun B hb al lo H σ ρ S D s h => r _ _ _ _ _ _ _ _ s (AftZ.mono (okZ.ofX h) fun z al1 lo1 H1 S1 s1 x1 y1 h1 v rv => h1 al1 lo1 H1 σ .refl s1)⟩
theorem zs_ret (he : ZE X E e f) : ZS X E b (.Return (some e) pos) (yRet f) := by
  obtain ⟨t, p, r⟩ := he
  exact ⟨_, ps_ret p, fun B hb al lo H σ ρ S D s h => r _ _ _ _ _ _ _ _ s (AftZ.mono (okZ.ofX h) fun z al1 lo1 H1 S1 s1 x1 y1 h1 v rv => h1 al1 lo1 H1 v s1.toEZ rv)⟩
theorem zs_set (i : Nat) {x : Str} {pos' : Pos} (hN : X.N.Nodup) (hi : X.N[i]? = some x) (hx : Loc X.env.scope x) (he : ZE X E e f) (hs : swapsWith e (some (.Name x pos')) pos.line X.env = pure false := by rfl) (hf : X.fn x = true \/ X.env.scope.names.lookup x = some .local := by first | exact .inl rfl | exact .inr rfl | assumption) :
    ZS X E b (.Assign [.Name x pos'] e pos) (ySet i f) := by
  obtain ⟨t, p, r⟩ := he
  refine ⟨_, ps_set hN hi hx p hs hf, fun B hb al lo H σ ρ S D s h => r _ _ _ _ _ _ _ _ s (AftZ.mono (okZ.ofX h) fun z al1 lo1 H1 S1 s1 x1 y1 h1 v rv => ?_)⟩
  by_cases w : i < ρ.length
  · simp only [w, if_true] at h1
    exact h1 al1 lo1 H1 _ .refl (s1.set w rv)
  · simp only [w, if_false] at h1
    exact h1.elim
theorem zs_if (hc : ZT X E c fc) (ha : ZSs X E b sa ga) (hb : ZSs X E b sb gb) : ZS X E b (.If c sa sb pos) (yIf fc ga gb) := by
  obtain ⟨tc, pc, rc⟩ := hc
  obtain ⟨ta, pa, ra⟩ := ha
  obtain ⟨tb, pb, rb⟩ := hb
  refine ⟨_, ps_if pc pa pb, fun B hb al lo H σ ρ S D s h => rc _ _ _ _ _ _ _ _ s (AftZ.mono (okZ.ofX h) fun k al1 lo1 H1 S1 s1 x1 y1 h1 => ?_)⟩
  cases k with
  | true => exact iteT (ra _ hb _ _ _ _ _ _ _ s1 h1)
  | false => exact iteF (rb _ hb _ _ _ _ _ _ _ s1 h1)
noncomputable def turnZ (r : RTZ) (k : ZEv -> Sto -> RTZ) : RTZ := match r with
  | .nx ρ S => k ρ S
  | .ct ρ S => k ρ S
  | .bk ρ S => .nx ρ S
  | r => r
theorem turnZ_ok {K : W.Frag} {B : Z0} {E : XK} {al : Addr -> Prop} {H : Hp} {D : Ends} {r : RTZ} {k : ZEv -> Sto -> RTZ} {N : St -> Hp -> Prop} (h : okZ K B E D al H (turnZ r k))
    (hN : ∀ al' lo' H' σ' ρ' S', Xt al H al' H' -> RZ K B al' lo' H' σ' ρ' S' -> okZ K B E D al' H' (k ρ' S') -> N σ' H') : okZ K B E { D with nx := N, ct := N, bk := D.nx } al H r := by
  cases r with
  | nx ρ S => exact fun al' lo' H' σ' x s => hN al' lo' H' σ' ρ S x s (okZ.ext h x)
  | ct ρ S => exact fun al' lo' H' σ' x s => hN al' lo' H' σ' ρ S x s (okZ.ext h x)
  | bk ρ S => exact h
  | rt d S => exact h
  | ex c ns ds S => exact h
  | bad => exact h
end
noncomputable def ZG (X : Cx) (tg : Expr) (a : D -> ZEv -> Option ZEv) : Prop := ∃ g : TG, PG X tg g /\
  ∀ B al lo H σ ρ S v d (Q : St -> Hp -> Prop), RZ X.K B al lo H σ ρ S -> Rep X.K al H v d -> (∃ ρ', a d ρ = some ρ' /\ ∀ σ', RZ X.K B al lo H σ' ρ' S -> Q σ' H) -> g v σ H Q
noncomputable def hV (i : Nat) : D -> ZEv -> Option ZEv := fun d ρ => if i < ρ.length then some (ρ.set i (some (.d d))) else none
noncomputable def hN : List D -> ZEv -> Option ZEv := fun ds ρ => match ds with
  | [] => some ρ
  | _ => none
noncomputable def hT (n : Nat) (a : List D -> ZEv -> Option ZEv) : D -> ZEv -> Option ZEv := fun d ρ => match d with
  | .tup ds => if ds.length = n then a ds ρ else none
  | _ => none
noncomputable def toOZ {α : Type} (r : Option α) (k : α -> RTZ) : RTZ := match r with
  | some a => k a
  | none => .bad
noncomputable def forZ (a : D -> ZEv -> Option ZEv) (b : ZEv -> Sto -> RTZ) : List D -> ZEv -> Sto -> RTZ
  | [], ρ, S => .nx ρ S
  | d :: r, ρ, S => toOZ (a d ρ) fun ρ1 => turnZ (b ρ1 S) (forZ a b r)
section
variable {X : Cx} {E : XK} {b : Nat} {tg iter : Expr} {body : List Stmt} {fi : Ev -> R (List D)} {a : D -> ZEv -> Option ZEv} {gb : ZEv -> Sto -> RTZ} {pos : Pos} {e : Expr} {f : ZEv -> Sto -> RX Z}
noncomputable def yFor (fi : Ev -> R (List D)) (a : D -> ZEv -> Option ZEv) (gb : ZEv -> Sto -> RTZ) : ZEv -> Sto -> RTZ := fun ρ S => toZ (upR (fi (pur ρ)) S) fun ds S1 => forZ a gb ds ρ S1
theorem zg_name (i : Nat) {x : Str} (hN : X.N.Nodup) (hi : X.N[i]? = some x) (hx : Loc X.env.scope x) (hf : X.fn x = true \/ X.env.scope.names.lookup x = some .local := by first | exact .inl rfl | exact .inr rfl | assumption) : ZG X (.Name x pos) (hV i) := by
  refine ⟨_, pg_name hN hi hx hf, fun B al lo H σ ρ S v d Q s rv h => ?_⟩
  obtain ⟨ρ', e, q⟩ := h
  unfold hV at e
  by_cases z : i < ρ.length
  · rw [if_pos z] at e; cases e
    exact q _ (s.set z rv)
  · rw [if_neg z] at e; cases e
theorem zs_for (hp : PassesOwn (model X.prog X.w) X.A X.env X.xe) (hc : X.calm = true) (hi : DI X E tg iter fi) (hg : ZG X tg a) (hb : ZSs X E b body gb) (hs : ∀ x, foldedSetIterable iter X.env x = pure x := by intro _; rfl) :
    ZS X E b (.For tg iter body [] pos) (yFor fi a gb) := by
  obtain ⟨wi, pi, ri⟩ := hi
  obtain ⟨g, pg, rg⟩ := hg
  obtain ⟨tb, pb, rb⟩ := hb
  refine ⟨_, ps_for hp hc pi pg pb hs, fun B hb al lo H σ ρ S D s h => ri _ _ _ _ _ _ _ s.rs (Aft.mono (AftZ.toAft (k := fun ds al' lo' H' S' => okZ X.K B E D al' H' (forZ a gb ds ρ S')) s (okZ.ofX h)) fun ds H1 s1 h1 J wk => ?_)⟩
  refine ⟨fun i m σ2 H2 => ∃ al2 lo2 ρ2 S2, RZ X.K B al2 lo2 H2 σ2 ρ2 S2 /\ Wk X.K al2 H2 J ds /\ okZ X.K B E D al2 H2 (forZ a gb (ds.drop i) ρ2 S2) /\ m = ds.length - i, ⟨_, al, lo, ρ, S, s.grow s1, wk, h1, rfl⟩, ?_⟩
  rintro i m σ2 H2 ⟨al2, lo2, ρ2, S2, s2, wk2, h2, rfl⟩
  obtain ⟨w1, w2⟩ := wk2 al2 H2 .refl s2.fresh
  by_cases hi : i < ds.length
  · right
    have ed : ds[i]? = some ds[i] := List.getElem?_eq_getElem hi
    obtain ⟨go, yl⟩ := w1 i _ ed
    rw [List.drop_eq_getElem_cons hi] at h2
    refine ⟨go, fun σ' H' => ∃ al2 lo2 ρ2 S2, RZ X.K B al2 lo2 H' σ' ρ2 S2 /\ Wk X.K al2 H' J ds /\ okZ X.K B E D al2 H' (forZ a gb (ds.drop (i + 1)) ρ2 S2), fun σ' H' ⟨al3, lo3, ρ3, S3, z1, z2, z3⟩ => ⟨ds.length - (i + 1), by omega, al3, lo3, ρ3, S3, z1, z2, z3, rfl⟩, fun x H3 y => ?_⟩
    obtain ⟨rfl, rx⟩ := yl x H3 y
    unfold forZ at h2
    cases q : a ds[i] ρ2 with
    | some ρ3 =>
      rw [q] at h2
      refine rg _ _ _ _ _ _ _ _ _ _ s2 rx ⟨ρ3, q, fun σ3 s3 => rb _ hb _ _ _ _ _ _ _ s3 (turnZ_ok (k := forZ a gb (ds.drop (i + 1))) h2 fun al' lo' H' σ' ρ' S' x' s' h' => ⟨al', lo', ρ', S', s', fun al4 H4 x4 => wk2 al4 H4 (x'.trans x4), h'⟩)⟩
    | none => rw [q] at h2; exact h2.elim
  · left
    have e : ds.drop i = [] := List.drop_eq_nil_of_le (by omega)
    rw [e] at h2
    exact ⟨w2 i (by omega), h2 al2 lo2 H2 σ2 .refl s2⟩
end
end P2
namespace P2
open PySem L2
noncomputable def startZ (n : Nat) (zs : List Z) : ZEv := zs.map some ++ List.replicate (n - zs.length) none
noncomputable def finZ : RTZ -> RX Z
  | .rt z S => .ok z S
  | .nx _ S => .ok (.d .non) S
  | .ex c ns ds S => .ex c ns ds S
  | _ => .bad
theorem rz_start {K : W.Frag} {al : Addr -> Prop} {lo : Lo} {H : Hp} {S : Sto} {vs : List V} {zs : List Z} {N : List Str} (tt : TbOk K H) (fr : ∀ a, H a = none -> al a) (st : StOk K al lo H S) (r : RepZs K al lo H vs zs) : RZ K ⟨H, al, lo, S.length⟩ al lo H (L2.start N vs) (startZ N.length zs) S where
  toEZ := EZ.start (zs := zs) tt fr st
  len := by unfold L2.start startZ; simp [r.length]
  vr := fun i z h => by
    unfold startZ at h
    by_cases hi : i < zs.length
    · rw [List.getElem?_append_left (by simpa using hi), List.getElem?_map] at h
      cases q : zs[i]? with
      | none => rw [q] at h; cases h
      | some y =>
        rw [q] at h; cases h
        obtain ⟨v, e1, e2⟩ := r.get q
        refine ⟨v, ?_, e2⟩
        unfold L2.start
        rw [List.getElem?_append_left (by simpa [r.length] using hi), List.getElem?_map, e1]; rfl
    · rw [List.getElem?_append_right (by simpa using hi), List.getElem?_replicate] at h
      split at h <;> cases h
section
variable {P : Program} {w : World} {K : W.Frag} {mg : Str -> Option Value} {base : Heap}
theorem fn_denZ {x : Str} {st : Stmt} {f : Addr} {fd : FuncData} {N ps : List Str} {k : Nat} {g : Nat -> ZEv -> Sto -> RTZ} (F : Fun K x x st f fd) (S : FnScope N ps (defScope st))
    (body : ∀ (b : Nat) (cdv : Value) (A : Around) (outer : List Env) (s : Shared) (H : Hp) (E : XK), Room k (cxOf (CXx P w) P w K mg base N x (defScope st) f cdv A outer s H E).A -> ZSs (cxOf (CXx P w) P w K mg base N x (defScope st) f cdv A outer s H E) E b (defBody st) (g b)) :
    FnOk P w K mg base (CXx P w) (k + 1) f fd ps (spZ ps.length K fun zs S => finZ (g S.length (startZ N.length zs) S)) := by
  refine F.okX S (fun vs H Q E h => h.1) (fun cdv A outer s H vs Q E hr h => ?_)
  obtain ⟨hl, tt, al, lo, zs, S0, fr, st, rv, h⟩ := h
  obtain ⟨t, p, r⟩ := body S0.length cdv A outer s H E hr
  dsimp only at h
  refine ⟨t, p, r ⟨H, al, lo, S0.length⟩ rfl al lo H (L2.start N vs) (startZ N.length zs) S0 _ (rz_start tt fr st rv) ?_⟩
  cases q : g S0.length (startZ N.length zs) S0 with
  | nx ρ S1 => rw [q] at h; exact fun al' lo' H' σ' _ s' => h al' lo' H' .non s'.toEZ .non
  | rt z S1 => rw [q] at h; exact h
  | ex c ns es S1 => rw [q] at h; exact h
  | bk ρ S1 => rw [q] at h; exact h.elim
  | ct ρ S1 => rw [q] at h; exact h.elim
  | bad => rw [q] at h; exact h.elim
end
section
variable {X : Cx} {E : XK} {b : Nat} {st : Stmt} {e : Expr} {pos : Pos}
theorem zs_setU (i : Nat) {x : Str} {pos' : Pos} {fn : Ev -> R (List D)} (hN : X.N.Nodup) (hi : X.N[i]? = some x) (hx : Loc X.env.scope x) (he : DNU X E e fn) (hs : swapsWith e (some (.Name x pos')) pos.line X.env = pure true := by rfl) (hf : X.fn x = true \/ X.env.scope.names.lookup x = some .local := by first | exact .inl rfl | exact .inr rfl | assumption) :
    ZS X E b (.Assign [.Name x pos'] e pos) (ySet i (zD (asN fn))) := by
  obtain ⟨t, _, p, r⟩ := he
  refine ⟨_, ps_use hN hi hx p hs hf, fun B hb al lo H σ ρ S D s h => r _ _ _ _ _ _ _ s.rs ?_⟩
  have h1 := AftZ.toAft s (AftZ.split (okZ.ofX h))
  refine Aft.mono (Aft.split h1) fun ds H1 s1 h2 p vs hp rv => ?_
  have s2 := (s.grow s1).grow (same_upd (K := X.K) (o := HO.lst vs) hp)
  have h3 := h2 _ (same_upd (K := X.K) (o := HO.lst vs) hp) al lo _ s2 .refl .refl
  dsimp only at h3
  by_cases w : i < ρ.length
  · rw [if_pos w] at h3
    exact h3 _ _ _ _ .refl (s2.set w (show RepZ X.K al lo _ (.ref p) (.d (.lst ds)) from rv.lstNew hp ((s.grow s1).fresh p hp)))
  · rw [if_neg w] at h3
    exact h3.elim
end
section
variable {X : Cx} {E : XK} {b : Nat} {e : Expr} {pos : Pos} {f : ZEv -> Sto -> RX Z}
noncomputable def yApp (i : Nat) (f : ZEv -> Sto -> RX Z) : ZEv -> Sto -> RTZ := fun ρ S => match ρ[i]? with
  | some (some (.loc n)) => (match S[n]? with
    | some (.li _) => toZ (f ρ S) fun z S1 => (match S1[n]? with
      | some (.li zs) => if zs.length < sizeLine then .nx ρ (S1.set n (.li (zs ++ [z]))) else .bad
      | _ => .bad)
    | _ => .bad)
  | _ => .bad
theorem RZ.cell {K : W.Frag} {B : Z0} {al : Addr -> Prop} {lo : Lo} {H : Hp} {σ : St} {ρ : ZEv} {S : Sto} (s : RZ K B al lo H σ ρ S) {n : Nat} {a : Addr} (hn : lo n = some a) {c : Cell} (h : S[n]? = some c) : CellAt K al lo H a c := by
  obtain ⟨c', h1, h2⟩ := s.st.at' n a hn
  rw [h] at h1; cases h1; exact h2
theorem zs_append (i : Nat) {x : Str} {opos apos cpos : Pos} (pa : PlainAttrs "list") (slot : Slot "list" "append" "list.append") (hty : typeOf (.builtin "list.append") = pure (.type "method_descriptor")) (he : ZE X E e f)
    (hN : X.N[i]? = some x := by rfl) (hv : Vis X.env.scope x := by first | exact Or.inl rfl | exact Or.inr (Or.inl rfl) | exact Or.inr (Or.inr rfl)) (hd : (x == ("__debug__" : Str)) = false := by decide)
    (hcd : (x == ("__classdict__" : Str)) = false := by decide)
    (hbase : attributeBase (.Name x opos) "append" X.env (eval (.Name x opos) X.env) = eval (.Name x opos) X.env := by rfl)
    (hfew : ((backTo cpos (starEach [e] X.env)).all (fun x => !x.1) && (backToKw cpos (keywordEach [] X.env)).all (fun x => x.1.isSome)
      && decide ([e].length + ([] : List Keyword).length + (if ([] : List Keyword).isEmpty then 0 else 1) < 30)) = true := by rfl)
    (hline : (apos.endLine == cpos.line) = true := by rfl) (hs : starEach [e] X.env = (false, eval e X.env) :: starEach [] X.env := by rfl) (hplain : (backTo cpos (starEach [] X.env)).any (·.1) = false := by rfl)
    (hsw : swapsWith (.Call (.Attribute (.Name x opos) "append" apos) [e] [] cpos) none pos.line X.env = pure false := by rfl) :
    ZS X E b (.Expr (.Call (.Attribute (.Name x opos) "append" apos) [e] [] cpos) pos) (yApp i f) := by
  obtain ⟨t, p, r⟩ := he
  refine ⟨_, ps_expr (pe_bm pa slot hty mt_append (pe_var hN hv hd hcd) (pa_cons p pa_nil hs) hbase hfew hline hs hplain) hsw, fun B hb al lo H σ ρ S D s h => ?_⟩
  unfold yApp at h
  split at h
  · rename_i n q
    split at h
    · rename_i zs0 q0
      obtain ⟨v, e1, a, hn, rfl⟩ := s.vr i _ q
      obtain ⟨vs, e2, e3⟩ := s.cell hn q0
      refine ⟨_, e1, .inl ⟨rfl, vs, .inl (.inl e2)⟩, r _ _ _ _ _ _ _ _ s (AftZ.mono (okZ.ofX h) fun z al1 lo1 H1 S1 s1 x1 y1 h1 u ru => ?_)⟩
      split at h1
      · rename_i zs q1
        have hn1 := y1 n a hn
        obtain ⟨ws, g2, g3⟩ := s1.cell hn1 q1
        by_cases w : zs.length < sizeLine
        · rw [if_pos w] at h1
          have x2 : Xt al1 H1 al1 (upd H1 a (.lst (ws ++ [u]))) := fun b o _ hb eb => ⟨hb, by rw [upd_ne fun z => s1.st.na n a hn1 (by rw [← z]; exact hb)]; exact eb⟩
          obtain ⟨s2, x3⟩ := s1.write hn1 (o := .lst (ws ++ [u])) (c := .li (zs ++ [z])) nt_lst (fun q w => by unfold CodeO at w; cases w) ⟨_, upd_same, RepZs.mv x2 .refl (g3.append (.cons ru .nil))⟩ nofun
          exact ⟨a, ws, u, rfl, rfl, g2, by rw [g3.length]; exact w, h1 _ _ _ _ x3 s2⟩
        · rw [if_neg w] at h1; exact h1.elim
      · exact h1.elim
    · exact h.elim
  · exact h.elim
end
end P2
namespace P2
open PySem L2
section
variable {X : Cx} {E : XK} {b : Nat} {e k : Expr} {pos : Pos} {f : ZEv -> Sto -> RX Z} {fk : Ev -> R D}
end
mutual
noncomputable def noL : D -> Bool
  | .lst _ => false
  | .tup ds => noLs ds
  | .exc _ _ _ => false
  | _ => true
noncomputable def noLs : List D -> Bool
  | [] => true
  | d :: r => noL d && noLs r
end
noncomputable def vwS (S : Sto) : Option Z -> Sl
  | some (.d x) => .sh x
  | some (.loc n) => (match S[n]? with
    | some (.li zs) => (match asDs zs with
      | some ds => .sh (.lst ds)
      | none => .no)
    | _ => .no)
  | _ => .no
noncomputable def vw (S : Sto) (ρ : ZEv) : Ev := ρ.map (vwS S)
section
variable {K : W.Frag} {B : Z0} {al : Addr -> Prop} {lo : Lo} {H H' : Hp} {σ : St} {ρ : ZEv} {S : Sto}
noncomputable def alV (al : Addr -> Prop) (lo : Lo) : Addr -> Prop := fun a => al a \/ ∃ n, lo n = some a
theorem RZ.rsV (r : RZ K B al lo H σ ρ S) : RS K (alV al lo) H (alV al lo) H σ (vw S ρ) where
  same := .refl H
  tt := r.tt
  fresh := fun a h => .inl (r.fresh a h)
  sub := fun _ h => h
  pf := fun a h => .inl (r.fresh a h)
  len := by unfold vw; rw [List.length_map]; exact r.len
  sh := fun i d h => by
    unfold vw at h
    rw [List.getElem?_map] at h
    obtain ⟨z, h1, h2⟩ := Option.map_eq_some_iff.mp h
    cases z with
    | none => cases h2
    | some z =>
      obtain ⟨v, e1, e2⟩ := r.vr i z h1
      refine ⟨v, e1, ?_⟩
      cases z with
      | d x => cases h2; exact Rep.mv (.sub fun _ h => .inl h) e2
      | tk ks => cases h2
      | loc n =>
        unfold vwS at h2
        dsimp only at h2
        split at h2
        · rename_i zs q
          split at h2
          · rename_i ds qd
            cases h2
            have := asDs_map qd
            subst this
            obtain ⟨a, hn, rfl⟩ := e2
            obtain ⟨vs, g1, g2⟩ := r.cell hn q
            exact .lst (.inl ⟨.inr ⟨n, hn⟩, .inl g1⟩) (Reps.mv (.sub fun _ h => .inl h) g2.toD)
          · cases h2
        · cases h2
  ow := fun i ds h => by
    unfold vw at h
    rw [List.getElem?_map] at h
    obtain ⟨z, h1, h2⟩ := Option.map_eq_some_iff.mp h
    unfold vwS at h2
    split at h2
    · cases h2
    · split at h2
      · split at h2 <;> cases h2
      · cases h2
    · cases h2
  apart := fun i j ds ds' a h _ _ _ => by
    unfold vw at h
    rw [List.getElem?_map] at h
    obtain ⟨z, h1, h2⟩ := Option.map_eq_some_iff.mp h
    unfold vwS at h2
    split at h2
    · cases h2
    · split at h2
      · split at h2 <;> cases h2
      · cases h2
    · cases h2
mutual
theorem Rep.noL (na : ∀ n a, lo n = some a -> ¬ ∃ vs, Rd H a (.tup vs)) : ∀ {v : V} {d : D}, Rep K (alV al lo) H v d -> P2.noL d = true -> Rep K al H v d
  | _, _, .non, _ => .non
  | _, _, .bl b, _ => .bl b
  | _, _, .int b, _ => .int b
  | _, _, .str b, _ => .str b
  | _, _, .ty b, _ => .ty b
  | _, _, .ref b, _ => .ref b
  | _, _, .tup p q, h => .tup (p.elim (fun z => .inl ⟨z.1.elim id fun ⟨n, hn⟩ => absurd ⟨_, z.2⟩ (na n _ hn), z.2⟩) .inr) (Reps.noL na q h)
  | _, _, .lst p q, h => by cases h
  | _, _, .exc p1 p2 p3 p4 q, h => by cases h
  | _, _, .exc0 p1 p2, h => by cases h
theorem Reps.noL (na : ∀ n a, lo n = some a -> ¬ ∃ vs, Rd H a (.tup vs)) : ∀ {v : List V} {d : List D}, Reps K (alV al lo) H v d -> noLs d = true -> Reps K al H v d
  | _, _, .nil, _ => .nil
  | _, _, .cons (d := d) (ds := ds) p q, h => by
    have h' : (P2.noL d && noLs ds) = true := h
    rw [Bool.and_eq_true] at h'
    exact .cons (Rep.noL na p h'.1) (Reps.noL na q h'.2)
end
end
noncomputable def zRB (f : Ev -> R Bool) : ZEv -> Sto -> RX Bool := fun ρ S => match f (vw S ρ) with
  | .ok d => .ok d S
  | _ => .bad
section
variable {X : Cx} {E : XK} {b : Nat} {e : Expr} {pos : Pos}
theorem zt_read {f : Ev -> R Bool} (h : DT X E e f) : ZT X E e (zRB f) := by
  obtain ⟨t, p, r⟩ := h
  refine ⟨t, p, fun B al lo H σ ρ S Q z h => r _ _ _ _ _ _ _ z.rsV ?_⟩
  unfold zRB at h
  cases q : f (vw S ρ) with
  | bad => rw [q] at h; exact h.elim
  | ex c ns ds => rw [q] at h; exact h.elim
  | ok d => rw [q] at h; exact fun H1 s1 => h al lo H1 (z.grow s1) (.of s1) .refl
end
noncomputable def thaw (n : Nat) (d : D) : Option Z -> Option Z
  | some (.loc m) => if m = n then some (.d d) else some (.loc m)
  | o => o
noncomputable def hasLoc (n : Nat) : Z -> Bool
  | .loc m => decide (m = n)
  | _ => false
noncomputable def cellHas (n : Nat) : Cell -> Bool
  | .li zs => zs.any (hasLoc n)
  | .ob _ fs => fs.any fun p => hasLoc n p.2
  | .dk kvs => kvs.any fun p => hasLoc n p.2
  | .dt kvs => kvs.any fun p => hasLoc n p.2
  | .no => false
  | .mk => false
noncomputable def frzZ (b : Nat) (i : Nat) (ρ : ZEv) (S : Sto) : Option (ZEv × Sto) := match ρ[i]? with
  | some (some (.loc n)) => (match S[n]? with
    | some (.li zs) => (match asDs zs with
      | some ds => if b <= n /\ (S.any (cellHas n)) = false then some (ρ.map (thaw n (.lst ds)), S.set n .no) else none
      | none => none)
    | _ => none)
  | some _ => some (ρ, S)
  | none => none
section
variable {K : W.Frag} {B : Z0} {al : Addr -> Prop} {lo : Lo} {H : Hp} {σ : St} {ρ ρ' : ZEv} {S S' : Sto}
theorem RepZ.out {al' : Addr -> Prop} {lo' : Lo} {n : Nat} (x : Xt al H al' H) (y : ∀ m a, m ≠ n -> lo m = some a -> lo' m = some a) {v : V} {z : Z} (r : RepZ K al lo H v z) (h : hasLoc n z = false) : RepZ K al' lo' H v z := by
  cases z with
  | d d => exact Rep.mv x r
  | loc m => obtain ⟨a, h1, h2⟩ := r; exact ⟨a, y m a (by simpa [hasLoc] using h) h1, h2⟩
  | tk ks => obtain ⟨a, h1, h2, h3⟩ := r; obtain ⟨g1, g2⟩ := x a (.tup (ks.map kV)) (fun _ h => nomatch h) h1 h2; exact ⟨a, g1, g2, h3⟩
theorem RepZs.out {al' : Addr -> Prop} {lo' : Lo} {n : Nat} (x : Xt al H al' H) (y : ∀ m a, m ≠ n -> lo m = some a -> lo' m = some a) {vs : List V} {zs : List Z} (r : RepZs K al lo H vs zs) (h : zs.any (hasLoc n) = false) : RepZs K al' lo' H vs zs := by
  induction r with
  | nil => exact .nil
  | cons a _ ih =>
    rw [List.any_cons, Bool.or_eq_false_iff] at h
    exact .cons (a.out x y h.1) (ih h.2)
theorem RepK.out {κ : Type} {al' : Addr -> Prop} {lo' : Lo} {n : Nat} (x : Xt al H al' H) (y : ∀ m a, m ≠ n -> lo m = some a -> lo' m = some a) {vs : List (κ × V)} {zs : List (κ × Z)} (r : RepK K al lo H vs zs) (h : (zs.any fun p => hasLoc n p.2) = false) : RepK K al' lo' H vs zs := by
  induction r with
  | nil => exact .nil
  | cons a _ ih =>
    rw [List.any_cons, Bool.or_eq_false_iff] at h
    exact .cons (a.out x y h.1) (ih h.2)
theorem CellAt.out {al' : Addr -> Prop} {lo' : Lo} {n : Nat} (x : Xt al H al' H) (y : ∀ m a, m ≠ n -> lo m = some a -> lo' m = some a) {a : Addr} {c : Cell} (r : CellAt K al lo H a c) (h : cellHas n c = false) : CellAt K al' lo' H a c := by
  cases c with
  | li zs => obtain ⟨vs, h1, h2⟩ := r; exact ⟨vs, h1, h2.out x y h⟩
  | ob C fs => obtain ⟨dx, us, h1, h2⟩ := r; exact ⟨dx, us, h1, h2.out x y h⟩
  | dk kvs => obtain ⟨us, h1, h2⟩ := r; exact ⟨us, h1, h2.out x y h⟩
  | dt kvs => obtain ⟨us, h1, h2⟩ := r; exact ⟨us, h1, h2.out x y h⟩
  | no => exact r
  | mk => exact r
theorem RZ.freeze (r : RZ K B al lo H σ ρ S) {i : Nat} (h : frzZ B.n i ρ S = some (ρ', S')) : ∃ al' lo', RZ K B al' lo' H σ ρ' S' /\ Xt al H al' H /\ ∀ n, ρ[i]? = some (some (.loc n)) -> ∀ m a, m ≠ n -> lo m = some a -> lo' m = some a := by
  unfold frzZ at h
  split at h
  · rename_i n q
    split at h
    · rename_i zs q0
      split at h
      · rename_i ds qd
        split at h
        · rename_i w
          cases h
          obtain ⟨v, e1, a, hn, rfl⟩ := r.vr i _ q
          have := asDs_map qd
          subst this
          obtain ⟨vs, g1, g2⟩ := r.cell hn q0
          have hl : n < S.length := (List.getElem?_eq_some_iff.mp q0).1
          have x : Xt al H (fun b => al b \/ b = a) H := fun b o _ hb e => ⟨.inl hb, e⟩
          have hB : B.H a = none := by
            rcases r.nw n a hn with z | z
            · exact absurd (r.bd n a z) (by omega)
            · exact z.1
          refine ⟨fun b => al b \/ b = a, fun m => if m = n then none else lo m, ?_, x, fun n' e m b hm hb => ?_⟩; rotate_left; · rw [q] at e; cases e; dsimp only; rw [if_neg hm]; exact hb
          have y : ∀ m b, m ≠ n -> lo m = some b -> (fun m => if m = n then none else lo m) m = some b := fun m b hm h => by dsimp only; rw [if_neg hm]; exact h
          have back : ∀ m b, (if m = n then none else lo m) = some b -> m ≠ n /\ lo m = some b := fun m b h => by
            by_cases z : m = n
            · rw [if_pos z] at h; cases h
            · rw [if_neg z] at h; exact ⟨z, h⟩
          have cl : ∀ c ∈ S, cellHas n c = false := fun c hc => by
            have := List.any_eq_false.mp w.2 c hc
            simpa using this
          refine { fr := r.fr, hf := r.hf, tt := r.tt, fresh := fun b hb => .inl (r.fresh b hb), st := ⟨fun m b hm => ?_, fun m c hm hc hc' => ?_, fun m b hm hb => ?_, fun m m' b h1 h2 => ?_, fun m b u hb hu => .inl (r.st.tl ?_ b u hb hu)⟩, lx := fun m b hm => ?_, nw := fun m b hm => r.nw m b (back m b hm).2, bd := r.bd, sz := by rw [List.length_set]; exact r.sz, xt := r.xt.trans x, sb := fun b hb => ?_, len := by rw [List.length_map]; exact r.len, vr := fun j z hz => ?_ }
          · obtain ⟨z1, z2⟩ := back m b hm
            obtain ⟨c, k1, k2⟩ := r.st.at' m b z2
            exact ⟨c, by rw [List.getElem?_set_ne (Ne.symm z1)]; exact k1, k2.out x y (cl c (List.mem_of_getElem? k1))⟩
          · by_cases z : n = m
            · subst z
              rw [List.getElem?_set_self hl] at hm; cases hm
              exact absurd rfl hc
            · rw [List.getElem?_set_ne z] at hm
              obtain ⟨b, k⟩ := r.st.has m c hm hc hc'
              exact ⟨b, by show (if m = n then none else lo m) = some b; rw [if_neg (Ne.symm z)]; exact k⟩
          · obtain ⟨z1, z2⟩ := back m b hm
            rcases hb with hb | rfl
            · exact r.st.na m b z2 hb
            · exact z1 (r.st.inj m n _ z2 hn)
          · exact r.st.inj m m' b (back m b h1).2 (back m' b h2).2
          · by_cases z : n = 0
            · subst z
              rw [List.getElem?_set_self hl] at m
              cases m
            · rw [List.getElem?_set_ne z] at m; exact m
          · have := r.bd m b hm
            show (if m = n then none else lo m) = some b
            rw [if_neg (by omega)]
            exact r.lx m b hm
          · rcases hb with hb | rfl
            · exact r.sb b hb
            · exact .inr hB
          · rw [List.getElem?_map] at hz
            obtain ⟨o, k1, k2⟩ := Option.map_eq_some_iff.mp hz
            cases o with
            | none => cases k2
            | some z0 =>
              obtain ⟨u, m1, m2⟩ := r.vr j z0 k1
              refine ⟨u, m1, ?_⟩
              cases z0 with
              | d x0 => cases k2; exact Rep.mv x m2
              | tk ks => cases k2; obtain ⟨a9, j1, j2, j3⟩ := m2; obtain ⟨i1, i2⟩ := x a9 (.tup (ks.map kV)) (fun _ h => nomatch h) j1 j2; exact ⟨a9, i1, i2, j3⟩
              | loc m =>
                have k2 : (if m = n then some (Z.d (.lst ds)) else some (Z.loc m)) = some z := k2
                by_cases zz : m = n
                · rw [if_pos zz] at k2; cases k2
                  obtain ⟨b, k3, rfl⟩ := m2
                  rw [zz, hn] at k3; cases k3
                  exact .lst (.inl ⟨.inr rfl, .inl g1⟩) (Reps.mv x g2.toD)
                · rw [if_neg zz] at k2; cases k2
                  obtain ⟨b, k3, rfl⟩ := m2
                  exact ⟨b, by dsimp only; rw [if_neg zz]; exact k3, rfl⟩
        · cases h
      · cases h
    · cases h
  · cases h; exact ⟨al, lo, r, .refl, fun _ _ _ _ _ h => h⟩
  · cases h
end
section
variable {X : Cx} {E : XK} {b : Nat} {sts : List Stmt} {st : Stmt} {g : ZEv -> Sto -> RTZ}
end
end P2
namespace L2
open PySem PySem.Spec PyProof.Rows
section
variable {κ : Type} [DecidableEq κ]
noncomputable def valV (kvs : List (κ × V)) (k : κ) : Option V := (kvs.find? fun kv => decide (kv.1 = k)).map (·.2)
noncomputable def putK (kvs : List (κ × V)) (k : κ) (v : V) : List (κ × V) :=
  if (kvs.any fun kv => decide (kv.1 = k)) = true then kvs.map (fun kv => if kv.1 = k then (kv.1, v) else kv) else kvs ++ [(k, v)]
theorem valV_pos {p : κ × V} {r : List (κ × V)} {k : κ} (e : p.1 = k) : valV (p :: r) k = some p.2 := by simp [valV, List.find?_cons, e]
theorem valV_neg {p : κ × V} {r : List (κ × V)} {k : κ} (e : ¬ p.1 = k) : valV (p :: r) k = valV r k := by simp [valV, List.find?_cons, e]
theorem valV_any (k : κ) : ∀ kvs : List (κ × V), (kvs.any fun kv => decide (kv.1 = k)) = (valV kvs k).isSome
  | [] => rfl
  | p :: r => by
    rw [List.any_cons]
    by_cases e : p.1 = k
    · simp only [valV_pos e, decide_eq_true e, Bool.true_or, Option.isSome_some]
    · rw [valV_neg e, decide_eq_false e, Bool.false_or]; exact valV_any k r
theorem length_putK (kvs : List (κ × V)) (k : κ) (v : V) : (putK kvs k v).length <= kvs.length + 1 := by
  unfold putK
  split
  · rw [List.length_map]; omega
  · rw [List.length_append, List.length_cons, List.length_nil]; omega
theorem RelO.isSome_eq {o : Option V} {u : Option Value} (r : RelO o u) : o.isSome = u.isSome := by
  cases o with
  | none => cases u with
    | none => rfl
    | some _ => exact (show False from r).elim
  | some _ => cases u with
    | none => exact (show False from r).elim
    | some _ => rfl
theorem KV.val {kvs : List (κ × V)} {vs : List (κ × Value)} (r : KV kvs vs) (k : κ) : RelO (valV kvs k) (valueAt vs k) := by
  unfold KV at r
  induction r with
  | nil => exact True.intro
  | @cons p q ps qs h t ih =>
    obtain ⟨h1, h2⟩ := h
    by_cases e : p.1 = k
    · have e' : q.1 = k := h1.symm.trans e
      have b : valueAt (q :: qs) k = some q.2 := by simp [valueAt, List.find?_cons, e']
      rw [valV_pos e, b]; exact h2
    · have e' : ¬ q.1 = k := fun z => e (h1.trans z)
      have b : valueAt (q :: qs) k = valueAt qs k := by simp [valueAt, List.find?_cons, e']
      rw [valV_neg e, b]; exact ih
theorem KV.any {kvs : List (κ × V)} {vs : List (κ × Value)} (r : KV kvs vs) (k : κ) : (kvs.any fun kv => decide (kv.1 = k)) = vs.any fun kv => decide (kv.1 = k) := by
  unfold KV at r
  induction r with
  | nil => rfl
  | cons h t ih => rw [List.any_cons, List.any_cons, ih, h.1]
theorem KV.repl {kvs : List (κ × V)} {vs : List (κ × Value)} (r : KV kvs vs) (k : κ) {y : V} {u : Value} (ry : RelV y u) :
    KV (kvs.map fun kv => if kv.1 = k then (kv.1, y) else kv) (vs.map fun kv => if kv.1 = k then (kv.1, u) else kv) := by
  unfold KV at r ⊢
  induction r with
  | nil => exact .nil
  | @cons p q ps qs h t ih =>
    rw [List.map_cons, List.map_cons]
    refine .cons ?_ ih
    obtain ⟨h1, h2⟩ := h
    by_cases e : p.1 = k
    · rw [if_pos e, if_pos (h1.symm.trans e)]; exact ⟨h1, ry⟩
    · rw [if_neg e, if_neg (fun z => e (h1.trans z))]; exact ⟨h1, h2⟩
theorem KV.put {kvs : List (κ × V)} {vs : List (κ × Value)} (r : KV kvs vs) (k : κ) {y : V} {u : Value} (ry : RelV y u) : KV (putK kvs k y) (stored vs k u) := by
  unfold putK stored
  rw [r.any k]
  by_cases e : (vs.any fun kv => decide (kv.1 = k)) = true
  · rw [if_pos e, if_pos e]; exact r.repl k ry
  · rw [if_neg e, if_neg e]; exact Paired.snoc r ⟨rfl, ry⟩
theorem KV.length {kvs : List (κ × V)} {vs : List (κ × Value)} (r : KV kvs vs) : kvs.length = vs.length := Paired.length r
end
theorem kV_is {P : Program} {w : World} {k : Key} {u : Value} (r : RelV (kV k) u) : (mixKind P w).is k u = true := by
  cases k with
  | inl i => obtain ⟨t, e⟩ := (show ∃ t, u = Value.int i t from r); subst e; exact mixKind_int P w i t
  | inr x => obtain ⟨t, e⟩ := (show ∃ t, u = Value.str x t from r); subst e; exact mixKind_str P w x t
theorem items_are {P : Program} {w : World} : ∀ {ks : List Key} {us : List Value}, Vals (ks.map kV) us -> ItemsAre (mixKind P w) ks us
  | [], _, r => by rw [List.map_nil] at r; cases r; exact .nil
  | k :: ks, _, r => by
    rw [List.map_cons] at r
    cases r with
    | cons h t => exact .cons (kV_is h) (items_are t)
noncomputable abbrev KT (H : Hp) : List (List Key × V) -> List (List Key × Addr × Value) -> Prop := Paired fun p q => p.1 = q.1 /\ H q.2.1 = some (.tup (p.1.map kV)) /\ RelV p.2 q.2.2
theorem KT.val {H : Hp} {kvs : List (List Key × V)} {xs : List (List Key × Addr × Value)} (r : KT H kvs xs) (k : List Key) : RelO (valV kvs k) ((atKey xs k).map (·.2)) := by
  induction r with
  | nil => exact True.intro
  | @cons p q ps qs h t ih =>
    obtain ⟨h1, _, h2⟩ := h
    by_cases e : p.1 = k
    · have e' : q.1 = k := h1.symm.trans e
      have b : atKey (q :: qs) k = some q.2 := by simp [atKey, List.find?_cons, e']
      rw [valV_pos e, b]; exact h2
    · have e' : ¬ q.1 = k := fun z => e (h1.trans z)
      have b : atKey (q :: qs) k = atKey qs k := by simp [atKey, List.find?_cons, e']
      rw [valV_neg e, b]; exact ih
theorem KT.repl {H : Hp} {kvs : List (List Key × V)} {xs : List (List Key × Addr × Value)} (r : KT H kvs xs) (k : List Key) {y : V} {u : Value} (ry : RelV y u) :
    KT H (kvs.map fun kv => if kv.1 = k then (kv.1, y) else kv) (xs.map (putAt k u)) := by
  induction r with
  | nil => exact .nil
  | @cons p q ps qs h t ih =>
    rw [List.map_cons, List.map_cons]
    refine .cons ?_ ih
    obtain ⟨h1, h2, h3⟩ := h
    unfold putAt
    by_cases e : p.1 = k
    · rw [if_pos e, if_pos (h1.symm.trans e)]; exact ⟨h1, h2, ry⟩
    · rw [if_neg e, if_neg (fun z => e (h1.trans z))]; exact ⟨h1, h2, h3⟩
theorem KT.put {H : Hp} {kvs : List (List Key × V)} {xs : List (List Key × Addr × Value)} (r : KT H kvs xs) (k : List Key) {b : Addr} {y : V} {u : Value} (hb : H b = some (.tup (k.map kV))) (ry : RelV y u) :
    KT H (putK kvs k y) (storedH xs k b u) := by
  have e : (kvs.any fun kv => decide (kv.1 = k)) = (atKey xs k).isSome := by
    rw [valV_any, (r.val k).isSome_eq, Option.isSome_map]
  unfold putK storedH
  rw [e]
  by_cases q : (atKey xs k).isSome = true
  · rw [if_pos q, if_pos q]; exact r.repl k ry
  · rw [if_neg q, if_neg q]; exact Paired.snoc r ⟨rfl, hb, ry⟩
theorem KT.keeps {H H' : Hp} {kvs : List (List Key × V)} {xs : List (List Key × Addr × Value)} (r : KT H kvs xs) (ht : ∀ b ys, H b = some (.tup ys) -> H' b = some (.tup ys)) : KT H' kvs xs :=
  Paired.mapP r fun _ _ z => ⟨z.1, ht _ _ z.2.1, z.2.2⟩
section
variable {P : Program} {w : World} {H : Hp} {h : Heap} {a : Addr}
theorem rd_of {u : HO} (ok : HOk P w H h) (e : Rd H a u) : ObjOk P w H h a u := e.ok ok
theorem dk_rd {kvs : List (Key × V)} (ok : HOk P w H h) (e : Rd H a (.dK kvs)) : kvs.length <= sizeLine /\ (a == sysModules) = false /\ ∃ vs, KV kvs vs /\ h.DictOf (mixKind P w) a vs :=
  show ObjOk P w H h a (.dK kvs) from rd_of ok e
theorem dk_of {kvs : List (Key × V)} (ok : HOk P w H h) (e : H a = some (.dK kvs)) : kvs.length <= sizeLine /\ (a == sysModules) = false /\ ∃ vs, KV kvs vs /\ h.DictOf (mixKind P w) a vs := dk_rd ok (.inl e)
theorem key_of {ks : List Key} (ok : HOk P w H h) (e : H a = some (.tup (ks.map kV))) : (tupleKind (mixKind P w)).is h ks a := by
  obtain ⟨_, its, r, o, h1, h2, n, h3⟩ := (show ObjOk P w H h a (.tup (ks.map kV)) from ok a _ e)
  exact ⟨o, its.toArray, n, h1, h2, h3, by simpa using items_are r⟩
theorem dt_rd {kvs : List (List Key × V)} (ok : HOk P w H h) (e : Rd H a (.dT kvs)) : kvs.length <= sizeLine /\ (a == sysModules) = false /\
    ∃ xs, KT H kvs xs /\ h.DictOfH (tupleKind (mixKind P w)) a xs := by
  obtain ⟨z, y, xs, r, o, es, ep, h1, h2, h3, h4, h5⟩ := (show ObjOk P w H h a (.dT kvs) from rd_of ok e)
  refine ⟨z, y, xs, r, o, es, ep, h1, h2, h3, h4, fun x hx => ?_, h5⟩
  have all : ∀ {l : List (List Key × V)} {m : List (List Key × Addr × Value)}, KT H l m -> ∀ x ∈ m, (tupleKind (mixKind P w)).is h x.1 x.2.1 := by
    intro l m q
    induction q with
    | nil => intro x hx; exact nomatch hx
    | @cons p q ps qs hq t ih =>
      intro x hx
      rcases List.mem_cons.mp hx with e | hx
      · subst e
        exact key_of ok (by rw [← hq.1]; exact hq.2.1)
      · exact ih x hx
  exact all r x hx
theorem dt_of {kvs : List (List Key × V)} (ok : HOk P w H h) (e : H a = some (.dT kvs)) : kvs.length <= sizeLine /\ (a == sysModules) = false /\
    ∃ xs, KT H kvs xs /\ h.DictOfH (tupleKind (mixKind P w)) a xs := dt_rd ok (.inl e)
end
noncomputable def DGet (H : Hp) (a : Addr) (y : V) (r : Option V) : Prop :=
  (∃ kvs k, Rd H a (.dK kvs) /\ y = kV k /\ r = valV kvs k) \/ ∃ kvs k b, Rd H a (.dT kvs) /\ y = .ref b /\ H b = some (.tup (k.map kV)) /\ r = valV kvs k
noncomputable def DPut (H : Hp) (a : Addr) (y v : V) (H' : Hp) : Prop :=
  (∃ kvs k, H a = some (.dK kvs) /\ y = kV k /\ kvs.length < sizeLine /\ H' = upd H a (.dK (putK kvs k v))) \/
  ∃ kvs k b, H a = some (.dT kvs) /\ y = .ref b /\ H b = some (.tup (k.map kV)) /\ kvs.length < sizeLine /\ H' = upd H a (.dT (putK kvs k v))
theorem DGet.t {H : Hp} {a b : Addr} {kvs : List (List Key × V)} {k : List Key} (e : H a = some (.dT kvs)) (eb : H b = some (.tup (k.map kV))) : DGet H a (.ref b) (valV kvs k) := .inr ⟨kvs, k, b, .inl e, rfl, eb, rfl⟩
theorem DPut.t {H : Hp} {a b : Addr} {kvs : List (List Key × V)} {k : List Key} {v : V} (e : H a = some (.dT kvs)) (eb : H b = some (.tup (k.map kV))) (hl : kvs.length < sizeLine) :
    DPut H a (.ref b) v (upd H a (.dT (putK kvs k v))) := .inr ⟨kvs, k, b, e, rfl, eb, hl, rfl⟩
section
variable {X : Cx} {pins : List (Addr × Obj)} {σ : St} {H : Hp} {s : Shared} {a : Addr} {y v : V} {u r : Value} {o : Option V} {A : Around} {E : Value -> Shared -> Prop}
theorem Inv.big (I : Inv X pins σ H s) : sysModules < s.heap.objs.size := by
  have h : mainGlobals < s.heap.objs.size := (I.mod.glob.keeps I.bk).lt
  exact Nat.lt_trans (by decide) h
theorem d_getItem {Q : Value -> Shared -> Prop} (hu : A.units + 1 < cLine) (I : Inv X pins σ H s) (g : DGet H a y (some v)) (ry : RelV y u) (h : ∀ w' s', Inv X pins σ H s' -> RelV v w' -> Q w' s') :
    wpAny (model X.prog X.w) A (getItem (.ref a) u) Q E s := by
  rcases g with ⟨kvs, k, e, ey, l⟩ | ⟨kvs, k, b, e, ey, eb, l⟩
  · subst ey
    obtain ⟨z, hd, vs, rel, dd⟩ := dk_rd I.hok e
    obtain ⟨w', hw, rw'⟩ := RelO.some_of (v := v) (o := valueAt vs k) (by rw [l]; exact rel.val k)
    exact wpAny_getItem_of (kV_is ry) dd.mapOf hw (h w' _ (I.tok _) rw')
  · subst ey
    cases (show u = Value.ref b from ry)
    obtain ⟨z, hd, xs, rel, dd⟩ := dt_rd I.hok e
    obtain ⟨w', hw, rw'⟩ := RelO.some_of (v := v) (o := (atKey xs k).map (·.2)) (by rw [l]; exact rel.val k)
    obtain ⟨p, hp, hp2⟩ := Option.map_eq_some_iff.mp hw
    refine wpAny_getItem_heap (tupleKind_room_in1 hu) (key_of I.hok eb) dd hp ?_
    rw [hp2]
    exact h w' _ (I.tok _) rw'
theorem d_in {Q : Value -> Shared -> Prop} (hu : A.units + 1 < cLine) (I : Inv X pins σ H s) (g : DGet H a y o) (ry : RelV y u) (h : ∀ s', Inv X pins σ H s' -> Q (.bool o.isSome) s') :
    wpAny (model X.prog X.w) A (compareOp .In u (.ref a)) Q E s := by
  rcases g with ⟨kvs, k, e, ey, l⟩ | ⟨kvs, k, b, e, ey, eb, l⟩
  · subst ey
    obtain ⟨z, hd, vs, rel, dd⟩ := dk_rd I.hok e
    refine wpAny_in_of (kV_is ry) hd dd.mapOf ?_
    rw [← (rel.val k).isSome_eq, ← l]
    exact h _ (I.tok _)
  · subst ey
    cases (show u = Value.ref b from ry)
    obtain ⟨z, hd, xs, rel, dd⟩ := dt_rd I.hok e
    refine wpAny_in_heap (tupleKind_room_in1 hu) (key_of I.hok eb) hd dd ?_
    have q := (rel.val k).isSome_eq
    rw [Option.isSome_map] at q
    rw [← q, ← l]
    exact h _ (I.tok _)
theorem d_write {h' : Heap} {t' : Nat} {ob : HO} (I : Inv X pins σ H s) (mu : Mut (H a)) (hs : Heap.SameBut a s.heap h') (he : ∃ q, h'.get? a = some q) (new : ObjOk X.prog X.w (upd H a ob) h' a ob) :
    Inv X pins σ (upd H a ob) { s with heap := h', toks := t' } :=
  I.write (x := a) (e := a) mu (.inl rfl) (fun b q hb z => (hs.2 b hb).trans z) he new
theorem dk_new {P : Program} {w : World} {H' : Hp} {h' : Heap} {kvs : List (Key × V)} {vs : List (Key × Value)} (z : kvs.length <= sizeLine) (hd : (a == sysModules) = false) (rel : KV kvs vs) (dd : h'.DictOf (mixKind P w) a vs) :
    ObjOk P w H' h' a (.dK kvs) := ⟨z, hd, vs, rel, dd⟩
theorem d_setItem {H' : Hp} {Q : Unit -> Shared -> Prop} (hu : A.units + 1 < cLine) (I : Inv X pins σ H s) (g : DPut H a y v H') (ry : RelV y u) (rv : RelV v r) (h : ∀ s', Inv X pins σ H' s' -> Q () s') :
    wpAny (model X.prog X.w) A (setItem (.ref a) u r) Q E s := by
  rcases g with ⟨kvs, k, e, ey, l, eH⟩ | ⟨kvs, k, b, e, ey, eb, l, eH⟩
  · subst ey eH
    obtain ⟨z, hd, vs, rel, dd⟩ := dk_of I.hok e
    have hz : vs.length <= sizeLine := by rw [← rel.length]; exact z
    have hl : (putK kvs k v).length <= sizeLine := by have := length_putK kvs k v; omega
    refine wpAny_setItem_pairs (hsz := hz) (kV_is ry) dd fun h' dd' hs => h _ ?_
    have he : ∃ q, h'.get? a = some q := let ⟨q, _, _, hq, _⟩ := dd'; ⟨q, hq⟩
    exact d_write I (by rw [e]; exact True.intro) hs he (dk_new hl hd (rel.put k rv) dd')
  · subst ey eH
    cases (show u = Value.ref b from ry)
    obtain ⟨z, hd, xs, rel, dd⟩ := dt_of I.hok e
    have hz : xs.length <= sizeLine := by rw [← Paired.length rel]; exact z
    have hl : (putK kvs k v).length <= sizeLine := by have := length_putK kvs k v; omega
    refine wpAny_setItem_heap (hsz := hz) (tupleKind_room_in1 hu) (key_of I.hok eb) dd fun h' dd' hs => h _ ?_
    obtain ⟨q, es, ep, hq, h2, h3, h4, _, h5⟩ := dd'
    refine d_write I (by rw [e]; exact True.intro) hs ⟨q, hq⟩ ⟨hl, hd, _, (rel.put k eb rv).keeps fun c ys ec => ?_, q, es, ep, hq, h2, h3, h4, h5⟩
    rw [upd_ne (ne_of ec e (fun z => nomatch z))]
    exact ec
end
section
variable {X : Cx} {pins : List (Addr × Obj)} {σ : St} {H : Hp} {s : Shared} {a : Addr} {kvs : List (Key × V)} {k : Key} {u : Value} {A : Around} {E : Value -> Shared -> Prop}
end
noncomputable def NoSl (i : Expr) : Prop := ∀ ov iv, subscripted i false ov iv = operate [ov, iv] (getItem ov iv)
theorem subD_of {prog : Program} {w : World} {A : Around} {E : Value -> Shared -> Prop} {s : Shared} {env : Env} {value slice : Expr} {pos : Pos} {T id : String} {Q : Value -> Shared -> Prop}
    (hl : typeLookup (.type T) "__getitem__" = pure (some (.builtin id))) (hs : NoSl slice)
    (h : wpAny (model prog w) A (eval value env) (fun o s₁ => wpAny (model prog w) A (eval slice env) (fun i s₂ => s₂.TypeIs o T /\ wpAny (model prog w) A (getItem o i) Q E s₂) E s₁) E s) :
    wpAny (model prog w) A (eval (.Subscript value slice pos) env) Q E s := by
  refine Subscript_ (wpAny_mono h (fun o s₁ h₁ => wpAny_mono h₁ (fun i s₂ h₂ => ?_) fun _ _ x => x) fun _ _ x => x)
  obtain ⟨hT, h₂⟩ := h₂
  unfold subscriptTail
  refine wpAny_bind ?_
  rw [getitemInPython_of_ne hT.not_modules]
  refine wpAny_bind (wpAny_specialOf hT hl ?_)
  have fin : wpAny (model prog w) A (subscripted slice false o i) (fun r s₃ => wpAny (model prog w) A (letTemporaryGo value o r >>= fun _ => pure r) Q E s₃) E s₂ := by
    rw [hs o i]
    exact wpAny_operating (wpAny_mono h₂ (fun r s₃ h₃ => wpAny_bind (wpAny_letTemporaryGo (wpAny_pure h₃))) fun _ _ x => x)
  first
    | exact wpAny_pure (wpAny_bind fin)
    | exact wpAny_bind (wpAny_pure (wpAny_bind fin))
    | exact wpAny_bind fin
theorem dict_typeIs {X : Cx} {pins : List (Addr × Obj)} {σ : St} {H : Hp} {s : Shared} {a : Addr} {y : V} {o : Option V} (I : Inv X pins σ H s) (g : DGet H a y o) : s.TypeIs (.ref a) "dict" := by
  rcases g with ⟨kvs, k, e, _, _⟩ | ⟨kvs, k, b, e, _, _, _⟩
  · obtain ⟨_, _, vs, _, dd⟩ := dk_rd I.hok e
    exact dd.typeIs
  · obtain ⟨_, _, xs, _, dd⟩ := dt_rd I.hok e
    exact dd.typeIs
noncomputable def tDGet (td ty : TE) : TE := fun σ H Q => td σ H fun x H1 => ty σ H1 fun y H2 => ∃ a v, x = .ref a /\ DGet H2 a y (some v) /\ Q v H2
noncomputable def tDIn (ty td : TE) : TE := fun σ H Q => ty σ H fun y H1 => td σ H1 fun x H2 => ∃ a o, x = .ref a /\ DGet H2 a y o /\ Q (.bl o.isSome) H2
noncomputable def sDPut (td ty tv : TE) : TS := fun D σ H => tv σ H fun v H1 => td σ H1 fun x H2 => ty σ H2 fun y H3 => ∃ a H4, x = .ref a /\ DPut H3 a y v H4 /\ D.nx σ H4
section
variable {X : Cx} {o i e value : Expr} {pos pos' tpos : Pos} {td ty tv : TE}
theorem pe_dget (hu : X.A.units + 1 < cLine) (ho : PE X o td) (hi : PE X i ty) (hs : NoSl i) : PE X (.Subscript o i pos) (tDGet td ty) := by
  intro pins s σ H Q I h
  refine subD_of PySem.F.slot_dict_getitem.lookup hs (thn (ho pins s σ H _ I h) fun u s1 ⟨x, H1, I1, rx, q1⟩ => thn (hi pins s1 σ H1 _ I1 q1) fun iv s2 ⟨y, H2, I2, ry, a, v, ex, g, q2⟩ => ?_)
  subst ex
  obtain rfl : u = Value.ref a := rx
  exact ⟨dict_typeIs I2 g, d_getItem hu I2 g ry fun w' s3 I3 rw' => ⟨v, H2, I3, rw', q2⟩⟩
theorem pc_din (hu : X.A.units + 1 < cLine) (hi : PE X i ty) (ho : PE X o td) : PC X .In i o (tDIn ty td) := by
  intro pins s σ H Q I h
  refine thn (hi pins s σ H _ I h) fun iv s1 ⟨y, H1, I1, ry, q1⟩ => thn (ho pins s1 σ H1 _ I1 q1) fun u s2 ⟨x, H2, I2, rx, a, ov, ex, g, q2⟩ => ?_
  subst ex
  obtain rfl : u = Value.ref a := rx
  exact d_in hu I2 g ry fun s3 I3 => ⟨.bl ov.isSome, H2, I3, rfl, q2⟩
theorem ps_dput (hu : X.A.units + 1 < cLine) (ho : PE X o td) (hi : PE X i ty) (hv : PE X value tv) (hs : swapsWith value (some (.Subscript o i pos')) pos.line X.env = pure false) :
    PS X (.Assign [.Subscript o i pos'] value pos) (sDPut td ty tv) := by
  intro pins s σ H D I h
  refine wpAny_Assign_Subscript (thn (hv pins s σ H _ I h) fun r s1 ⟨v, H1, I1, rv, q1⟩ => thn (ho pins s1 σ H1 _ I1 q1) fun u s2 ⟨x, H2, I2, rx, q2⟩ => thn (hi pins s2 σ H2 _ I2 q2) fun iv s3 ⟨y, H3, I3, ry, a, H4, ex, g, q3⟩ => ?_) hs
  subst ex
  obtain rfl : u = Value.ref a := rx
  exact d_setItem hu I3 g ry rv fun s4 I4 => ⟨σ, H4, I4, q3⟩
end
theorem dt_empty {P : Program} {w : World} {H : Hp} (h : Heap) (hb : sysModules < h.objs.size) : ObjOk P w H (h.push { cls := .type "dict", data := .dict #[] }) h.objs.size (.dT []) :=
  ⟨Nat.zero_le _, beq_eq_false_iff_ne.mpr (Ne.symm (Nat.ne_of_lt hb)), [], .nil, _, #[], 0, Heap.get?_push_size _ rfl, ⟨rfl, rfl, rfl⟩, rfl, rfl, List.nodup_nil⟩
noncomputable def tDNewT : TE := fun _ H Q => ∀ p, H p = none -> Q (.ref p) (upd H p (.dT []))
section
variable {X : Cx} {pos : Pos}
theorem pe_dnewT : PE X (.Dict [] [] pos) tDNewT := fun pins s σ H Q I h =>
  wpAny_Dict_empty ⟨.ref s.heap.objs.size, _, I.laid (a := s.heap.objs.size) (o := .dT []) (t' := s.toks) (fun _ _ q => Heap.get?_push_of_some _ q) (Nat.le_refl _) (dt_empty s.heap I.big), rfl, h _ (I.hok.fresh (Nat.le_refl _))⟩
end
structure M1 (X : Cx) (o : Expr) (m : Str) (apos : Pos) (e : Expr) (cpos : Pos) : Prop where
  base : attributeBase o m X.env (eval o X.env) = eval o X.env
  few : ((backTo cpos (starEach [e] X.env)).all (fun x => !x.1) && (backToKw cpos (keywordEach [] X.env)).all (fun x => x.1.isSome)
    && decide (([e] : List Expr).length + ([] : List Keyword).length + (if ([] : List Keyword).isEmpty then 0 else 1) < 30)) = true
  line : (apos.endLine == cpos.line) = true
  trees : backTo cpos (starEach [e] X.env) = [(false, eval e X.env)]
structure M2 (X : Cx) (o : Expr) (m : Str) (apos : Pos) (e f : Expr) (cpos : Pos) : Prop where
  base : attributeBase o m X.env (eval o X.env) = eval o X.env
  few : ((backTo cpos (starEach [e, f] X.env)).all (fun x => !x.1) && (backToKw cpos (keywordEach [] X.env)).all (fun x => x.1.isSome)
    && decide (([e, f] : List Expr).length + ([] : List Keyword).length + (if ([] : List Keyword).isEmpty then 0 else 1) < 30)) = true
  line : (apos.endLine == cpos.line) = true
  trees : backTo cpos (starEach [e, f] X.env) = [(false, eval e X.env), (false, eval f X.env)]
section
variable {X : Cx} {pins : List (Addr × Obj)} {σ : St} {H : Hp} {s : Shared} {a : Addr} {y d : V} {u r : Value} {o : Option V} {A : Around} {E : Value -> Shared -> Prop}
end
section
variable {X : Cx} {o e f : Expr} {apos cpos : Pos} {td ty tx : TE}
end
section
variable {X : Cx} {pins : List (Addr × Obj)} {σ : St} {H : Hp} {s : Shared} {a : Addr} {kvs : List (Key × V)} {A : Around} {E : Value -> Shared -> Prop}
end
section
variable {X : Cx} {pins : List (Addr × Obj)} {σ : St} {H : Hp} {s : Shared} {a : Addr} {y : V} {u : Value} {A : Around} {E : Value -> Shared -> Prop}
end
end L2
namespace P2
open PySem L2
section
variable {κ : Type} [DecidableEq κ] {K : W.Frag} {al : Addr -> Prop} {lo : Lo} {H : Hp}
noncomputable def valZ (kvs : List (κ × Z)) (k : κ) : Option Z := (kvs.find? fun kv => decide (kv.1 = k)).map (·.2)
noncomputable def putZ (kvs : List (κ × Z)) (k : κ) (v : Z) : List (κ × Z) :=
  if (kvs.any fun kv => decide (kv.1 = k)) = true then kvs.map fun kv => if kv.1 = k then (kv.1, v) else kv else kvs ++ [(k, v)]
theorem RepK.val {us : List (κ × V)} {zs : List (κ × Z)} (r : RepK K al lo H us zs) {k : κ} {z : Z} (h : valZ zs k = some z) : ∃ v, valV us k = some v /\ RepZ K al lo H v z := by
  induction r with
  | nil => cases h
  | @cons k' v z' vs zs a _ ih =>
    unfold valZ at h
    unfold valV
    rw [List.find?_cons] at h ⊢
    by_cases e : k' = k
    · simp only [e, decide_true] at h ⊢
      cases h
      exact ⟨v, rfl, a⟩
    · simp only [e, decide_false] at h ⊢
      exact ih h
theorem RepK.none {us : List (κ × V)} {zs : List (κ × Z)} (r : RepK K al lo H us zs) {k : κ} (h : valZ zs k = Option.none) : valV us k = Option.none := by
  induction r with
  | nil => rfl
  | @cons k' v z' vs zs a _ ih =>
    unfold valZ at h
    unfold valV
    rw [List.find?_cons] at h ⊢
    by_cases e : k' = k
    · simp only [e, decide_true] at h
      cases h
    · simp only [e, decide_false] at h ⊢
      exact ih h
theorem RepK.length {us : List (κ × V)} {zs : List (κ × Z)} (r : RepK K al lo H us zs) : us.length = zs.length := by
  induction r with
  | nil => rfl
  | cons _ _ ih => rw [List.length_cons, List.length_cons, ih]
theorem RepK.any {us : List (κ × V)} {zs : List (κ × Z)} (r : RepK K al lo H us zs) (k : κ) : (us.any fun kv => decide (kv.1 = k)) = zs.any fun kv => decide (kv.1 = k) := by
  induction r with
  | nil => rfl
  | cons _ _ ih => rw [List.any_cons, List.any_cons, ih]
theorem RepK.put {us : List (κ × V)} {zs : List (κ × Z)} (r : RepK K al lo H us zs) (k : κ) {v : V} {z : Z} (q : RepZ K al lo H v z) : RepK K al lo H (putK us k v) (putZ zs k z) := by
  unfold putK putZ
  rw [r.any k]
  split
  · rename_i hh
    clear hh
    induction r with
    | nil => exact .nil
    | @cons k' v' z' vs zs a _ ih =>
      rw [List.map_cons, List.map_cons]
      by_cases e : k' = k
      · simp only [e, if_true]
        exact .cons q ih
      · simp only [e, if_false]
        exact .cons a ih
  · rename_i hh
    clear hh
    induction r with
    | nil => exact .cons q .nil
    | cons a _ ih => exact .cons a ih
end
noncomputable def keyZ : D -> Option Key
  | .int i => some (.inl i)
  | .str x => some (.inr x)
  | _ => none
theorem keyZ_rep {K : W.Frag} {al : Addr -> Prop} {H : Hp} {v : V} {d : D} {k : Key} (r : Rep K al H v d) (h : keyZ d = some k) : v = kV k := by
  cases r with
  | int i => cases h; rfl
  | str i => cases h; rfl
  | _ => cases h
section
variable {X : Cx} {E : XK} {b : Nat} {o k e : Expr} {fo f : ZEv -> Sto -> RX Z} {fk : Ev -> R D} {pos : Pos}
theorem nt_dT {l : List (List Key × V)} : NT (.dT l) := fun _ h => nomatch h
end
section
variable {X : Cx} {E : XK} {b : Nat} {e : Expr} {f : ZEv -> Sto -> RX Z} {fs : ZEv -> Sto -> RX (List Z)} {pos : Pos} {ks : List Key} {keys : List (Option Expr)} {es : List Expr}
end
end P2
namespace P2
open PySem L2
section
variable {P : Program} {w : World} {K : W.Frag} {mg : Str -> Option Value} {base : Heap} {f : Addr} {fd : FuncData} {x : Str} {ps : List Str}
end
section
variable {X : Cx} {E : XK}
end
end P2
namespace P2
open PySem L2
noncomputable def putFZ (f : Str) (v : Z) : List (Str × Z) -> List (Str × Z)
  | [] => [(f, v)]
  | (g, x) :: r => if g = f then (g, v) :: r else (g, x) :: putFZ f v r
section
variable {K : W.Frag} {al : Addr -> Prop} {lo : Lo} {H : Hp}
theorem RepK.look {us : List (Str × V)} {zs : List (Str × Z)} (r : RepK K al lo H us zs) {f : Str} {z : Z} (h : zs.lookup f = some z) : ∃ v, us.lookup f = some v /\ RepZ K al lo H v z := by
  induction r with
  | nil => cases h
  | @cons k v z' vs zs' q _ ih =>
    rw [List.lookup_cons] at h ⊢
    cases e : f == k with
    | true => rw [e] at h; cases h; exact ⟨v, rfl, q⟩
    | false => rw [e] at h; exact ih h
theorem RepK.nolook {us : List (Str × V)} {zs : List (Str × Z)} (r : RepK K al lo H us zs) {f : Str} (h : zs.lookup f = Option.none) : us.lookup f = Option.none := by
  induction r with
  | nil => rfl
  | @cons k v z' vs zs' q _ ih =>
    rw [List.lookup_cons] at h ⊢
    cases e : f == k with
    | true => rw [e] at h; cases h
    | false => rw [e] at h; exact ih h
theorem RepK.putF {us : List (Str × V)} {zs : List (Str × Z)} (r : RepK K al lo H us zs) (f : Str) {v : V} {z : Z} (q : RepZ K al lo H v z) : RepK K al lo H (L2.putF f v us) (putFZ f z zs) := by
  induction r with
  | nil => exact .cons q .nil
  | @cons k v' z' vs zs' q' r' ih =>
    unfold L2.putF putFZ
    by_cases e : k = f
    · rw [if_pos e, if_pos e]; exact .cons q r'
    · rw [if_neg e, if_neg e]; exact .cons q' ih
theorem nt_ins {C dx : Addr} {us : List (Str × V)} : NT (.ins C dx us) := fun _ h => nomatch h
end
noncomputable def zFld (C : Addr) (fo : ZEv -> Sto -> RX Z) (f : Str) : ZEv -> Sto -> RX Z := fun ρ S => (fo ρ S).bind fun z S1 => match z with
  | .loc n => (match S1[n]? with
    | some (.ob C' fs) => if C' = C then (match fs.lookup f with
      | some z => .ok z S1
      | none => .bad) else .bad
    | _ => .bad)
  | _ => .bad
noncomputable def yFld (C : Addr) (fo : ZEv -> Sto -> RX Z) (f : Str) (fv : ZEv -> Sto -> RX Z) : ZEv -> Sto -> RTZ := fun ρ S => toZ (fv ρ S) fun v S0 => toZ (fo ρ S0) fun z S1 => match z with
  | .loc n => (match S1[n]? with
    | some (.ob C' fs) => if C' = C /\ fs.length < 1000 then .nx ρ (S1.set n (.ob C' (putFZ f v fs))) else .bad
    | _ => .bad)
  | _ => .bad
noncomputable def zMeth (C : Addr) (m : Str) (F : List Z -> Sto -> RX Z) (dz : List D) (fo : ZEv -> Sto -> RX Z) (fs : ZEv -> Sto -> RX (List Z)) : ZEv -> Sto -> RX Z := fun ρ S => (fo ρ S).bind fun z S1 => match z with
  | .loc n => (match S1[n]? with
    | some (.ob C' us) => if C' = C /\ us.lookup m = none then (fs ρ S1).bind fun zs S2 => F (.loc n :: (zs ++ dz.map .d)) S2 else .bad
    | _ => .bad)
  | _ => .bad
noncomputable def zMake (C : Addr) (F : List Z -> Sto -> RX Z) (fs : ZEv -> Sto -> RX (List Z)) : ZEv -> Sto -> RX Z := fun ρ S => (fs ρ S).bind fun zs S1 => match F (.loc S1.length :: zs) (S1 ++ [.ob C []]) with
  | .ok (.d .non) S2 => .ok (.loc S1.length) S2
  | .ex c ns ds S2 => .ex c ns ds S2
  | _ => .bad
noncomputable def HasM (P : Program) (w : World) (K : W.Frag) (mg : Str -> Option Value) (base : Heap) (k : Nat) (C : Addr) (m : Str) (ps : List Str) (dz : List D) (sp : Sp) : Prop :=
  ∃ (f : Addr) (fd : FuncData) (ds : List Value) (dvs : List V), FnOk P w K mg base (CXx P w) k f fd ps sp /\ Binds K fd ps ds /\ Vals dvs ds /\ (∀ al H, Reps K al H dvs dz) /\ Meth K C m f
theorem HasM.up {P : Program} {w : World} {K : W.Frag} {mg : Str -> Option Value} {base : Heap} {j k : Nat} {C : Addr} {m : Str} {ps : List Str} {dz : List D} {sp : Sp} (G : HasM P w K mg base j C m ps dz sp) (h : j <= k) : HasM P w K mg base k C m ps dz sp :=
  let ⟨f, fd, ds, dvs, fo, r⟩ := G; ⟨f, fd, ds, dvs, fo.mono h, r⟩
noncomputable def HasI (P : Program) (w : World) (K : W.Frag) (mg : Str -> Option Value) (base : Heap) (k : Nat) (C : Addr) (ps : List Str) (sp : Sp) : Prop :=
  ∃ (f : Addr) (fd : FuncData), FnOk P w K mg base (CXx P w) k f fd ps sp /\ Binds K fd ps [] /\ Mk K C f
theorem HasI.up {P : Program} {w : World} {K : W.Frag} {mg : Str -> Option Value} {base : Heap} {j k : Nat} {C : Addr} {ps : List Str} {sp : Sp} (G : HasI P w K mg base j C ps sp) (h : j <= k) : HasI P w K mg base k C ps sp :=
  let ⟨f, fd, fo, r⟩ := G; ⟨f, fd, fo.mono h, r⟩
section
variable {X : Cx} {E : XK} {b : Nat} {o e value : Expr} {es : List Expr} {pos p apos pos' tpos : Pos} {fo fv : ZEv -> Sto -> RX Z} {fs : ZEv -> Sto -> RX (List Z)} {f m x : Str} {C : Addr} {k n : Nat} {ps : List Str} {dz : List D} {F : List Z -> Sto -> RX Z}
theorem ze_fld (c : Cls X.K C) (na : NoAttr X.K C f) (ho : ZE X E o fo) (hb : attributeBase o f X.env (eval o X.env) = eval o X.env := by rfl) : ZE X E (.Attribute o f pos) (zFld C fo f) := by
  obtain ⟨to, po, ro⟩ := ho
  refine ⟨_, pe_fld po hb, fun B al lo H σ ρ S Q s h => ro _ _ _ _ _ _ _ _ s (AftZ.mono (AftZ.split h) fun z al1 lo1 H1 S1 s1 x1 y1 h1 v rv => ?_)⟩
  split at h1
  · rename_i n
    split at h1
    · rename_i C' us q
      split at h1
      · rename_i hc
        subst hc
        split at h1
        · rename_i z0 q0
          obtain ⟨a, hn, rfl⟩ := rv
          obtain ⟨dx, vs, g1, g2⟩ := s1.cell hn q
          obtain ⟨w, e1, e2⟩ := g2.look q0
          exact ⟨a, _, dx, vs, w, rfl, g1, c, na, e1, h1 al1 lo1 H1 s1 .refl .refl w e2⟩
        · exact h1.elim
      · exact h1.elim
    · exact h1.elim
  · exact h1.elim
theorem zs_fld (c : Cls X.K C) (na : NoAttr X.K C f) (ho : ZE X E o fo) (hv : ZE X E value fv) (hs : swapsWith value (some (.Attribute o f pos')) pos.line X.env = pure false := by rfl) : ZS X E b (.Assign [.Attribute o f pos'] value pos) (yFld C fo f fv) := by
  obtain ⟨to, po, ro⟩ := ho
  obtain ⟨tv, pv, rv⟩ := hv
  refine ⟨_, ps_fld po pv hs, fun B hb al lo H σ ρ S D s h => rv _ _ _ _ _ _ _ _ s (AftZ.mono (okZ.ofX h) fun y al0 lo0 H0 S0 s0 x0 y0 h0 v0 r0 => ro _ _ _ _ _ _ _ _ s0 (AftZ.mono (okZ.ofX h0) fun z al1 lo1 H1 S1 s1 x1 y1 h1 v1 r1 => ?_))⟩
  split at h1
  · rename_i n
    split at h1
    · rename_i C' us q
      split at h1
      · rename_i hc
        obtain ⟨hc, hl⟩ := hc
        subst hc
        obtain ⟨a, hn, rfl⟩ := r1
        obtain ⟨dx, vs, g1, g2⟩ := s1.cell hn q
        have r0' : RepZ X.K al1 lo1 H1 v0 y := r0.mv x1 y1
        have x2 : Xt al1 H1 al1 (upd H1 a (.ins C' dx (L2.putF f v0 vs))) := fun b o _ hb eb => ⟨hb, by rw [upd_ne fun z => s1.st.na n a hn (by rw [← z]; exact hb)]; exact eb⟩
        obtain ⟨s4, x4⟩ := s1.write hn (o := .ins C' dx (L2.putF f v0 vs)) (c := .ob C' (putFZ f y us)) nt_ins (fun q w => by unfold CodeO at w; cases w) ⟨_, _, upd_same, RepK.mv x2 .refl (g2.putF f r0')⟩ nofun
        exact ⟨a, _, dx, vs, rfl, g1, c, na, by rw [g2.length]; exact hl, h1 _ _ _ _ x4 s4⟩
      · exact h1.elim
    · exact h1.elim
  · exact h1.elim
theorem reps_app {K : W.Frag} {al : Addr -> Prop} {lo : Lo} {H : Hp} {vs ws : List V} {zs : List Z} {ds : List D} (r : RepZs K al lo H vs zs) (q : Reps K al H ws ds) : RepZs K al lo H (vs ++ ws) (zs ++ ds.map .d) := r.append (.ofD q)
theorem meth_go {B : Z0} {al : Addr -> Prop} {lo : Lo} {H : Hp} {σ : St} {ρ : ZEv} {S : Sto} {Q : VK} {zs : List Z} {vs : List V} (s : RZ X.K B al lo H σ ρ S) (rv : RepZs X.K al lo H vs zs) (hl : vs.length = n)
    (h : AftZ X.K B E al lo H σ ρ (F zs S) (fun z al' lo' H' _ => ∀ v, RepZ X.K al' lo' H' v z -> Q v H')) : spZ n X.K F vs H Q E := by
  refine ⟨hl, s.tt, al, lo, zs, S, s.fresh, s.st, rv, ?_⟩
  cases q2 : F zs S with
  | bad => rw [q2] at h; exact h.elim
  | ex c ns ds S2 => rw [q2] at h; exact fun al2 lo2 H2 dx e2 xr => h al2 lo2 H2 dx (s.toEZ.trans e2) xr
  | ok z S2 => rw [q2] at h; exact fun al2 lo2 H2 v e2 rv2 => h al2 lo2 H2 (s.after e2) e2.xt e2.lx v rv2
theorem ze_meth {pl : Sem Bool} (G : HasM X.prog X.w X.K X.mg X.base k C m ps dz (spZ n X.K F)) (c : Cls X.K C) (hr : Room k X.A) (hx : Passes (CXx X.prog X.w) X E) (ho : ZE X E o fo) (ha : ZA X E (e :: es) fs) (hn : (e :: es).length + 1 + dz.length = n)
    (hst : starEach (e :: es) X.env = (false, eval e X.env) :: starEach es X.env := by rfl) (hpl : (backTo pos (starEach es X.env)).any (·.1) = false := by rfl)
    (ht : eval (.Call (.Attribute o m apos) (e :: es) [] pos) X.env = (do
      let ov ← eval o X.env
      standAt apos.atName
      let (f, first) ← holding [ov] (getMethod ov m pl)
      callWith pos f first (backTo pos (starEach (e :: es) X.env)) (backToKw pos (keywordEach [] X.env))) := by rfl) :
    ZE X E (.Call (.Attribute o m apos) (e :: es) [] pos) (zMeth C m F dz fo fs) := by
  obtain ⟨to, po, ro⟩ := ho
  obtain ⟨ta, pa, ra, lb⟩ := ha
  obtain ⟨f, fd, ds, dvs, fo', bi, va, rd, me⟩ := G
  refine ⟨_, pe_meth po c me fo' hr bi va hx pa hst hpl ht, fun B al lo H σ ρ S Q s h => ro _ _ _ _ _ _ _ _ s (AftZ.mono (AftZ.split h) fun z al1 lo1 H1 S1 s1 x1 y1 h1 v rv => ?_)⟩
  split at h1
  · rename_i j
    split at h1
    · rename_i C' us q
      split at h1
      · rename_i hc
        obtain ⟨hc, hl⟩ := hc
        subst hc
        obtain ⟨a, hn1, rfl⟩ := rv
        obtain ⟨dx, vs, g1, g2⟩ := s1.cell hn1 q
        refine ⟨a, dx, vs, rfl, g1, g2.nolook hl, ra _ _ _ _ _ _ _ _ s1 ?_⟩
        cases q2 : fs ρ S1 with
        | bad => rw [q2] at h1; exact h1.elim
        | ex c ns ds S2 => rw [q2] at h1; exact h1
        | ok zs S2 =>
          rw [q2] at h1
          have ll := lb _ _ _ _ q2
          intro al2 lo2 H2 s2 x2 y2 ws rw2
          refine meth_go s2 (zs := .loc j :: (zs ++ dz.map .d)) (.cons ⟨a, y2 _ _ hn1, rfl⟩ (reps_app rw2 (rd al2 H2))) ?_ (AftZ.up h1 x2 y2)
          have := (rd al2 H2).length
          rw [List.length_cons, List.length_append, rw2.length, this, ll, ← hn]
          omega
      · exact h1.elim
    · exact h1.elim
  · exact h1.elim
theorem ze_meth0 {pl : Sem Bool} (G : HasM X.prog X.w X.K X.mg X.base k C m ps dz (spZ n X.K F)) (c : Cls X.K C) (hr : Room k X.A) (hx : Passes (CXx X.prog X.w) X E) (ho : ZE X E o fo) (hn : 1 + dz.length = n)
    (ht : eval (.Call (.Attribute o m apos) [] [] pos) X.env = (do
      let ov ← eval o X.env
      standAt apos.atName
      let (f, first) ← holding [ov] (getMethod ov m pl)
      callWith pos f first (backTo pos (starEach [] X.env)) (backToKw pos (keywordEach [] X.env))) := by rfl) :
    ZE X E (.Call (.Attribute o m apos) [] [] pos) (zMeth C m F dz fo zNil) := by
  obtain ⟨to, po, ro⟩ := ho
  obtain ⟨f, fd, ds, dvs, fo', bi, va, rd, me⟩ := G
  refine ⟨_, pe_meth0 po c me fo' hr bi va hx ht, fun B al lo H σ ρ S Q s h => ro _ _ _ _ _ _ _ _ s (AftZ.mono (AftZ.split h) fun z al1 lo1 H1 S1 s1 x1 y1 h1 v rv => ?_)⟩
  split at h1
  · rename_i j
    split at h1
    · rename_i C' us q
      split at h1
      · rename_i hc
        obtain ⟨hc, hl⟩ := hc
        subst hc
        obtain ⟨a, hn1, rfl⟩ := rv
        obtain ⟨dx, vs, g1, g2⟩ := s1.cell hn1 q
        refine ⟨a, dx, vs, rfl, g1, g2.nolook hl, ?_⟩
        have h1 : AftZ X.K B E al1 lo1 H1 σ ρ (F (.loc j :: ([] ++ dz.map .d)) S1) (fun z al' lo' H' _ => ∀ v, RepZ X.K al' lo' H' v z -> Q v H') := h1
        refine meth_go s1 (zs := .loc j :: ([] ++ dz.map .d)) (.cons ⟨a, hn1, rfl⟩ (reps_app .nil (rd al1 H1))) ?_ h1
        have := (rd al1 H1).length
        rw [List.length_cons, List.length_append, this, ← hn]
        simp; omega
      · exact h1.elim
    · exact h1.elim
  · exact h1.elim
theorem make_go {B : Z0} {al : Addr -> Prop} {lo : Lo} {H : Hp} {σ : St} {ρ : ZEv} {S : Sto} {Q : VK} {zs : List Z} {vs : List V} (s : RZ X.K B al lo H σ ρ S) (rv : RepZs X.K al lo H vs zs) (hl : vs.length + 1 = n)
    (h : AftZ X.K B E al lo H σ ρ (match F (.loc S.length :: zs) (S ++ [.ob C []]) with
      | .ok (.d .non) S2 => RX.ok (Z.loc S.length) S2
      | .ex c ns ds S2 => .ex c ns ds S2
      | _ => .bad) (fun z al' lo' H' _ => ∀ v, RepZ X.K al' lo' H' v z -> Q v H')) {y dx : Addr} (hy : H y = none) (hd : H dx = none) (ne : dx ≠ y) : spZ n X.K F (.ref y :: (vs ++ [])) (upd (upd H dx (.own y)) y (.ins C dx [])) (fun v H2 => v = .non /\ Q (.ref y) H2) E := by
  have s1 := s.grow (same_upd (K := X.K) (o := .own y) hd)
  have hy1 : (upd H dx (.own y)) y = none := by rw [upd_ne (Ne.symm ne)]; exact hy
  have hc : CellAt X.K (fun b => al b /\ b ≠ y) (loNew lo S.length y) (upd (upd H dx (.own y)) y (.ins C dx [])) y (.ob C []) := ⟨dx, [], upd_same, .nil⟩
  have s2 := s1.new hy1 nt_ins hc nofun
  have x2 : Xt al H (fun b => al b /\ b ≠ y) (upd (upd H dx (.own y)) y (.ins C dx [])) := (Xt.of (same_upd (K := X.K) (o := .own y) hd)).trans (xt_new hy1)
  have y2 := loNew_x s1.st y
  have hn : loNew lo S.length y S.length = some y := by unfold loNew; rw [if_pos rfl]
  refine ⟨by rw [List.append_nil, List.length_cons]; exact hl, s2.tt, _, _, .loc S.length :: zs, S ++ [.ob C []], s2.fresh, s2.st, .cons ⟨y, hn, rfl⟩ (by rw [List.append_nil]; exact rv.mv x2 y2), ?_⟩
  cases q2 : F (.loc S.length :: zs) (S ++ [.ob C []]) with
  | bad => rw [q2] at h; exact h.elim
  | ex c ns ds S2 => rw [q2] at h; exact fun al3 lo3 H3 dx e3 xr => h al3 lo3 H3 dx (s2.toEZ.trans e3) xr
  | ok z S2 =>
    rw [q2] at h
    cases z with
    | loc j => exact h.elim
    | tk ks => exact h.elim
    | d d =>
      cases d with
      | non =>
        intro al3 lo3 H3 v e3 rv3
        have ev : v = .non := by cases rv3; rfl
        exact ⟨ev, h al3 lo3 H3 (s2.after e3) (x2.trans e3.xt) (y2.trans e3.lx) _ ⟨y, e3.lx _ _ hn, rfl⟩⟩
      | _ => exact h.elim
theorem ze_make0 (G : HasI X.prog X.w X.K X.mg X.base k C ps (spZ n X.K F)) (hr : Room (k + 1) X.A) (hg : Gl X x) (hm : X.mg x = some (.ref C)) (hx : Passes (CXx X.prog X.w) X E) (hn : 1 = n)
    (hdb : (x == ("__debug__" : Str)) = false := by decide) : ZE X E (.Call (.Name x p) [] [] pos) (zMake C F zNil) := by
  obtain ⟨f, fd, fo', bi, mk⟩ := G
  refine ⟨_, pe_make0 mk fo' hr hg hm bi .nil hx hdb, fun B al lo H σ ρ S Q s h => ?_⟩
  intro y dx hy hd ne
  exact make_go (vs := []) (zs := []) s .nil hn h hy hd ne
end
structure FunD (K : W.Frag) (x qual : Str) (st : Stmt) (dV : Value) (f : Addr) (fd : FuncData) : Prop where
  ex : ∃ (oc : Value) (od : Option Addr) (kV doc pm : Value) (an : Option Addr) (cdv ct : Value) (osl : Array (Option Value)),
    fd = W.fnOf x qual (defArgs st) (defBody st) (defScope st) dV kV doc pm an cdv ct /\ K.lookup f = some ⟨oc, od, .func fd, osl⟩ /\ W.codeIn K cdv qual = true
  kp : W.keepIn K (.ref f) = true
section
variable {P : Program} {w : World} {K : W.Frag} {mg : Str -> Option Value} {base : Heap}
theorem fund_mk {x qual : Str} {st : Stmt} {f : Addr} {oc : Value} {od an : Option Addr} {osl : Array (Option Value)} {dV kV doc pm cdv ct : Value} (l : K.lookup f = some ⟨oc, od, .func (W.fnOf x qual (defArgs st) (defBody st) (defScope st) dV kV doc pm an cdv ct), osl⟩)
    (c : W.codeIn K cdv qual = true) (k : W.keepIn K (.ref f) = true) : FunD K x qual st dV f (W.fnOf x qual (defArgs st) (defBody st) (defScope st) dV kV doc pm an cdv ct) := ⟨⟨oc, od, kV, doc, pm, an, cdv, ct, osl, rfl, l, c⟩, k⟩
theorem fn_denM {x qual : Str} {st : Stmt} {dV : Value} {f : Addr} {fd : FuncData} {N ps : List Str} {k : Nat} {g : Nat -> ZEv -> Sto -> RTZ} (F : FunD K x qual st dV f fd) (S : FnScope N ps (defScope st))
    (body : ∀ (b : Nat) (cdv : Value) (A : Around) (outer : List Env) (s : Shared) (H : Hp) (E : XK), Room k (cxOf (CXx P w) P w K mg base N qual (defScope st) f cdv A outer s H E).A -> ZSs (cxOf (CXx P w) P w K mg base N qual (defScope st) f cdv A outer s H E) E b (defBody st) (g b)) :
    FnOk P w K mg base (CXx P w) (k + 1) f fd ps (spZ ps.length K fun zs S => finZ (g S.length (startZ N.length zs) S)) := by
  obtain ⟨oc, od, kV, doc, pm, an, cdv, ct, osl, rfl, lk, hcd⟩ := F.ex
  refine fn_of lk hcd S (fun vs H Q E h => h.1) fun A outer s H vs Q E hr h => ?_
  obtain ⟨hl, tt, al, lo, zs, S0, fr, st, rv, h⟩ := h
  obtain ⟨t, p, r⟩ := body S0.length cdv A outer s H E hr
  dsimp only at h
  refine ⟨t, p, r ⟨H, al, lo, S0.length⟩ rfl al lo H (L2.start N vs) (startZ N.length zs) S0 _ (rz_start tt fr st rv) ?_⟩
  cases q : g S0.length (startZ N.length zs) S0 with
  | nx ρ S1 => rw [q] at h; exact fun al' lo' H' σ' _ s' => h al' lo' H' .non s'.toEZ .non
  | rt z S1 => rw [q] at h; exact h
  | ex c ns es S1 => rw [q] at h; exact h
  | bk ρ S1 => rw [q] at h; exact h.elim
  | ct ρ S1 => rw [q] at h; exact h.elim
  | bad => rw [q] at h; exact h.elim
theorem FunD.binds {x qual : Str} {st : Stmt} {dV : Value} {f : Addr} {fd : FuncData} {ps : List Str} (F : FunD K x qual st dV f fd)
    (h : ∀ (kV doc pm : Value) (an : Option Addr) (cdv ct : Value) (us : List Value), us.length = ps.length -> bindArgs (W.fnOf x qual (defArgs st) (defBody st) (defScope st) dV kV doc pm an cdv ct) ⟨us, []⟩ = pure (ps.zip us)) : Binds K fd ps [] := by
  obtain ⟨oc, od, kV, doc, pm, an, cdv, ct, osl, rfl, lk, hcd⟩ := F.ex
  exact .all (h kV doc pm an cdv ct)
end
end P2
namespace P2
open PySem L2
section
variable {X : Cx} {E : XK}
end
end P2
namespace P2
open PySem L2
noncomputable def keysZ : List D -> Option (List Key)
  | [] => some []
  | d :: r => (keyZ d).bind fun k => (keysZ r).map (k :: ·)
theorem keysZ_rep {K : W.Frag} {al : Addr -> Prop} {H : Hp} : ∀ {vs : List V} {ds : List D} {ks : List Key}, Reps K al H vs ds -> keysZ ds = some ks -> vs = ks.map kV
  | _, _, _, .nil, h => by cases h; rfl
  | _, _, _, .cons r q, h => by
    obtain ⟨k, h1, h2⟩ := Option.bind_eq_some_iff.mp h
    obtain ⟨ks, h3, rfl⟩ := Option.map_eq_some_iff.mp h2
    rw [keyZ_rep r h1, keysZ_rep q h3]
    rfl
noncomputable def zKey (fs : ZEv -> Sto -> RX (List Z)) : ZEv -> Sto -> RX Z := fun ρ S => (fs ρ S).bind fun zs S1 => match (asDs zs).bind keysZ with
  | some ks => if ks.length <= sizeLine then .ok (.tk ks) S1 else .bad
  | none => .bad
noncomputable def zGetT (fo fk : ZEv -> Sto -> RX Z) : ZEv -> Sto -> RX Z := fun ρ S => (fo ρ S).bind fun z S1 => (fk ρ S1).bind fun y S2 => match z, y with
  | .loc n, .tk k => (match S2[n]? with
    | some (.dt kvs) => (match valZ kvs k with
      | some z => .ok z S2
      | none => .bad)
    | _ => .bad)
  | _, _ => .bad
noncomputable def zInT (fk fo : ZEv -> Sto -> RX Z) : ZEv -> Sto -> RX Bool := fun ρ S => (fk ρ S).bind fun y S1 => (fo ρ S1).bind fun z S2 => match z, y with
  | .loc n, .tk k => (match S2[n]? with
    | some (.dt kvs) => .ok (valZ kvs k).isSome S2
    | _ => .bad)
  | _, _ => .bad
noncomputable def yDputT (fo fk f : ZEv -> Sto -> RX Z) : ZEv -> Sto -> RTZ := fun ρ S => toZ (f ρ S) fun v S0 => toZ (fo ρ S0) fun z S1 => toZ (fk ρ S1) fun y S2 => match z, y with
  | .loc n, .tk k => (match S2[n]? with
    | some (.dt kvs) => if kvs.length < sizeLine then .nx ρ (S2.set n (.dt (putZ kvs k v))) else .bad
    | _ => .bad)
  | _, _ => .bad
noncomputable def zNewT : ZEv -> Sto -> RX Z := fun _ S => .ok (.loc S.length) (S ++ [.dt []])
section
variable {X : Cx} {E : XK} {b : Nat} {o k e : Expr} {es : List Expr} {fo fk f : ZEv -> Sto -> RX Z} {fs : ZEv -> Sto -> RX (List Z)} {pos : Pos}
theorem ze_key {x1} (ha : ZA X E es fs) : ZE X E (.Tuple es x1 pos) (zKey fs) := by
  obtain ⟨ta, pa, ra, _⟩ := ha
  refine ⟨_, pe_tup pa, fun B al lo H σ ρ S Q s h => ra _ _ _ _ _ _ _ _ s (AftZ.mono (AftZ.split h) fun x al1 lo1 H1 S1 s1 x1 y1 h1 v rv => ?_)⟩
  split at h1
  · rename_i ks ek
    obtain ⟨ds, e1, e2⟩ := Option.bind_eq_some_iff.mp ek
    have := asDs_map e1
    subst this
    have rv' := rv.toD
    have ev := keysZ_rep rv' e2
    subst ev
    split at h1
    · rename_i hl
      refine ⟨by rw [List.length_map]; exact hl, fun p hp => ?_⟩
      have s2 := s1.grow (same_upd (K := X.K) (o := .tup (ks.map kV)) hp)
      exact h1 al1 lo1 _ s2 (Xt.of (same_upd (K := X.K) (o := .tup (ks.map kV)) hp)) .refl (.ref p) ⟨p, s1.fresh p hp, upd_same, rfl⟩
    · exact h1.elim
  · exact h1.elim
theorem ze_dgetT (hu : X.A.units + 64 < cLine) (ho : ZE X E o fo) (hk : ZE X E k fk) (hs : NoSl k := by exact fun _ _ => rfl) : ZE X E (.Subscript o k pos) (zGetT fo fk) := by
  obtain ⟨to, po, ro⟩ := ho
  obtain ⟨tk, pk, rk⟩ := hk
  refine ⟨_, pe_dget (by omega) po pk hs, fun B al lo H σ ρ S Q s h => ro _ _ _ _ _ _ _ _ s (AftZ.mono (AftZ.split h) fun z al1 lo1 H1 S1 s1 x1 y1 h1 v rv => rk _ _ _ _ _ _ _ _ s1 (AftZ.mono (AftZ.split h1) fun y al2 lo2 H2 S2 s2 x2 y2 h2 u ru => ?_))⟩
  split at h2
  · rename_i n k0
    split at h2
    · rename_i kvs q
      split at h2
      · rename_i z0 q0
        obtain ⟨a, hn, rfl⟩ := rv
        obtain ⟨c, ha, hc, rfl⟩ := ru
        obtain ⟨us, g1, g2⟩ := s2.cell (y2 _ _ hn) q
        obtain ⟨w, e1, e2⟩ := g2.val q0
        refine ⟨a, w, rfl, ?_, h2 al2 lo2 H2 s2 .refl .refl w e2⟩
        rw [← e1]
        exact .t g1 hc
      · exact h2.elim
    · exact h2.elim
  · exact h2.elim
theorem ze_dnewT : ZE X E (.Dict [] [] pos) zNewT := by
  refine ⟨_, pe_dnewT, fun B al lo H σ ρ S Q s h => fun p hp => ?_⟩
  have hc : CellAt X.K (fun b => al b /\ b ≠ p) (loNew lo S.length p) (upd H p (.dT [])) p (.dt []) := ⟨[], upd_same, .nil⟩
  have s1 := s.new hp nt_dT hc nofun
  have hn : loNew lo S.length p S.length = some p := by unfold loNew; rw [if_pos rfl]
  exact h _ _ _ s1 (xt_new hp) (loNew_x s.st p) _ ⟨p, hn, rfl⟩
theorem zs_dputT {pos' : Pos} (hu : X.A.units + 64 < cLine) (ho : ZE X E o fo) (hk : ZE X E k fk) (hv : ZE X E e f) (hs : swapsWith e (some (.Subscript o k pos')) pos.line X.env = pure false := by rfl) :
    ZS X E b (.Assign [.Subscript o k pos'] e pos) (yDputT fo fk f) := by
  obtain ⟨to, po, ro⟩ := ho
  obtain ⟨tk, pk, rk⟩ := hk
  obtain ⟨tv, pv, rv⟩ := hv
  refine ⟨_, ps_dput (by omega) po pk pv hs, fun B hb al lo H σ ρ S D s h => rv _ _ _ _ _ _ _ _ s (AftZ.mono (okZ.ofX h) fun y al0 lo0 H0 S0 s0 x0 y0 h0 v0 r0 => ro _ _ _ _ _ _ _ _ s0 (AftZ.mono (okZ.ofX h0) fun z al1 lo1 H1 S1 s1 x1 y1 h1 v1 r1 => rk _ _ _ _ _ _ _ _ s1 (AftZ.mono (okZ.ofX h1) fun y2' al2 lo2 H2 S2 s2 x2 y2 h2 u ru => ?_)))⟩
  split at h2
  · rename_i n k0
    split at h2
    · rename_i kvs q
      split at h2
      · rename_i hl
        obtain ⟨a, hn, rfl⟩ := r1
        obtain ⟨c, ha, hc, rfl⟩ := ru
        have hn2 := y2 _ _ hn
        obtain ⟨us, g1, g2⟩ := s2.cell hn2 q
        have r0' : RepZ X.K al2 lo2 H2 v0 y := (r0.mv x1 y1).mv x2 y2
        have x3 : Xt al2 H2 al2 (upd H2 a (.dT (putK us k0 v0))) := fun b o _ hb eb => ⟨hb, by rw [upd_ne fun z => s2.st.na n a hn2 (by rw [← z]; exact hb)]; exact eb⟩
        obtain ⟨s4, x4⟩ := s2.write hn2 (o := .dT (putK us k0 v0)) (c := .dt (putZ kvs k0 y)) nt_dT (fun q w => by unfold CodeO at w; cases w) ⟨_, upd_same, RepK.mv x3 .refl (g2.put k0 r0')⟩ nofun
        exact ⟨a, _, rfl, .t g1 hc (by rw [g2.length]; exact hl), h2 _ _ _ _ x4 s4⟩
      · exact h2.elim
    · exact h2.elim
  · exact h2.elim
theorem RepK.isSome {K : W.Frag} {al : Addr -> Prop} {lo : Lo} {H : Hp} {us : List (List Key × V)} {zs : List (List Key × Z)} (r : RepK K al lo H us zs) (k : List Key) : (valV us k).isSome = (valZ zs k).isSome := by
  cases e : valZ zs k with
  | none => rw [r.none e]; rfl
  | some z => obtain ⟨v, e1, _⟩ := r.val e; rw [e1]; rfl
theorem zt_dinT (hu : X.A.units + 64 < cLine) (hk : ZE X E k fk) (ho : ZE X E o fo) (hm : behindInMarks .In o = false := by first | exact nomark _ | with_unfolding_all rfl) : ZT X E (.Compare k [.In] [o] pos) (zInT fk fo) := by
  obtain ⟨to, po, ro⟩ := ho
  obtain ⟨tk, pk, rk⟩ := hk
  refine ⟨_, pt_cmp (pc_din (by omega) pk po) hm, fun B al lo H σ ρ S Q s h => rk _ _ _ _ _ _ _ _ s (AftZ.mono (AftZ.split h) fun y al1 lo1 H1 S1 s1 x1 y1 h1 u ru => ro _ _ _ _ _ _ _ _ s1 (AftZ.mono (AftZ.split h1) fun z al2 lo2 H2 S2 s2 x2 y2 h2 v rv => ?_))⟩
  split at h2
  · rename_i n k0
    split at h2
    · rename_i kvs q
      obtain ⟨a, hn, rfl⟩ := rv
      obtain ⟨c, ha, hc, rfl⟩ := RepZ.mv x2 y2 ru
      obtain ⟨us, g1, g2⟩ := s2.cell hn q
      refine ⟨a, valV us k0, rfl, .t g1 hc, ?_⟩
      rw [g2.isSome k0]
      exact ⟨_, rfl, h2 al2 lo2 H2 s2 .refl .refl⟩
    · exact h2.elim
  · exact h2.elim
end
end P2
namespace P2
open PySem L2
noncomputable def wZE (K : W.Frag) (f : ZEv -> Sto -> RX Z) : TE := fun σ H Q => ∃ B al lo ρ S, RZ K B al lo H σ ρ S /\ AftZ K B (fun _ _ _ => False) al lo H σ ρ (f ρ S) (fun z al' lo' H' _ => ∀ v, RepZ K al' lo' H' v z -> Q v H')
noncomputable def wZT (K : W.Frag) (f : ZEv -> Sto -> RX Bool) : TT := fun σ H Q => ∃ B al lo ρ S, RZ K B al lo H σ ρ S /\ AftZ K B (fun _ _ _ => False) al lo H σ ρ (f ρ S) (fun b _ _ H' _ => Q b H')
theorem ZE.w {X : Cx} {e : Expr} {f : ZEv -> Sto -> RX Z} (h : ZE X (fun _ _ _ => False) e f) : PE X e (wZE X.K f) := by
  obtain ⟨t, p, r⟩ := h
  intro pins s σ H Q I hq
  obtain ⟨B, al, lo, ρ, S, s1, a⟩ := hq
  exact p pins s σ H Q I (r B al lo H σ ρ S Q s1 a)
theorem ZT.w {X : Cx} {e : Expr} {f : ZEv -> Sto -> RX Bool} (h : ZT X (fun _ _ _ => False) e f) : PT X e (wZT X.K f) := by
  obtain ⟨t, p, r⟩ := h
  intro pins s σ H Q I hq
  obtain ⟨B, al, lo, ρ, S, s1, a⟩ := hq
  exact p pins s σ H Q I (r B al lo H σ ρ S Q s1 a)
noncomputable def ZFt (X : Cx) (ifs : List Expr) (f : ZEv -> Sto -> RX Bool) : Prop := PF X ifs (wZT X.K f)
noncomputable def zYes : ZEv -> Sto -> RX Bool := fun _ S => .ok true S
theorem zf_nil {X : Cx} : ZFt X [] zYes := fun pins s σ H Q I h => by
  obtain ⟨B, al, lo, ρ, S, s1, a⟩ := h
  exact pf_nil pins s σ H Q I (a al lo H s1 .refl .refl)
theorem zf_one {X : Cx} {c : Expr} {f : ZEv -> Sto -> RX Bool} (h : ZT X (fun _ _ _ => False) c f) : ZFt X [c] f := pf_one h.w
noncomputable def ZI (X : Cx) (E : XK) (tg iter : Expr) (f : ZEv -> Sto -> RX (List D)) : Prop := ∃ wi : TI, PI X tg iter wi /\
  ∀ B al lo H σ ρ S (R : It -> Hp -> Prop), RZ X.K B al lo H σ ρ S -> AftZ X.K B E al lo H σ ρ (f ρ S) (fun ds al' lo' H' _ => ∀ J, Wk X.K al' H' J ds -> R J H') -> wi σ H R
noncomputable def zItL (f : ZEv -> Sto -> RX Z) : ZEv -> Sto -> RX (List D) := fun ρ S => (f ρ S).bind fun z S1 => match z with
  | .d (.lst ds) => .ok ds S1
  | _ => .bad
section
variable {X : Cx} {E : XK} {tg e : Expr} {f : ZEv -> Sto -> RX Z}
theorem zi_lst (he : ZE X E e f) : ZI X E tg e (zItL f) := by
  obtain ⟨t, p, r⟩ := he
  refine ⟨_, pi_list p, fun B al lo H σ ρ S R s h => r _ _ _ _ _ _ _ _ s (AftZ.mono (AftZ.split h) fun z al1 lo1 H1 S1 s1 x1 y1 h1 v rv => ?_)⟩
  split at h1
  · rename_i ds
    have rv' : Rep X.K al1 H1 v (.lst ds) := rv
    obtain ⟨a, vs, e1, e2, e3⟩ := rv'.lstIn
    subst e1
    exact ⟨a, rfl, ⟨vs, e2⟩, h1 al1 lo1 H1 s1 .refl .refl _ (wk_list rv)⟩
  · exact h1.elim
end
noncomputable def capZ (ci : List Nat) (ρ : ZEv) : ZEv := none :: ci.map fun i => (ρ[i]?).getD none
theorem rz_cap {K : W.Frag} {B : Z0} {al1 al2 : Addr -> Prop} {lo1 lo2 : Lo} {H1 H2 : Hp} {σ : St} {ρ : ZEv} {S1 S2 : Sto} (s : RZ K B al1 lo1 H1 σ ρ S1) (e2 : EZ K B al2 lo2 H2 S2) (x : Xt al1 H1 al2 H2) (y : Lx lo1 lo2) (ci : List Nat) : RZ K B al2 lo2 H2 (capS 1 ci σ) (capZ ci ρ) S2 where
  toEZ := e2
  len := by unfold capS capZ; simp
  vr := fun j z h => by
    unfold capZ at h
    cases j with
    | zero => cases h
    | succ k =>
      rw [List.getElem?_cons_succ, List.getElem?_map] at h
      cases q : ci[k]? with
      | none => rw [q] at h; cases h
      | some i =>
        rw [q] at h
        have h' : (ρ[i]?).getD none = some z := Option.some.inj h
        cases w : ρ[i]? with
        | none => rw [w] at h'; cases h'
        | some o =>
          rw [w] at h'
          have h'' : o = some z := h'
          subst h''
          obtain ⟨v, k1, k2⟩ := s.vr i z w
          refine ⟨v, ?_, k2.mv x y⟩
          unfold capS
          show (none :: (ci.map fun i => (σ[i]?).getD none))[k + 1]? = _
          rw [List.getElem?_cons_succ, List.getElem?_map, q]
          show some ((σ[i]?).getD none) = _
          rw [k1]; rfl
noncomputable def zLoop (c : ZEv -> Sto -> RX Bool) (e : ZEv -> Sto -> RX Z) (ρ0 : ZEv) (n0 : Nat) : List D -> Sto -> RX Z
  | [], S => .ok (.loc n0) S
  | d :: r, S => match c (ρ0.set 0 (some (.d d))) S with
    | .ok b S1 => if b = true then (match e (ρ0.set 0 (some (.d d))) S1 with
      | .ok z S2 => (match S2[n0]? with
        | some (.li zs) => if zs.length < sizeLine then zLoop c e ρ0 n0 r (S2.set n0 (.li (zs ++ [z]))) else .bad
        | _ => .bad)
      | _ => .bad) else zLoop c e ρ0 n0 r S1
    | _ => .bad
noncomputable def zComp (fi : ZEv -> Sto -> RX (List D)) (ci : List Nat) (c : ZEv -> Sto -> RX Bool) (e : ZEv -> Sto -> RX Z) : ZEv -> Sto -> RX Z := fun ρ S => (fi ρ S).bind fun ds S1 => zLoop c e (capZ ci ρ) S1.length ds (S1 ++ [.li []])
section
variable {X : Cx} {E : XK} {iter elt : Expr} {ifs : List Expr} {scope : Scope} {pos p0 : Pos} {fi : ZEv -> Sto -> RX (List D)} {fc : ZEv -> Sto -> RX Bool} {fe : ZEv -> Sto -> RX Z} {cl : List (Str × Addr)} {Nc : List Str} {ci : List Nat} {x : Str}
theorem ze_comp (hc : X.calm = true) (hi : ZI X E (.Name x p0) iter fi) (hg : ∀ fp s3 H3 C, PG (X.comp scope ([x] ++ Nc) cl fp s3 H3 C) (.Name x p0) (gName 0)) (hf : ∀ fp s3 H3 C, ZFt (X.comp scope ([x] ++ Nc) cl fp s3 H3 C) ifs fc)
    (he : ∀ fp s3 H3 C, ZE (X.comp scope ([x] ++ Nc) cl fp s3 H3 C) (fun _ _ _ => False) elt fe)
    (hclos : closureFor scope X.env = pure cl) (hkind : scope.kind = .function) (hcell : ∀ y ∈ scope.names, y.2 ≠ .cell) (hnames : ∀ x ∈ scope.names, x.2 = .local -> scope.names.lookup x.1 = some .local) (hcap : Caps X cl Nc ci)
    (hsub : ∀ x c, cl.lookup x = some c -> X.env.cells.lookup x = some c) (hhas : ∀ x, ((relabel scope X.env).names.lookup x = some .cell \/ (relabel scope X.env).names.lookup x = some .free) -> ∃ c, cl.lookup x = some c)
    (hvis : ∀ x ∈ Nc, (relabel scope X.env).names.lookup x = some .cell \/ (relabel scope X.env).names.lookup x = some .free)
    (hs : ∀ x, foldedSetIterable iter X.env x = pure x := by intro _; rfl) : ZE X E (.ListComp elt [⟨.Name x p0, iter, ifs, 0⟩] scope pos) (zComp fi ci fc fe) := by
  obtain ⟨wi, pi, ri⟩ := hi
  refine ⟨_, pe_comp (Nt := [x]) (tn := 1) (te := wZE X.K fe) (tc := wZT X.K fc) (g := gName 0) hc pi hg hf (fun fp s3 H3 C => (he fp s3 H3 C).w) hclos hkind hcell hnames hcap rfl hsub hhas hvis hs, fun B al lo H σ ρ S Q s h => ri _ _ _ _ _ _ _ _ s (AftZ.mono (AftZ.split h) fun ds al1 lo1 H1 S1 s1 x1 y1 h1 J wk => ?_)⟩
  intro p hp
  have hcl : CellAt X.K (fun b => al1 b /\ b ≠ p) (loNew lo1 S1.length p) (upd H1 p (.lst [])) p (.li []) := ⟨[], upd_same, .nil⟩
  have e0 := s1.toEZ.new hp nt_lst hcl nofun
  have hn0 : loNew lo1 S1.length p S1.length = some p := by unfold loNew; rw [if_pos rfl]
  refine ⟨fun i m H2 => ∃ al2 lo2 S2, EZ X.K B al2 lo2 H2 S2 /\ Xt al1 H1 al2 H2 /\ Lx lo1 lo2 /\ lo2 S1.length = some p /\ AftZ X.K B E al1 lo1 H1 σ ρ (zLoop fc fe (capZ ci ρ) S1.length (ds.drop i) S2) (fun z al' lo' H' _ => ∀ v, RepZ X.K al' lo' H' v z -> Q v H') /\ m = ds.length - i, ⟨_, _, _, _, e0, xt_new hp, loNew_x s1.st p, hn0, h1, rfl⟩, ?_⟩
  rintro i m H2 ⟨al2, lo2, S2, e2, x2, y2, n2, h2, rfl⟩
  obtain ⟨w1, w2⟩ := wk al2 H2 x2 e2.fresh
  have cap := rz_cap s1 e2 x2 y2 ci
  by_cases hi : i < ds.length
  · right
    have ed : ds[i]? = some ds[i] := List.getElem?_eq_getElem hi
    obtain ⟨go, yl⟩ := w1 i _ ed
    refine ⟨go, fun v H3 y => ?_⟩
    obtain ⟨rfl, rx⟩ := yl v H3 y
    rw [List.drop_eq_getElem_cons hi] at h2
    unfold zLoop at h2
    have c1 : RZ X.K B al2 lo2 H3 ((capS 1 ci σ).set 0 (some v)) ((capZ ci ρ).set 0 (some (.d ds[i]))) S2 := cap.set (by unfold capZ; simp) rx
    refine ⟨⟨by rw [List.length_set, capS_length], fun j hj => List.getElem?_set_ne (by omega)⟩, B, al2, lo2, _, S2, c1, ?_⟩
    cases qc : fc ((capZ ci ρ).set 0 (some (.d ds[i]))) S2 with
    | bad => rw [qc] at h2; exact h2.elim
    | ex c ns es S3 => rw [qc] at h2; exact h2.elim
    | ok b S3 =>
      rw [qc] at h2
      intro al3 lo3 H4 c3 x3 y3
      dsimp only at h2
      cases b with
      | false =>
        rw [if_neg Bool.false_ne_true] at h2 ⊢
        exact ⟨ds.length - (i + 1), by omega, al3, lo3, S3, c3.toEZ, x2.trans x3, y2.trans y3, y3 _ _ n2, h2, rfl⟩
      | true =>
        rw [if_pos rfl] at h2 ⊢
        refine ⟨B, al3, lo3, _, S3, c3, ?_⟩
        cases qe : fe ((capZ ci ρ).set 0 (some (.d ds[i]))) S3 with
        | bad => rw [qe] at h2; exact h2.elim
        | ex c ns es S4 => rw [qe] at h2; exact h2.elim
        | ok z S4 =>
          rw [qe] at h2
          dsimp only at h2
          split at h2
          · rename_i zs q4
            split at h2
            · rename_i hz
              intro al4 lo4 H5 c4 x4 y4 u ru
              have n4 := y4 _ _ (y3 _ _ n2)
              obtain ⟨ws, g1, g2⟩ := c4.cell n4 q4
              have xx : Xt al4 H5 al4 (upd H5 p (.lst (ws ++ [u]))) := fun b o _ hb eb => ⟨hb, by rw [upd_ne fun z => c4.st.na _ p n4 (by rw [← z]; exact hb)]; exact eb⟩
              obtain ⟨e5, x5⟩ := c4.toEZ.write n4 (o := .lst (ws ++ [u])) (c := .li (zs ++ [z])) nt_lst (fun q w => by unfold CodeO at w; cases w) ⟨_, upd_same, RepZs.mv xx .refl (g2.append (.cons ru .nil))⟩ nofun
              exact ⟨ws, g1, by rw [g2.length]; exact hz, ds.length - (i + 1), by omega, al4, lo4, _, e5, ((x2.trans x3).trans x4).trans x5, (y2.trans y3).trans y4, n4, h2, rfl⟩
            · exact h2.elim
          · exact h2.elim
  · left
    rw [List.drop_eq_nil_of_le (by omega)] at h2
    exact ⟨w2 i (by omega), h2 al2 lo2 H2 ⟨e2, s1.len, fun i z e => let ⟨v, k1, k2⟩ := s1.vr i z e; ⟨v, k1, k2.mv x2 y2⟩⟩ x2 y2 _ ⟨p, n2, rfl⟩⟩
theorem ze_comp1 {y : Str} (i : Nat) {c : Addr} (nm : List (Str × NameKind)) (hc : X.calm = true) (hi : ZI X E (.Name x p0) iter fi) (hg : ∀ fp s3 H3 C, PG (X.comp scope ([x] ++ [y]) [(y, c)] fp s3 H3 C) (.Name x p0) (gName 0)) (hf : ∀ fp s3 H3 C, ZFt (X.comp scope ([x] ++ [y]) [(y, c)] fp s3 H3 C) ifs fc)
    (he : ∀ fp s3 H3 C, ZE (X.comp scope ([x] ++ [y]) [(y, c)] fp s3 H3 C) (fun _ _ _ => False) elt fe)
    (hkind : scope.kind = .function) (hcell : ∀ y ∈ scope.names, y.2 ≠ .cell) (hnames : ∀ x ∈ scope.names, x.2 = .local -> scope.names.lookup x.1 = some .local)
    (hN : X.N[i]? = some y) (hk : X.env.kindOf y = some .cell) (hcl : X.env.cells.lookup y = some c) (hclos : closureFor scope X.env = pure [(y, c)]) (hrl : (relabel scope X.env).names = nm)
    (hnm : ∀ p ∈ nm, (p.2 = .cell \/ p.2 = .free) -> p.1 = y) (hvis : nm.lookup y = some .cell \/ nm.lookup y = some .free)
    (hs : ∀ x, foldedSetIterable iter X.env x = pure x := by intro _; rfl) : ZE X E (.ListComp elt [⟨.Name x p0, iter, ifs, 0⟩] scope pos) (zComp fi [i] fc fe) := by
  refine ze_comp (cl := [(y, c)]) (Nc := [y]) (ci := [i]) hc hi hg hf he hclos hkind hcell hnames (.cons hN (.inl hk) (by rw [hcl]; simp [List.lookup]) .nil) (fun z d q => ?_) (fun z q => ?_) (fun z hz => ?_) hs
  · by_cases w : z = y
    · subst w; simp [List.lookup] at q; rw [hcl, q]
    · have : (z == y) = false := by simpa using w
      simp [List.lookup, this] at q
  · rw [hrl] at q
    have : z = y := q.elim (fun q => hnm _ (PySem.mem_of_lookup q) (.inl rfl)) fun q => hnm _ (PySem.mem_of_lookup q) (.inr rfl)
    subst this
    exact ⟨c, by simp [List.lookup]⟩
  · rw [List.mem_singleton] at hz
    subst hz
    rw [hrl]; exact hvis
end
noncomputable def slotHas (n : Nat) : Option Z -> Bool
  | some z => hasLoc n z
  | none => false
noncomputable def zFrz (f : ZEv -> Sto -> RX Z) : ZEv -> Sto -> RX Z := fun ρ S => match f ρ S with
  | .ok z S1 => (match z with
    | .loc n => (match S1[n]? with
      | some (.li zs) => (match asDs zs with
        | some ds => if S.length <= n /\ S1.any (cellHas n) = false /\ ρ.any (slotHas n) = false then .ok (.d (.lst ds)) (S1.set n .no) else .bad
        | none => .bad)
      | _ => .bad)
    | _ => .bad)
  | .ex c ns ds S1 => .ex c ns ds S1
  | .bad => .bad
section
variable {X : Cx} {E : XK} {e : Expr} {f : ZEv -> Sto -> RX Z}
theorem thaw_id {n : Nat} {d : D} {o : Option Z} (h : slotHas n o = false) : thaw n d o = o := by
  cases o with
  | none => rfl
  | some z =>
    cases z with
    | d x => rfl
    | tk ks => rfl
    | loc m =>
      have h' : decide (m = n) = false := h
      have : m ≠ n := by simpa using h'
      show (if m = n then some (Z.d d) else some (Z.loc m)) = _
      rw [if_neg this]
theorem ze_frz (he : ZE X E e f) : ZE X E e (zFrz f) := by
  obtain ⟨t, p, r⟩ := he
  refine ⟨t, p, fun B al lo H σ ρ S Q s h => r _ _ _ _ _ _ _ _ s ?_⟩
  unfold zFrz at h
  cases q : f ρ S with
  | bad => rw [q] at h; exact h.elim
  | ex c ns ds S1 => rw [q] at h; exact h
  | ok z S1 =>
    rw [q] at h
    intro al1 lo1 H1 s1 x1 y1 v rv
    dsimp only at h
    split at h
    · rename_i n
      split at h
      · rename_i zs q0
        split at h
        · rename_i ds qd
          split at h
          · rename_i w
            obtain ⟨w1, w2, w3⟩ := w
            obtain ⟨a, hn, rfl⟩ := rv
            have s1' : RZ X.K B al1 lo1 H1 (σ ++ [some (.ref a)]) (ρ ++ [some (.loc n)]) S1 := ⟨s1.toEZ, by rw [List.length_append, List.length_append, s1.len]; rfl, fun i z hz => by
              by_cases hi : i < ρ.length
              · rw [List.getElem?_append_left hi] at hz
                obtain ⟨u, k1, k2⟩ := s1.vr i z hz
                exact ⟨u, by rw [List.getElem?_append_left (by rw [← s1.len]; exact hi)]; exact k1, k2⟩
              · rw [List.getElem?_append_right (by omega)] at hz
                have e0 : i - ρ.length = 0 := by
                  have := (List.getElem?_eq_some_iff.mp hz).1
                  simp at this; omega
                rw [e0] at hz
                cases hz
                refine ⟨.ref a, ?_, a, hn, rfl⟩
                rw [List.getElem?_append_right (by rw [← s1.len]; omega), ← s1.len, e0]; rfl⟩
            have hat : (ρ ++ [some (Z.loc n)])[ρ.length]? = some (some (.loc n)) := by simp
            have fz : frzZ B.n ρ.length (ρ ++ [some (.loc n)]) S1 = some ((ρ ++ [some (Z.loc n)]).map (thaw n (.lst ds)), S1.set n .no) := by
              unfold frzZ
              rw [hat]
              dsimp only
              rw [q0]
              dsimp only
              rw [qd]
              dsimp only
              rw [if_pos ⟨Nat.le_trans s.sz w1, w2⟩]
            obtain ⟨al2, lo2, s2, x2, y2⟩ := s1'.freeze fz
            have ids : ∀ i z, ρ[i]? = some (some z) -> ((ρ ++ [some (Z.loc n)]).map (thaw n (.lst ds)))[i]? = some (some z) := fun i z hz => by
              have hi := (List.getElem?_eq_some_iff.mp hz).1
              rw [List.getElem?_map, List.getElem?_append_left hi, hz]
              have := List.any_eq_false.mp w3 (some z) (List.mem_of_getElem? hz)
              show some (thaw n (.lst ds) (some z)) = _
              rw [thaw_id (by simpa using this)]
            have s3 : RZ X.K B al2 lo2 H1 σ ρ (S1.set n .no) := ⟨s2.toEZ, s1.len, fun i z hz => by
              obtain ⟨u, k1, k2⟩ := s2.vr i z (ids i z hz)
              have hi := (List.getElem?_eq_some_iff.mp hz).1
              rw [List.getElem?_append_left (by rw [← s1.len]; exact hi)] at k1
              exact ⟨u, k1, k2⟩⟩
            have last : ((ρ ++ [some (Z.loc n)]).map (thaw n (.lst ds)))[ρ.length]? = some (some (.d (.lst ds))) := by
              rw [List.getElem?_map, hat]
              show some (if n = n then some (Z.d (.lst ds)) else some (Z.loc n)) = _
              rw [if_pos rfl]
            obtain ⟨u, k1, k2⟩ := s2.vr _ _ last
            rw [s1.len, List.getElem?_append_right (Nat.le_refl _), Nat.sub_self] at k1
            cases k1
            refine h al2 lo2 H1 s3 (x1.trans x2) (fun m b hm => ?_) _ k2
            obtain ⟨c, g1, _⟩ := s.st.at' m b hm
            have hm2 := (List.getElem?_eq_some_iff.mp g1).1
            exact y2 n hat m b (by omega) (y1 m b hm)
          · exact h.elim
        · exact h.elim
      · exact h.elim
    · exact h.elim
end
end P2
namespace P2
open PySem L2 PySem.Spec PySem.Calls PySem.W
open PyProof.Rows hiding St K
noncomputable def RawD (h : Heap) (d : Addr) (es : Array DictEntry) (ep : Nat) : Prop := ∃ o, h.get? d = some o /\ o.ExactDict /\ o.data = .dict es ep
theorem RawD.at' {h h' : Heap} {d : Addr} {es : Array DictEntry} {ep : Nat} (x : RawD h d es ep) (e : ∀ o, h.get? d = some o -> h'.get? d = some o) : RawD h' d es ep := let ⟨o, ho, r⟩ := x; ⟨o, e _ ho, r⟩
theorem RawD.lt {h : Heap} {d : Addr} {es : Array DictEntry} {ep : Nat} (x : RawD h d es ep) : d < h.objs.size := let ⟨_, ho, _⟩ := x; Heap.lt_size ho
theorem RawD.typeIs {s : Shared} {d : Addr} {es : Array DictEntry} {ep : Nat} (x : RawD s.heap d es ep) : s.TypeIs (.ref d) "dict" := let ⟨o, ho, hc, _⟩ := x; ⟨o, ho, hc.1⟩
section
variable {prog : Program} {w : World} {A : Around} {E : Value -> Shared -> Prop} {s : Shared} {it d : Addr} {i ep : Nat} {es : Array DictEntry}
theorem raw_iter {Q : Value -> Shared -> Prop} (hd : (d == sysModules) = false) (hm : RawD s.heap d es ep)
    (hQ : Q (.ref s.heap.objs.size) { s with heap := s.heap.push { cls := .type "dict_keyiterator", data := .fields #[.ref d, .int 0 0, .int es.size 0, .int ep 0] } }) : wpAny (model prog w) A (pyIter (.ref d)) Q E s := by
  obtain ⟨o, ho, hc, hdat⟩ := id hm
  have hT := hm.typeIs
  refine wpAny_pyIter_slot hT PySem.F.slot_dict_iter (wpAny_call_entry PySem.F.slot_dict_iter hT PySem.F.entry_dict_iter ?_ (PySem.F.args_dict_iter_1 _))
  unfold Builtin.«dict.__iter__»
  refine wpAny_bind ?_
  unfold Builtin.Dict.dictSlotNone
  refine wpAny_bind (wpAny_notOrdered_dict hT ?_)
  show wpAny _ _ (pure (Value.ref d)) _ _ s
  refine wpAny_pure ?_
  show wpAny _ _ (Builtin.Dict.showsAll d >>= _) _ _ s
  unfold Builtin.Dict.showsAll
  rw [if_neg (by rw [hd]; exact Bool.false_ne_true)]
  refine wpAny_bind (wpAny_pure ?_)
  refine wpAny_bind (wpAny_dictEntries ho hdat ?_)
  refine wpAny_bind (wpAny_dictEpoch ho hdat ?_)
  refine wpAny_bind (wpAny_newObj_type (wpAny_pure ⟨_, rfl, "dict_keyiterator", _, ⟨_, Heap.get?_push_size _ rfl, rfl⟩, PySem.F.slot_dict_keyiterator_next.lookup, ?_⟩))
  simpa [rawInt] using hQ
theorem raw_item {Q : Option Value -> Shared -> Prop} (hit : s.heap.IsKeyIter it d i es.size ep) (hm : RawD s.heap d es ep) (hlt' : i < es.size)
    (hQ : ∀ h', h'.IsKeyIter it d (i + 1) es.size ep -> Heap.SameBut it s.heap h' -> Q (some es[i].key) { s with heap := h' }) : wpAny (model prog w) A (pyNext (.ref it)) Q E s := by
  obtain ⟨o, ho, hc, hd⟩ := id hit
  obtain ⟨od, hod, hcd, hdd⟩ := id hm
  unfold pyNext
  refine wpAny_bind (wpAny_attempt (wpAny_callSpecial?_slot (name := Str.ofString "__next__") hit.typeIs PySem.F.slot_dict_keyiterator_next
    (wpAny_call_entry PySem.F.slot_dict_keyiterator_next hit.typeIs PySem.F.entry_dict_keyiterator_next ?_ (PySem.F.args_dict_keyiterator_next_1 _))))
  refine wpAny_bind (wpAny_pure ?_)
  refine wpAny_bind ?_
  refine wpAny_bind ?_
  first | refine wpAny_bind (wpAny_typeNameOfWhole_keyiter hit.typeIs (wpAny_pure ?_)) | refine wpAny_bind (wpAny_typeNameOf_keyiter hit.typeIs (wpAny_pure ?_))
  refine wpAny_bind (wpAny_fieldsOf ho hd ?_)
  have hown : Builtin.Dict_items.ownsTuple "dict_keyiterator" = false := by decide
  simp only [hown, Bool.false_eq_true, if_false]
  show wpAny _ _ (if (Value.ref d == Value.none) = true then _ else _) _ _ s
  rw [if_neg (show ¬ ((Value.ref d == Value.none) = true) from Bool.false_ne_true)]
  refine wpAny_bind (wpAny_pure ?_)
  refine wpAny_bind (wpAny_dictEntries hod hdd ?_)
  rw [if_neg (by simp)]
  refine wpAny_bind (wpAny_pure ?_)
  refine wpAny_bind (wpAny_dictEpoch hod hdd ?_)
  rw [if_neg (by simp)]
  refine wpAny_pure ?_
  simp only [show ¬ ((i : Int) < 0) from by omega, if_false, Int.toNat_natCast, Array.getElem?_eq_getElem hlt']
  refine wpAny_bind ?_
  first | refine wpAny_bind (wpAny_typeNameOfWhole_keyiter hit.typeIs (wpAny_pure ?_)) | refine wpAny_bind (wpAny_typeNameOf_keyiter hit.typeIs (wpAny_pure ?_))
  refine wpAny_bind (wpAny_isOneOf_keyiter hit.typeIs ?_)
  show wpAny _ _ (setField (.ref it) 1 (rawInt ((i : Int) + 1)) >>= _) _ _ s
  refine wpAny_bind (wpAny_setField ho hd (by simp) ?_)
  have hit' : (s.heap.update it (Obj.mapFields (·.setIfInBounds 1 (rawInt ((i : Int) + 1))))).IsKeyIter it d (i + 1) es.size ep :=
    ⟨_, Heap.get?_update_self _ ho (Obj.isFreed_of_fields (Obj.data_mapFields hd _)), (Obj.cls_mapFields ..).trans hc, by rw [Obj.data_mapFields hd]; simp [rawInt]⟩
  refine wpAny_bind (wpAny_holding ?_)
  refine wpAny_bind (wpAny_isOneOf_keyiter (s := { s with heap := s.heap.update it (Obj.mapFields (·.setIfInBounds 1 (rawInt ((i : Int) + 1)))) }) hit'.typeIs ?_)
  show wpAny _ _ (pure es[i].key) _ _ _
  exact wpAny_pure (wpAny_pure ⟨_, rfl, wpAny_pure (hQ _ hit' (Heap.SameBut.update ..))⟩)
theorem raw_end {Q : Option Value -> Shared -> Prop} (hh : A.handled = none) (hit : s.heap.IsKeyIter it d i es.size ep) (hm : RawD s.heap d es ep) (hge : es.size <= i)
    (hQ : ∀ h', Heap.ExtBut it s.heap h' -> Q none { s with heap := h' }) : wpAny (model prog w) A (pyNext (.ref it)) Q E s := by
  obtain ⟨o, ho, hc, hd⟩ := id hit
  obtain ⟨od, hod, hcd, hdd⟩ := id hm
  unfold pyNext
  refine wpAny_bind (wpAny_attempt (wpAny_callSpecial?_slot (name := Str.ofString "__next__") hit.typeIs PySem.F.slot_dict_keyiterator_next
    (wpAny_call_entry PySem.F.slot_dict_keyiterator_next hit.typeIs PySem.F.entry_dict_keyiterator_next ?_ (PySem.F.args_dict_keyiterator_next_1 _))))
  refine wpAny_bind (wpAny_pure ?_)
  refine wpAny_bind ?_
  refine wpAny_bind ?_
  first | refine wpAny_bind (wpAny_typeNameOfWhole_keyiter hit.typeIs (wpAny_pure ?_)) | refine wpAny_bind (wpAny_typeNameOf_keyiter hit.typeIs (wpAny_pure ?_))
  refine wpAny_bind (wpAny_fieldsOf ho hd ?_)
  have hown : Builtin.Dict_items.ownsTuple "dict_keyiterator" = false := by decide
  simp only [hown, Bool.false_eq_true, if_false]
  show wpAny _ _ (if (Value.ref d == Value.none) = true then _ else _) _ _ s
  rw [if_neg (show ¬ ((Value.ref d == Value.none) = true) from Bool.false_ne_true)]
  refine wpAny_bind (wpAny_pure ?_)
  refine wpAny_bind (wpAny_dictEntries hod hdd ?_)
  rw [if_neg (by simp)]
  refine wpAny_bind (wpAny_pure ?_)
  refine wpAny_bind (wpAny_dictEpoch hod hdd ?_)
  rw [if_neg (by simp)]
  refine wpAny_pure ?_
  simp only [show ¬ ((i : Int) < 0) from by omega, if_false, Int.toNat_natCast, Array.getElem?_eq_none hge]
  refine wpAny_bind ?_
  first | refine wpAny_bind (wpAny_typeNameOfWhole_keyiter hit.typeIs (wpAny_pure ?_)) | refine wpAny_bind (wpAny_typeNameOf_keyiter hit.typeIs (wpAny_pure ?_))
  show wpAny _ _ (setField (.ref it) 0 .none >>= _) _ _ s
  refine wpAny_bind (wpAny_setField ho hd (by simp) ?_)
  show wpAny _ _ (newExc (.type "StopIteration") [] >>= _) _ _ _
  refine wpAny_bind ?_
  simp only [newExc, newTuple]
  refine wpAny_bind (wpAny_newObj_type ?_ (by size_fits))
  refine wpAny_bind (m := firstArgMember _ _) (wpAny_of_eq (a := Value.none) (by first | rfl | (simp only [firstArgMember]; rfl)) ?_)
  refine wpAny_newObj_type ?_ (by size_fits)
  simp only [raiseNew]
  refine wpAny_bind (wpAny_handled ?_)
  rw [show A.in1.handled = none from hh]
  refine wpAny_bind (wpAny_pure (wpAny_throw ?_))
  refine wpAny_bind (wpAny_isInstance (T := "StopIteration") (b := true) ⟨_, Heap.get?_push_size _ rfl, rfl⟩ isSubtype_stop ?_)
  exact wpAny_pure (hQ _ (((Heap.SameBut.update ..).extBut.push _).push _))
theorem raw_walks (hh : A.handled = none) (I d : Addr) (hne : d ≠ I) (es : Array DictEntry) (ep : Nat) :
    Walks prog w A I [I, d] [I] es.size (fun i v => ∃ e, es[i]? = some e /\ v = e.key) (fun i h => h.IsKeyIter I d i es.size ep /\ RawD h d es ep) where
  sub := fun b hb => by simp at hb; simp [hb]
  frame := fun _ _ _ st hk => ⟨st.1.at fun o e => hk I (by simp) o e, st.2.at' fun o e => hk d (by simp) o e⟩
  item := fun i s Q E hi st hQ => by
    refine raw_item st.1 st.2 hi fun h' hit' hs' => ?_
    exact hQ _ h' s.toks ⟨es[i], by simp [hi], rfl⟩ ⟨hit', st.2.at' fun o e => hs'.extBut d o hne e⟩ fun b o hb e => hs'.extBut b o (fun h => hb (by simp [h])) e
  done := fun s Q E st hQ => raw_end hh st.1 st.2 (Nat.le_refl _) fun h' he' => hQ h' s.toks fun b o hb e => he' b o (fun h => hb (by simp [h])) e
  self := fun _ _ _ _ st hQ => wpAny_pyIter_keyiter st.1 hQ
theorem raw_src (lo : (d == sysModules) = false) : KdlSrc prog w "dict" d d es.size (fun i v => ∃ e, es[i]? = some e /\ v = e.key) (fun h => RawD h d es ep) where
  type := fun _ hm => hm.typeIs
  there := fun _ hm => ⟨hm.lt, hm.lt⟩
  keep := fun _ _ hm hk => hm.at' fun o e => hk d (.inl rfl) o e
  notList := by decide
  notTuple := by decide
  hint := fun _ _ _ _ hm hq => kdl_hint_dict hm.typeIs hq
  iter := fun _ _ hh hm => ⟨_, _, (fun _ _ hq => raw_iter lo hm hq), raw_walks hh _ d (Nat.ne_of_lt hm.lt) es ep, ⟨⟨_, Heap.get?_push_size _ rfl, rfl, rfl⟩, hm.at' fun o e => Heap.get?_push_of_some _ e⟩⟩
theorem raw_keys {acc : Array Value} (h : ItemsOf (fun i v => ∃ e, es[i]? = some e /\ v = e.key) acc es.size) : acc.toList = es.toList.map (·.key) := by
  apply List.ext_getElem?
  intro j
  rw [Array.getElem?_toList, List.getElem?_map, Array.getElem?_toList]
  by_cases hj : j < es.size
  · have h1 : j < acc.size := by rw [h.1]; exact hj
    obtain ⟨e, e1, e2⟩ := h.2 j acc[j] (by simp [h1])
    rw [e1]
    simp [h1, e2]
  · rw [Array.getElem?_eq_none (by rw [h.1]; omega), Array.getElem?_eq_none (by omega)]; rfl
theorem raw_collect {Q : List Value -> Shared -> Prop} (hh : A.handled = none) (lo : (d == sysModules) = false) (hr : RawD s.heap d es ep) (hn : es.size <= sizeLine)
    (hQ : ∀ h' tk, (∀ b o, s.heap.get? b = some o -> h'.get? b = some o) -> s.heap.objs.size <= h'.objs.size -> Q (es.toList.map (·.key)) { s with heap := h', toks := tk }) : wpAny (model prog w) A (collect (.ref d)) Q E s := by
  have hlt := hr.lt
  unfold collect
  refine wpAny_bind (wpAny_runValue (codeAny_builtin PySem.F.entry_proto_collect ?_))
  rw [Around.under_plainId PySem.F.plain_proto_collect _]
  show wpAny _ A.in1 (newList [] >>= fun l => again (.builtin "list.__iadd__" ⟨[l, .ref d], []⟩)) _ _ s
  refine wpAny_bind (wpAny_newObj_type ?_)
  refine wpAny_pure ⟨plainId_quiet PySem.F.plain_list_iadd _, codeAny_builtin PySem.F.entry_list_iadd ?_⟩
  rw [Around.under_plainId PySem.F.plain_list_iadd _]
  show wpAny _ A.in1 (Builtin.List.listExtendWith (.ref s.heap.objs.size) (.ref d) (.ref s.heap.objs.size)) _ _ _
  have hS₁ : (s.heap.push { cls := .type "list", data := .seq ([] : List Value).toArray }).get? s.heap.objs.size = some { cls := .type "list", data := .seq #[] } := Heap.get?_push_size _ rfl
  refine kdl_extend (prog := prog) (w := w) (A := A) (R := fun r s' => match r with | .ok (.ret v) => wpAny (model prog w) A (match v with | .ref a => (do let o ← load a; match o.data with | .seq xs _ => pure xs.toList | _ => unsupported "internal:collect") | _ => unsupported "internal:collect") Q E s' | .ok _ => False | .error e => E e s') (s := { s with heap := s.heap.push { cls := .type "list", data := .seq ([] : List Value).toArray } }) (raw_src (es := es) (ep := ep) lo) hh (hr.at' fun o e => Heap.get?_push_of_some _ e) _ (Nat.ne_of_gt hlt) (Nat.ne_of_gt hlt) _ 0 hS₁ (fun h' tk acc' c' hk hS' hacc => ?_) hn
  show wpAny _ A (load s.heap.objs.size >>= _) _ _ _
  refine wpAny_bind (wpAny_load hS' ?_)
  show wpAny _ _ (pure acc'.toList) _ _ _
  rw [raw_keys hacc]
  exact wpAny_pure (hQ h' tk (fun b o e => hk b o (Nat.ne_of_lt (Heap.lt_size e)) (Heap.get?_push_of_some _ e)) (Nat.le_of_lt (Heap.lt_size hS')))
theorem srt_callC {l : Addr} {us : List Value} {G : Array Value -> Prop} {Q : Value -> Shared -> Prop} (hh : A.handled = none)
    (hcol : ∀ (B : Around) (Q' : List Value -> Shared -> Prop), B.handled = none -> (∀ h' tk, (∀ b o, s.heap.get? b = some o -> h'.get? b = some o) -> s.heap.objs.size <= h'.objs.size -> Q' us { s with heap := h', toks := tk }) -> wpAny (model prog w) B (collect (.ref l)) Q' E s)
    (hz : us.length <= sizeLine) (g0 : us.length < 2 -> G us.toArray)
    (g1 : 2 <= us.length -> ∀ t : Shared, (∀ b o, s.heap.get? b = some o -> t.heap.get? b = some o) -> Srt prog w G us t)
    (k : ∀ (out : Array Value) (p : Addr) (h' : Heap) (tk e : Nat), out.size = us.length -> G out -> s.heap.objs.size <= p -> (∀ b o, s.heap.get? b = some o -> h'.get? b = some o) -> h'.get? p = some (seqObj "list" out e) -> Q (.ref p) { s with heap := h', toks := tk }) : wpAny (model prog w) A (call (.builtin "sorted") [.ref l]) Q E s := by
  refine call_function_entry kind_sorted plain_sorted entry_sorted (args_sorted1 _) ?_
  unfold Builtin.«sorted»
  refine wpAny_bind (m := checkCount "sorted" 1 1 _) (wpAny_pure ?_)
  apply wpAny_bind
  refine hcol _ _ hh fun g tk kp0 sz0 => ?_
  apply wpAny_bind
  refine wpAny_newList ?_ hz
  have here : (g.push (seqObj "list" us.toArray 0)).get? g.objs.size = some (seqObj "list" us.toArray 0) := Heap.get?_push_size _ rfl
  have kp : ∀ b o, s.heap.get? b = some o -> b ≠ g.objs.size /\ (g.push (seqObj "list" us.toArray 0)).get? b = some o := fun b o q =>
    ⟨Nat.ne_of_lt (Nat.lt_of_lt_of_le (Heap.lt_size q) sz0), Heap.get?_push_of_some _ (kp0 b o q)⟩
  refine wpAny_bind (wpAny_holding (wpAny_call_entry slot_list_sort ⟨_, here, rfl⟩ entry_list_sort (srt_list (s := { s with heap := g.push (seqObj "list" us.toArray 0), toks := tk }) here hz g0 (fun h2 t ht => g1 h2 t fun b o q => ht b o (kp b o q).1 (kp b o q).2) fun out ho hG => ⟨_, rfl, ?_⟩) (args_list_sort _)))
  refine wpAny_pure ⟨_, rfl, ?_⟩
  have e1 := get?_update_seq here (fun _ => (#[] : Array Value))
  have old : ∀ b o, b ≠ g.objs.size -> (g.push (seqObj "list" us.toArray 0)).get? b = some o -> (sortedHeap (g.push (seqObj "list" us.toArray 0)) g.objs.size us out).get? b = some o := fun b o hb q => by
    show ((((((g.push (seqObj "list" us.toArray 0)).update g.objs.size (Obj.mapSeq fun _ => (#[] : Array Value))).push (seqObj "tuple" us.toArray 0)).push (seqObj "list" #[] 0)).update g.objs.size (Obj.mapSeq fun _ => out))).get? b = some o
    rw [Heap.get?_update_ne _ _ _ _ hb]
    refine Heap.get?_push_of_some _ (Heap.get?_push_of_some _ ?_)
    rw [Heap.get?_update_ne _ _ _ _ hb]; exact q
  have new : ∃ e, (sortedHeap (g.push (seqObj "list" us.toArray 0)) g.objs.size us out).get? g.objs.size = some (seqObj "list" out e) := by
    exact ⟨_, get?_update_seq (Heap.get?_push_of_some (seqObj "list" #[] 0) (Heap.get?_push_of_some (seqObj "tuple" us.toArray 0) e1)) (fun _ => out)⟩
  obtain ⟨e, he⟩ := new
  exact k out g.objs.size _ tk e ho hG sz0 (fun b o q => old b o (kp b o q).1 (kp b o q).2) he
end
end P2
namespace P2
open PySem L2 PySem.Spec PySem.Calls PySem.W
open PyProof.Rows hiding St K
noncomputable def kD : Key -> D
  | .inl i => .int i
  | .inr x => .str x
noncomputable def keysL (ks : List (List Key)) : List D := ks.map fun k => .tup (k.map kD)
theorem reps_kD {K : W.Frag} {al : Addr -> Prop} {H : Hp} : ∀ k : List Key, Reps K al H (k.map kV) (k.map kD)
  | [] => .nil
  | .inl i :: r => .cons (.int i) (reps_kD r)
  | .inr x :: r => .cons (.str x) (reps_kD r)
theorem reps_keys {K : W.Frag} {al : Addr -> Prop} {H : Hp} (ha : ∀ b ys, H b = some (.tup ys) -> al b) : ∀ {kvs : List (List Key × V)} {xs : List (List Key × Addr × Value)}, L2.KT H kvs xs -> Reps K al H (xs.map fun x => V.ref x.2.1) (keysL (kvs.map Prod.fst))
  | [], _, .nil => .nil
  | _ :: _, _, .cons h t => .cons (.tup (.inl ⟨ha _ _ h.2.1, .inl h.2.1⟩) (reps_kD _)) (reps_keys ha t)
theorem vals_keys : ∀ xs : List (List Key × Addr × Value), Vals (xs.map fun x => V.ref x.2.1) (xs.map fun x => Value.ref x.2.1)
  | [] => .nil
  | _ :: r => .cons rfl (vals_keys r)
theorem kt_len {H : Hp} : ∀ {kvs : List (List Key × V)} {xs : List (List Key × Addr × Value)}, L2.KT H kvs xs -> kvs.length = xs.length
  | [], _, .nil => rfl
  | _ :: _, _, .cons _ t => by rw [List.length_cons, List.length_cons, kt_len t]
theorem raw_of {P : Program} {w : World} {h : Heap} {d : Addr} {xs : List (List Key × Addr × Value)} (dd : h.DictOfH (tupleKind (mixKind P w)) d xs) : ∃ es ep, RawD h d es ep /\ es.toList.map (·.key) = xs.map fun x => Value.ref x.2.1 := by
  obtain ⟨o, es, ep, h1, h2, h3, h4, _⟩ := dd
  refine ⟨es, ep, ⟨o, h1, h2, h3⟩, ?_⟩
  rw [h4, List.map_map]
  rfl
section
variable {X : Cx} {E : XK} {e o k : Expr} {ta td ty : TE} {p1 pos : Pos}
theorem pe_sortedD (hc : X.calm = true) (he : PE X e ta) (hg : Gl X "sorted") (hm : X.mg "sorted" = none)
    (hs : starEach [e] X.env = (false, eval e X.env) :: starEach [] X.env := by rfl) (hpl : (backTo pos (starEach [] X.env)).any (·.1) = false := by rfl) :
    PE X (.Call (.Name "sorted" p1) [e] [] pos) (fun σ H Q => ta σ H fun x0 H1 => ∃ x, [x0] = [x] /\ ∃ (l : Addr) (kvs : List (List Key × V)) (al : Addr -> Prop), x = .ref l /\ H1 l = some (.dT kvs) /\ (∀ b ys, H1 b = some (.tup ys) -> al b) /\ homQ (keysL (kvs.map Prod.fst)) = true /\ kvs.length < 64 /\ ∀ p ws, H1 p = none -> Reps X.K al H1 ws (sortQL (keysL (kvs.map Prod.fst))) -> Q (.ref p) (upd H1 p (.lst ws))) := by
  intro pins s σ H Q I h
  refine wpAny_Call_Name_kw (ld_blt I hg hm bt_sorted ?_)
  have PA1 : PA X [e] (tCons ta tNil) := pa_cons he pa_nil hs
  refine PyProof.Rows.callWith_builtin1 (thn (PA1 pos pins s σ H (fun vs0 H1 => ∃ x, vs0 = [x] /\ ∃ (l : Addr) (kvs : List (List Key × V)) (al : Addr -> Prop), x = .ref l /\ H1 l = some (.dT kvs) /\ (∀ b ys, H1 b = some (.tup ys) -> al b) /\ homQ (keysL (kvs.map Prod.fst)) = true /\ kvs.length < 64 /\ ∀ p ws, H1 p = none -> Reps X.K al H1 ws (sortQL (keysL (kvs.map Prod.fst))) -> Q (.ref p) (upd H1 p (.lst ws))) I h) fun us s1 ⟨vs0, H1, I1, r1, q1⟩ => ?_) hs hpl
  obtain ⟨x, rfl, l, kvs, al, rfl, hl, ha, hh, h64, q⟩ := q1
  obtain ⟨u, rfl, ru⟩ := vals1 r1
  obtain rfl : u = Value.ref l := ru
  obtain ⟨z, hd, xs, rel, dd⟩ := dt_of I1.hok hl
  obtain ⟨es, ep, raw, ek⟩ := raw_of dd
  obtain ⟨sg, hsg⟩ := homQ_all hh
  have rv := reps_keys (K := X.K) ha rel
  have vv := vals_keys xs
  have hlen := (kt_len rel)
  have lk : (keysL (kvs.map Prod.fst)).length = kvs.length := by unfold keysL; simp
  have lx : (xs.map fun x => Value.ref x.2.1).length = xs.length := List.length_map ..
  have le : es.size = xs.length := by
    have := congrArg List.length ek
    simpa using this
  have it := items_of I1 hsg rv vv
  generalize keysL (kvs.map Prod.fst) = ds at hh hsg rv it q lk
  have h64' : (xs.map fun x => Value.ref x.2.1).length < 64 := by omega
  have sl := sizeLine_eq
  refine srt_callC (A := X.A) (us := xs.map fun x => Value.ref x.2.1) (G := fun out => ∃ ws, Vals ws out.toList /\ Reps X.K al H1 ws (sortQL ds)) (I1.ok.hd hc) (fun B Q' hB h' => raw_collect hB hd raw (by omega) (by rw [ek]; exact h')) (by omega) (fun h2 => ⟨xs.map fun x => V.ref x.2.1, by simpa using vv, ?_⟩) (fun h2 t kp B => ?_) fun out p h' tk e ho hG hp kp he => ?_
  · have : sortQL ds = ds := by
      match ds, lk with
      | [], _ => rfl
      | [d], _ => rfl
      | _ :: _ :: r, w => simp at w; omega
    rw [this]; exact rv
  · have := srt_items (prog := X.prog) (w := X.w) (s := t) (it.keep kp) hh h2 h64' B
    refine wpAny_mono this (fun κ t' hk => ⟨hk.1, wpAny_mono hk.2 (fun r t'' hr => ⟨hr.1, hr.2.1, hr.2.2.1, ?_⟩) fun _ _ x => x⟩) fun _ _ x => x
    obtain ⟨p, g1, g2, g3⟩ := hr.2.2.2
    have al1 := inr_all g1
    refine ⟨p.toList.map fun i => (xs.map fun x => V.ref x.2.1).getD i .non, ?_, ?_⟩
    · rw [g2]; exact vals_pick vv _ fun i hi => by have := al1 i hi; omega
    · rw [← g3]; exact reps_pick rv _ al1
  · obtain ⟨ws, hw, hr⟩ := hG
    have lw : ws.length <= sizeLine := by
      have := hw.length
      simp only [Array.length_toList] at this
      omega
    have I2 : Inv X pins σ (upd H1 p (.lst ws)) { s1 with heap := h', toks := tk } :=
      I1.laid (t' := tk) kp hp (show ObjOk X.prog X.w _ _ _ (.lst ws) from ⟨lw, out.toList, e, hw, by rw [Array.toArray_toList]; exact he⟩)
    exact ⟨.ref p, _, I2, rfl, q p ws (I1.hok.fresh hp) hr⟩
theorem call_listKeys (hc : X.calm = true) : CallR X (.type "list") (fun xs0 H1 Q => ∃ (l : Addr) (kvs : List (List Key × V)) (al : Addr -> Prop), xs0 = [.ref l] /\ H1 l = some (.dT kvs) /\ (∀ b ys, H1 b = some (.tup ys) -> al b) /\ ∀ p ws, H1 p = none -> Reps X.K al H1 ws (keysL (kvs.map Prod.fst)) -> Q (.ref p) (upd H1 p (.lst ws))) := by
  intro pins s1 σ H1 xs0 us Q I1 r1 h
  obtain ⟨l, kvs, al, rfl, hl, ha, q⟩ := h
  obtain ⟨u, rfl, ru⟩ := vals1 r1
  obtain rfl : u = Value.ref l := ru
  obtain ⟨z, hd, xs, rel, dd⟩ := dt_of I1.hok hl
  obtain ⟨es, ep, raw, ek⟩ := raw_of dd
  have rv := reps_keys (K := X.K) ha rel
  have vv := vals_keys xs
  have hlen := (kt_len rel)
  have le : es.size = xs.length := by
    have := congrArg List.length ek
    simpa using this
  refine kdl_call (raw_src (es := es) (ep := ep) hd) (I1.ok.hd hc) raw (by omega) fun h' tk acc c kp he hacc => ?_
  have ea := raw_keys hacc
  rw [ek] at ea
  have I2 : Inv X pins σ (upd H1 s1.heap.objs.size (.lst (xs.map fun x => V.ref x.2.1))) { s1 with heap := h', toks := tk } :=
    I1.laid (t' := tk) kp (Nat.le_refl _) (show ObjOk X.prog X.w _ _ _ (.lst _) from ⟨by rw [List.length_map]; omega, acc.toList, c, by rw [ea]; exact vv, by rw [Array.toArray_toList]; exact he⟩)
  exact ⟨.ref _, _, I2, rfl, q _ _ (I1.hok.fresh (Nat.le_refl _)) rv⟩
theorem key_sq {pins : List (Addr × Obj)} {s : Shared} {σ : St} {H : Hp} (I : Inv X pins σ H s) {b : Addr} {ks : List Key} (h : SqT X.K H b (ks.map kV)) : (tupleKind (mixKind X.prog X.w)).is s.heap ks b := by
  obtain ⟨its, r, ⟨o, h1, h2, n, h3⟩, _⟩ := I.tuple h
  exact ⟨o, its.toArray, n, h1, h2, h3, by simpa using items_are r⟩
theorem pe_dgetS (hu : X.A.units + 1 < cLine) (ho : PE X o td) (hi : PE X k ty) (hs : NoSl k) : PE X (.Subscript o k pos) (fun σ H Q => td σ H fun x H1 => ty σ H1 fun y H2 => ∃ a b kvs ks v, x = .ref a /\ y = .ref b /\ Rd H2 a (.dT kvs) /\ SqT X.K H2 b (ks.map kV) /\ valV kvs ks = some v /\ Q v H2) := by
  intro pins s σ H Q I h
  refine subD_of PySem.F.slot_dict_getitem.lookup hs (thn (ho pins s σ H _ I h) fun u s1 ⟨x, H1, I1, rx, q1⟩ => thn (hi pins s1 σ H1 _ I1 q1) fun iv s2 ⟨y, H2, I2, ry, a, b, kvs, ks, v, ex, ey, e, hb, l, q2⟩ => ?_)
  subst ex ey
  obtain rfl : u = Value.ref a := rx
  obtain rfl : iv = Value.ref b := ry
  obtain ⟨z, hd, xs, rel, dd⟩ := dt_rd I2.hok e
  refine ⟨dd.typeIs, ?_⟩
  obtain ⟨w', hw, rw'⟩ := RelO.some_of (v := v) (o := (atKey xs ks).map (·.2)) (by rw [← l]; exact rel.val ks)
  obtain ⟨p, hp, hp2⟩ := Option.map_eq_some_iff.mp hw
  refine wpAny_getItem_heap (tupleKind_room_in1 hu) (key_sq I2 hb) dd hp ?_
  rw [hp2]
  exact ⟨v, H2, I2.tok _, rw', q2⟩
end
noncomputable def zDsort (fo : ZEv -> Sto -> RX Z) : ZEv -> Sto -> RX Z := fun ρ S => (fo ρ S).bind fun z S1 => match z with
  | .loc n => (match S1[n]?, S1[0]? with
    | some (Cell.dt kvs), some Cell.mk => if homQ (keysL (kvs.map Prod.fst)) = true /\ kvs.length < 64 then .ok (.d (.lst (sortQL (keysL (kvs.map Prod.fst))))) S1 else .bad
    | _, _ => .bad)
  | _ => .bad
noncomputable def zDlist (fo : ZEv -> Sto -> RX Z) : ZEv -> Sto -> RX Z := fun ρ S => (fo ρ S).bind fun z S1 => match z with
  | .loc n => (match S1[n]?, S1[0]? with
    | some (Cell.dt kvs), some Cell.mk => .ok (.d (.lst (keysL (kvs.map Prod.fst)))) S1
    | _, _ => .bad)
  | _ => .bad
noncomputable def zSort (f : ZEv -> Sto -> RX Z) : ZEv -> Sto -> RX Z := fun ρ S => (f ρ S).bind fun z S1 => match z with
  | .d (.lst ds) => if homQ ds = true /\ ds.length < 64 then .ok (.d (.lst (sortQL ds))) S1 else .bad
  | _ => .bad
noncomputable def zGetD (fo fk : ZEv -> Sto -> RX Z) : ZEv -> Sto -> RX Z := fun ρ S => (fo ρ S).bind fun z S1 => (fk ρ S1).bind fun y S2 => match z, y with
  | .loc n, .d (.tup ds) => (match keysZ ds, S2[n]? with
    | some k, some (.dt kvs) => (match valZ kvs k with
      | some z => .ok z S2
      | none => .bad)
    | _, _ => .bad)
  | _, _ => .bad
noncomputable def yClear (f : ZEv -> Sto -> RX Z) : ZEv -> Sto -> RTZ := fun ρ S => toZ (f ρ S) fun z S1 => match z with
  | .loc n => (match S1[n]? with
    | some (.li _) => .nx ρ (S1.set n (.li []))
    | _ => .bad)
  | _ => .bad
noncomputable def zAndV (a b : ZEv -> Sto -> RX Z) : ZEv -> Sto -> RX Z := fun ρ S => (a ρ S).bind fun x S1 => match x with
  | .d d => (upR (tT d) S1).bind fun c S2 => if c = true then b ρ S2 else .ok (.d d) S2
  | _ => .bad
section
variable {X : Cx} {E : XK} {b : Nat} {o k e a c : Expr} {rest : List Expr} {fo fk f fa fb : ZEv -> Sto -> RX Z} {pos p1 : Pos}
theorem RepK.keys {κ : Type} {K : W.Frag} {al : Addr -> Prop} {lo : Lo} {H : Hp} {us : List (κ × V)} {zs : List (κ × Z)} (r : RepK K al lo H us zs) : us.map Prod.fst = zs.map Prod.fst := by
  induction r with
  | nil => rfl
  | cons a _ ih => rw [List.map_cons, List.map_cons, ih]
theorem ze_dsorted (hc : X.calm = true) (hg : Gl X "sorted") (hm : X.mg "sorted" = none) (ho : ZE X E o fo)
    (hs : starEach [o] X.env = (false, eval o X.env) :: starEach [] X.env := by rfl) (hpl : (backTo pos (starEach [] X.env)).any (·.1) = false := by rfl) : ZE X E (.Call (.Name "sorted" p1) [o] [] pos) (zDsort fo) := by
  obtain ⟨to, po, ro⟩ := ho
  refine ⟨_, pe_sortedD hc po hg hm hs hpl, fun B al lo H σ ρ S Q s h => ro _ _ _ _ _ _ _ _ s (AftZ.mono (AftZ.split h) fun z al1 lo1 H1 S1 s1 x1 y1 h1 v rv => ⟨v, rfl, ?_⟩)⟩
  split at h1
  · rename_i n
    split at h1
    · rename_i kvs q q0
      split at h1
      · rename_i w
        obtain ⟨a, hn, rfl⟩ := rv
        obtain ⟨us, g1, g2⟩ := s1.cell hn q
        refine ⟨a, us, al1, rfl, g1, fun b ys hb => s1.st.tl q0 b _ hb (.inl ⟨ys, rfl⟩), by rw [g2.keys]; exact w.1, by rw [g2.length]; exact w.2, fun p ws hp hr => ?_⟩
        rw [g2.keys] at hr
        exact h1 al1 lo1 _ (s1.grow (same_upd hp)) (.of (same_upd (K := X.K) hp)) .refl _ (show RepZ X.K al1 lo1 _ (.ref p) (.d (.lst _)) from hr.lstNew hp (s1.fresh p hp))
      · exact h1.elim
    · exact h1.elim
  · exact h1.elim
theorem ze_dlist (hc : X.calm = true) (hg : Gl X "list") (hm : X.mg "list" = none) (hv : bootBuiltins "list" = some (.type "list")) (ho : ZE X E o fo)
    (hs : starEach [o] X.env = (false, eval o X.env) :: starEach [] X.env := by rfl) (hpl : (backTo pos (starEach [] X.env)).any (·.1) = false := by rfl) : ZE X E (.Call (.Name "list" p1) [o] [] pos) (zDlist fo) := by
  obtain ⟨to, po, ro⟩ := ho
  refine ⟨_, pe_callTy (call_listKeys hc) hg hm hv (pa_cons po pa_nil hs) (by decide) (by decide) hs hpl, fun B al lo H σ ρ S Q s h => ro _ _ _ _ _ _ _ _ s (AftZ.mono (AftZ.split h) fun z al1 lo1 H1 S1 s1 x1 y1 h1 v rv => ?_)⟩
  split at h1
  · rename_i n
    split at h1
    · rename_i kvs q q0
      obtain ⟨a, hn, rfl⟩ := rv
      obtain ⟨us, g1, g2⟩ := s1.cell hn q
      refine ⟨a, us, al1, rfl, g1, fun b ys hb => s1.st.tl q0 b _ hb (.inl ⟨ys, rfl⟩), fun p ws hp hr => ?_⟩
      rw [g2.keys] at hr
      exact h1 al1 lo1 _ (s1.grow (same_upd hp)) (.of (same_upd (K := X.K) hp)) .refl _ (show RepZ X.K al1 lo1 _ (.ref p) (.d (.lst _)) from hr.lstNew hp (s1.fresh p hp))
    · exact h1.elim
  · exact h1.elim
theorem ze_sort (hg : Gl X "sorted") (hm : X.mg "sorted" = none) (ho : ZE X E o fo)
    (hs : starEach [o] X.env = (false, eval o X.env) :: starEach [] X.env := by rfl) (hpl : (backTo pos (starEach [] X.env)).any (·.1) = false := by rfl) : ZE X E (.Call (.Name "sorted" p1) [o] [] pos) (zSort fo) := by
  obtain ⟨to, po, ro⟩ := ho
  refine ⟨_, pe_sortedQ po hg hm hs hpl, fun B al lo H σ ρ S Q s h => ro _ _ _ _ _ _ _ _ s (AftZ.mono (AftZ.split h) fun z al1 lo1 H1 S1 s1 x1 y1 h1 v rv => ⟨v, rfl, ?_⟩)⟩
  split at h1
  · rename_i ds
    split at h1
    · rename_i w
      obtain ⟨l, vs, rfl, hl, rvs⟩ := Rep.lstIn (show Rep X.K al1 H1 v (.lst ds) from rv)
      exact ⟨l, vs, ds, al1, rfl, hl, rvs, w.1, w.2, fun p ws hp hr => h1 al1 lo1 _ (s1.grow (same_upd hp)) (.of (same_upd (K := X.K) hp)) .refl _ (show RepZ X.K al1 lo1 _ (.ref p) (.d (.lst _)) from hr.lstNew hp (s1.fresh p hp))⟩
    · exact h1.elim
  · exact h1.elim
theorem ze_dgetD (hu : X.A.units + 64 < cLine) (ho : ZE X E o fo) (hk : ZE X E k fk) (hs : NoSl k := by exact fun _ _ => rfl) : ZE X E (.Subscript o k pos) (zGetD fo fk) := by
  obtain ⟨to, po, ro⟩ := ho
  obtain ⟨tk, pk, rk⟩ := hk
  refine ⟨_, pe_dgetS (by omega) po pk hs, fun B al lo H σ ρ S Q s h => ro _ _ _ _ _ _ _ _ s (AftZ.mono (AftZ.split h) fun z al1 lo1 H1 S1 s1 x1 y1 h1 v rv => rk _ _ _ _ _ _ _ _ s1 (AftZ.mono (AftZ.split h1) fun y al2 lo2 H2 S2 s2 x2 y2 h2 u ru => ?_))⟩
  split at h2
  · rename_i n ds
    split at h2
    · rename_i k0 kvs qk q
      split at h2
      · rename_i z0 q0
        obtain ⟨a, hn, rfl⟩ := rv
        obtain ⟨b, vs, rfl, hb, rvs⟩ := Rep.tupIn (show Rep X.K al2 H2 u (.tup ds) from ru)
        have ev := keysZ_rep rvs qk
        subst ev
        obtain ⟨us, g1, g2⟩ := s2.cell (y2 _ _ hn) q
        obtain ⟨w, e1, e2⟩ := g2.val q0
        exact ⟨a, b, us, k0, w, rfl, rfl, .inl g1, hb, e1, h2 al2 lo2 H2 s2 .refl .refl w e2⟩
      · exact h2.elim
    · exact h2.elim
  · exact h2.elim
theorem zs_clear {apos cpos : Pos} (ho : ZE X E o fo)
    (hbase : attributeBase o "clear" X.env (eval o X.env) = eval o X.env := by rfl) (hline : (apos.endLine == cpos.line) = true := by rfl)
    (hsw : swapsWith (.Call (.Attribute o "clear" apos) [] [] cpos) none pos.line X.env = pure false := by rfl) :
    ZS X E b (.Expr (.Call (.Attribute o "clear" apos) [] [] cpos) pos) (yClear fo) := by
  obtain ⟨t, p, r⟩ := ho
  refine ⟨_, ps_expr (pe_bm0 PySem.F.plainAttrs_list PySem.F.slot_list_clear PySem.F.type_list_clear mt_clear p hbase hline) hsw, fun B hb al lo H σ ρ S D s h => r _ _ _ _ _ _ _ _ s (AftZ.mono (okZ.ofX h) fun z al1 lo1 H1 S1 s1 x1 y1 h1 u ru => ?_)⟩
  split at h1
  · rename_i n
    split at h1
    · rename_i zs q1
      obtain ⟨a, hn, rfl⟩ := ru
      obtain ⟨ws, g2, g3⟩ := s1.cell hn q1
      obtain ⟨s2, x3⟩ := s1.write hn (o := .lst []) (c := .li []) nt_lst (fun q w => by unfold CodeO at w; cases w) ⟨_, upd_same, .nil⟩ nofun
      exact ⟨.inl ⟨rfl, ws, .inl (.inl g2)⟩, a, ws, rfl, rfl, g2, h1 _ _ _ _ x3 s2⟩
    · exact h1.elim
  · exact h1.elim
theorem pe_andV {ta tb : TE} (ha : PE X a ta) (hb : PE X (.BoolOp .And (c :: rest) pos) tb) : PE X (.BoolOp .And (a :: c :: rest) pos) (fun σ H Q => ta σ H fun x H1 => ∃ k, TruV X.K x H1 k /\ if k = true then tb σ H1 Q else Q x H1) := by
  intro pins s σ H Q I h
  refine BoolOp_and (thn (ha pins s σ H _ I h) fun v s1 ⟨x, H1, I1, r1, q1⟩ => ?_)
  obtain ⟨k, hk, q⟩ := q1
  refine thn (tru_ok pins s1 σ H1 x v (fun c H2 => c = k /\ H2 = H1) I1 r1 ⟨k, hk, rfl, rfl⟩) fun c s2 ⟨H2, I2, e1, e2⟩ => ?_
  subst e1 e2
  cases c with
  | false => exact ⟨x, H2, I2, r1, by simpa using q⟩
  | true => exact hb pins s2 σ H2 Q I2 (by simpa using q)
theorem ze_and (ha : ZE X E a fa) (hb : ZE X E (.BoolOp .And (c :: rest) pos) fb) : ZE X E (.BoolOp .And (a :: c :: rest) pos) (zAndV fa fb) := by
  obtain ⟨ta, pa, ra⟩ := ha
  obtain ⟨tb, pb, rb⟩ := hb
  refine ⟨_, pe_andV pa pb, fun B al lo H σ ρ S Q s h => ra _ _ _ _ _ _ _ _ s (AftZ.mono (AftZ.split h) fun x al1 lo1 H1 S1 s1 x1 y1 h1 v rv => ?_)⟩
  split at h1
  · rename_i d
    obtain ⟨k, hk, q⟩ := rep_tT rv (AftZ.toAft s1 (AftZ.split h1))
    refine ⟨k, hk, ?_⟩
    cases k with
    | false => rw [if_neg (by simp)] at q ⊢; exact q al1 lo1 H1 s1 .refl .refl v rv
    | true => rw [if_pos rfl] at q ⊢; exact rb _ _ _ _ _ _ _ _ s1 q
  · exact h1.elim
theorem ze_one {op : BoolOp} (ha : ZE X E a fa) : ZE X E (.BoolOp op [a] pos) fa := let ⟨t, p, r⟩ := ha; ⟨t, fun pins s σ H Q I h => BoolOp_one (p pins s σ H Q I h), r⟩
end
noncomputable def geP (i j m n : Int) : Bool := if i = m then decide (n <= j) else decide (m <= i)
section
variable {prog : Program} {w : World} {A : Around} {E : Value -> Shared -> Prop} {s : Shared}
theorem ge_tree {a b : Addr} {oa ob : Obj} {na nb : Nat} {i j m n : Int} {t1 t2 t3 t4 : Tok} {P : PySem.Fin -> Shared -> Prop} (hoa : s.heap.get? a = some oa) (hda : oa.data = .seq #[.int i t1, .int j t2] na) (hob : s.heap.get? b = some ob) (hcb : ob.cls = .type "tuple")
    (hdb : ob.data = .seq #[.int m t3, .int n t4] nb) (h : P (.done (.ret (.bool (geP i j m n)))) s) : wpAny (model prog w) A (Builtin.«tuple.__ge__» ⟨[.ref a, .ref b], []⟩) P E s := by
  show wpAny _ _ (isInstance (.ref b) (.type "tuple") >>= _) _ _ s
  refine wpAny_bind (wpAny_isInstance ⟨ob, hob, hcb⟩ isSubtype_tuple_tuple ?_)
  simp only [Bool.not_true, Bool.false_eq_true, if_false]
  refine wpAny_bind (wpAny_tupleItemsOf hoa hda ?_)
  refine wpAny_bind (wpAny_tupleItemsOf hob hdb ?_)
  refine wpAny_bind ?_
  refine wpAny_forIn_list _ (fun rest r s' => r.1 = none /\ s' = s /\ ((rest = [(Value.int i t1, Value.int m t3), (Value.int j t2, Value.int n t4)]) \/ (i = m /\ rest = [(Value.int j t2, Value.int n t4)]) \/ (i = m /\ j = n /\ rest = []))) _ ?_ ?_ _ _ ⟨rfl, rfl, .inl rfl⟩
  · rintro ⟨u, v⟩ rest r s' ⟨hr, rfl, hz⟩
    rcases hz with hz | ⟨e1, hz⟩ | ⟨_, _, hz⟩
    · cases hz
      refine wpAny_bind (wpAny_eqBool_int ?_)
      by_cases e : i = m
      · rw [show (i == m) = true by simpa using e]
        simp only [Bool.not_true, Bool.false_eq_true, if_false]
        exact wpAny_pure ⟨rfl, rfl, .inr (.inl ⟨e, by first | rfl | trivial⟩)⟩
      · rw [show (i == m) = false by simpa using e]
        simp only [Bool.not_false, if_true]
        refine wpAny_bind (wpAny_rule (wpAny_bind ?_))
        refine PyProof.Rows.ge_int ?_
        unfold geP at h
        rw [if_neg e] at h
        exact wpAny_bind (wpAny_pure (wpAny_pure (wpAny_pure h)))
    · cases hz
      refine wpAny_bind (wpAny_eqBool_int ?_)
      by_cases e : j = n
      · rw [show (j == n) = true by simpa using e]
        simp only [Bool.not_true, Bool.false_eq_true, if_false]
        exact wpAny_pure ⟨rfl, rfl, .inr (.inr ⟨e1, e, by first | rfl | trivial⟩)⟩
      · rw [show (j == n) = false by simpa using e]
        simp only [Bool.not_false, if_true]
        refine wpAny_bind (wpAny_rule (wpAny_bind ?_))
        refine PyProof.Rows.ge_int ?_
        unfold geP at h
        rw [if_pos e1] at h
        exact wpAny_bind (wpAny_pure (wpAny_pure (wpAny_pure h)))
    · cases hz
  · rintro ⟨r1, r2⟩ s' ⟨hr, rfl, hz⟩
    simp only at hr
    subst hr
    rcases hz with hz | ⟨_, hz⟩ | ⟨e1, e2, _⟩
    · cases hz
    · cases hz
    · refine wpAny_pure ?_
      have : geP i j m n = true := by unfold geP; rw [if_pos e1]; exact decide_eq_true (by omega)
      rw [this] at h
      exact h
end
noncomputable def gePD : D -> D -> R D
  | .tup [.int i, .int j], .tup [.int m, .int n] => .ok (.bl (geP i j m n))
  | _, _ => .bad
theorem op_gePD {X : Cx} {E : XK} (hu : X.A.units + 64 < cLine) : OpD X E (compareOp .GtE) gePD := by
  refine ⟨fun x y H Q => ∃ a b i j m n, x = .ref a /\ y = .ref b /\ SqT X.K H a [.int i, .int j] /\ SqT X.K H b [.int m, .int n] /\ Q (.bl (geP i j m n)) H, ?_, fun al H x y dx dy Q fr rx ry h => ?_⟩
  · intro pins s σ H x y v u Q I rx ry h
    obtain ⟨a, b, i, j, m, n, rfl, rfl, ha, hb, q⟩ := h
    cases rx; cases ry
    obtain ⟨its, r1, ⟨oa, a1, a2, na, a3⟩, _⟩ := I.tuple ha
    obtain ⟨its2, r2, ⟨ob, b1, b2, nb, b3⟩, _⟩ := I.tuple hb
    obtain ⟨u1, its', rfl, ⟨t1, rfl⟩, r1'⟩ : ∃ u1 its', its = u1 :: its' /\ (∃ t, u1 = Value.int i t) /\ Vals [.int j] its' := by cases r1 with | cons p q => exact ⟨_, _, rfl, p, q⟩
    obtain ⟨u2, rfl, ⟨t2, rfl⟩⟩ : ∃ u2, its' = [u2] /\ ∃ t, u2 = Value.int j t := by cases r1' with | cons p q => cases q; exact ⟨_, rfl, p⟩
    obtain ⟨u3, its2', rfl, ⟨t3, rfl⟩, r2'⟩ : ∃ u1 its', its2 = u1 :: its' /\ (∃ t, u1 = Value.int m t) /\ Vals [.int n] its' := by cases r2 with | cons p q => exact ⟨_, _, rfl, p, q⟩
    obtain ⟨u4, rfl, ⟨t4, rfl⟩⟩ : ∃ u2, its2' = [u2] /\ ∃ t, u2 = Value.int n t := by cases r2' with | cons p q => cases q; exact ⟨_, rfl, p⟩
    show wpAny _ _ (richCompare .GtE (.ref a) (.ref b)) _ _ s
    refine wpAny_richCompare_same_room (op := .GtE) (T := "tuple") ⟨oa, a1, a2⟩ ⟨ob, b1, b2⟩ PySem.F.slot_tuple_ge (wpAny_call_entry PySem.F.slot_tuple_ge ⟨oa, a1, a2⟩ PySem.F.entry_tuple_ge (ge_tree a1 a3 b1 b2 b3 ⟨_, rfl, (fun e => nomatch e), ?_⟩) (PySem.F.args_tuple_ge_2 _ _)) (by omega)
    exact fin_bl I q rfl
  · unfold gePD at h
    split at h
    · rename_i i j m n
      obtain ⟨a, vs, rfl, a1, a2⟩ := rx.tupIn
      obtain ⟨b, ws, rfl, b1, b2⟩ := ry.tupIn
      have e1 : vs = [.int i, .int j] := by
        cases a2 with | cons p q => cases q with | cons p' q' => cases q'; cases p; cases p'; rfl
      have e2 : ws = [.int m, .int n] := by
        cases b2 with | cons p q => cases q with | cons p' q' => cases q'; cases p; cases p'; rfl
      subst e1 e2
      exact ⟨a, b, i, j, m, n, rfl, rfl, a1, b1, h H (.refl H) _ (.bl _)⟩
    · exact h.elim
noncomputable def catTD : D -> D -> R D
  | .tup (x :: xs), .tup (y :: ys) => if (x :: xs).length + (y :: ys).length <= sizeLine then .ok (.tup ((x :: xs) ++ (y :: ys))) else .bad
  | _, _ => .bad
theorem op_catTD {X : Cx} {E : XK} : OpD X E (binaryOp .Add) catTD := by
  refine ⟨_, op_catT, fun al H x y dx dy Q fr rx ry h => ?_⟩
  unfold catTD at h
  split at h
  · rename_i d ds d' ds'
    split at h
    · rename_i z
      obtain ⟨a, vs, rfl, h1, h2⟩ := rx.tupIn
      obtain ⟨b, ws, rfl, h3, h4⟩ := ry.tupIn
      have l1 := h2.length
      have l2 := h4.length
      refine ⟨a, b, vs, ws, rfl, rfl, h1, h3, fun e => by rw [e] at l1; simp at l1, by rw [l1, l2]; exact z, fun e => by rw [e] at l2; simp at l2, fun _ p hp => h _ (same_upd hp) _ ((h2.append h4).tupNew hp (fr p hp))⟩
    · exact h.elim
  · exact h.elim
end P2
namespace WP
open PySem L2 P2
structure Ad where
  WeatherError : Addr := 0
  NoFraction : Addr := 0
  NoText : Addr := 0
  Twice : Addr := 0
  TooMany : Addr := 0
  NoRow : Addr := 0
  Tokens : Addr := 0
  Book : Addr := 0
  Sight : Addr := 0
  Desk : Addr := 0
  fI_row : Addr := 0
  fI_mast : Addr := 0
  fI_most : Addr := 0
  isx : Addr -> Value -> Option Bool := fun _ _ => none
end WP
namespace W12
open PySem L2 P2 WP
noncomputable def at_ (i : Nat) : Stmt := PySem.Challenge.pw_weather_k12_whole_book_in_any_order.main.body.getD i (.Pass ⟨0, 0, 0, 0⟩)
noncomputable abbrev s_Book___init : Stmt := inClass (at_ 1) 0
noncomputable abbrev s_Book_put : Stmt := inClass (at_ 1) 1
noncomputable abbrev s_Book_kept : Stmt := inClass (at_ 1) 2
noncomputable abbrev s_Book_of_mast : Stmt := inClass (at_ 1) 3
noncomputable abbrev sl_cell_at : Stmt := at_ 3
noncomputable abbrev sl_mast : Stmt := at_ 4
noncomputable abbrev sl_one : Stmt := at_ 5
noncomputable abbrev sl_told : Stmt := at_ 6
noncomputable abbrev sl_put : Stmt := at_ 7
noncomputable abbrev sl_is : Stmt := at_ 8
noncomputable abbrev s_law : Stmt := at_ 9
structure Tx (K : PySem.W.Frag) (mg : Str -> Option Value) (a : Ad) : Prop where
  b_all : mg "all" = none
  b_any : mg "any" = none
  b_bool : mg "bool" = none
  b_int : mg "int" = none
  b_isinstance : mg "isinstance" = none
  b_len : mg "len" = none
  b_list : mg "list" = none
  b_range : mg "range" = none
  b_reversed : mg "reversed" = none
  b_sorted : mg "sorted" = none
  b_tuple : mg "tuple" = none
  c_Book : mg "Book" = some (.ref a.Book)
  k_Book : Cls K a.Book
  n_Book_latest : NoAttr K a.Book "latest"
  isok : IsOk K a.isx
section
variable {P : Program} {w : World} {K : PySem.W.Frag} {mg : Str -> Option Value} {base : Heap} {f : Addr} {fd : FuncData}
variable {Fl_cell_at Fl_is Fl_mast Fl_one : List D -> R D} {Z_Book___init Z_Book_kept Z_Book_of_mast Z_Book_put Zl_put Zl_told : List Z -> Sto -> RX Z}
local macro_rules | `(tactic| walk_at "sc") => `(tactic| exact ⟨rfl, rfl, rfl, by decide +kernel, rfl, by decide +kernel, by decide +kernel⟩)
theorem sc_Book___init : FnScope ["self"] ["self"] (defScope s_Book___init) := by walk_at "sc"
noncomputable def g_Book___init (a : Ad) (b : Nat) : ZEv -> Sto -> RTZ := (yFld a.Book (zV 0) "latest" zNewT)
theorem ok_Book___init {a : Ad} {dV : Value} (T : Tx K mg a) (F : FunD K "__init__" "Book.__init__" s_Book___init dV f fd) :
    FnOk P w K mg base (CXx P w) 1 f fd ["self"] (spZ 1 K fun zs S => finZ (g_Book___init a S.length (startZ 1 zs) S)) :=
  fn_denM F sc_Book___init fun b cdv A outer s H E hr => (zss_one (zs_fld T.k_Book T.n_Book_latest (ze_var 0) ze_dnewT))
theorem sc_Book_put : FnScope ["self", "reading", "key", "told"] ["self", "reading"] (defScope s_Book_put) := by walk_at "sc"
noncomputable def g_Book_put (a : Ad) (b : Nat) : ZEv -> Sto -> RTZ := (ySeq (ySet 2 (zKey (zCons (zD (d2 ixD (dV 1) (dC (.int 1)))) (zCons (zD (d2 ixD (dV 1) (dC (.int 0)))) zNil))))
    (ySeq (ySet 3 (zD (dA mkT (aCons (d2 ixD (dV 1) (dC (.int 2))) (aCons (d2 ixD (dV 1) (dC (.int 3))) aNil)))))
    (ySeq (yIf (zAndB (zInT (zV 2) (zFld a.Book (zV 0) "latest")) (zTst tB (z2 gePD (zGetT (zFld a.Book (zV 0) "latest") (zV 2)) (zD (dV 3))))) (yRet (zD (dC (.bl false)))) yNil)
    (ySeq (yDputT (zFld a.Book (zV 0) "latest") (zV 2) (zD (dV 3)))
    (yRet (zD (dC (.bl true))))))))
theorem ok_Book_put {a : Ad} {dV : Value} (T : Tx K mg a) (F : FunD K "put" "Book.put" s_Book_put dV f fd) :
    FnOk P w K mg base (CXx P w) 1 f fd ["self", "reading"] (spZ 2 K fun zs S => finZ (g_Book_put a S.length (startZ 4 zs) S)) :=
  fn_denM F sc_Book_put fun b cdv A outer s H E hr => (zss_cons (zs_set 2 sc_Book_put.nd rfl (Or.inl rfl) (ze_key (za_cons (ze_lift (de_ix ix_D (de_var 1) de_int)) (za_cons (ze_lift (de_ix ix_D (de_var 1) de_int)) za_nil))))
    (zss_cons (zs_set 3 sc_Book_put.nd rfl (Or.inl rfl) (ze_lift (de_tup (da_cons (de_ix ix_D (de_var 1) de_int) (da_cons (de_ix ix_D (de_var 1) de_int) da_nil)))))
    (zss_cons (zs_if (ZW.zt (zw_and (zt_dinT hr.units (ze_var 2) (ze_fld T.k_Book T.n_Book_latest (ze_var 0))) (zw_and1 (zt_cmp (op_gePD hr.units) (ze_dgetT hr.units (ze_fld T.k_Book T.n_Book_latest (ze_var 0)) (ze_var 2)) (ze_lift (de_var 3)))))) (zss_one (zs_ret (ze_lift de_bl))) zss_nil)
    (zss_cons (zs_dputT hr.units (ze_fld T.k_Book T.n_Book_latest (ze_var 0)) (ze_var 2) (ze_lift (de_var 3)))
    (zss_one (zs_ret (ze_lift de_bl)))))))
theorem sc_Book_kept : FnScope ["self"] ["self"] (defScope s_Book_kept) := by walk_at "sc"
noncomputable def g_Book_kept (a : Ad) (b : Nat) : ZEv -> Sto -> RTZ := (yRet (zComp (zItL (zDsort (zFld a.Book (zV 0) "latest"))) [0] zYes (z2 catTD (zD (dA mkT (aCons (d2 ixD (dV 0) (dC (.int 1))) (aCons (d2 ixD (dV 0) (dC (.int 0))) aNil)))) (zGetD (zFld a.Book (zV 1) "latest") (zD (dV 0))))))
theorem ok_Book_kept {a : Ad} {dV : Value} (T : Tx K mg a) (F : FunD K "kept" "Book.kept" s_Book_kept dV f fd) :
    FnOk P w K mg base (CXx P w) 1 f fd ["self"] (spZ 1 K fun zs S => finZ (g_Book_kept a S.length (startZ 1 zs) S)) :=
  fn_denM F sc_Book_kept fun b cdv A outer s H E hr => (zss_one (zs_ret (ze_comp1 (x := "key") (y := "self") 0 [(".0", .local), ("key", .local), ("self", .cell)] rfl (zi_lst (ze_dsorted rfl rfl T.b_sorted (ze_fld T.k_Book T.n_Book_latest (ze_var 0)))) (fun _ _ _ _ => (pg_name (i := 0) (show List.Nodup (["key", "self"] : List Str) from by decide +kernel) rfl (Or.inl rfl))) (fun _ _ _ _ => zf_nil) (fun _ _ _ _ => (ze_op op_catTD (ze_lift (de_tup (da_cons (de_ix ix_D (de_var 0) de_int) (da_cons (de_ix ix_D (de_var 0) de_int) da_nil)))) (ze_dgetD hr.units (ze_fld T.k_Book T.n_Book_latest (ze_var 1)) (ze_lift (de_var 0))))) rfl (by decide +kernel) (by decide +kernel) rfl rfl rfl rfl rfl (by decide +kernel) (by decide +kernel))))
theorem sc_Book_of_mast : FnScope ["self", "mast"] ["self", "mast"] (defScope s_Book_of_mast) := by walk_at "sc"
noncomputable def g_Book_of_mast (a : Ad) (Z_Book_kept : List Z -> Sto -> RX Z) (b : Nat) : ZEv -> Sto -> RTZ := (yRet (zComp (zItL (zFrz (zMeth a.Book "kept" Z_Book_kept [] (zV 0) zNil))) [1] (zB (b1 tB (d2 eqSD (d2 ixD (dV 0) (dC (.int 0))) (dV 1)))) (zD (dV 0))))
theorem ok_Book_of_mast {a : Ad} {dV : Value} (T : Tx K mg a) (F : FunD K "of_mast" "Book.of_mast" s_Book_of_mast dV f fd)
    (h_Book_kept : HasM P w K mg base 1 a.Book "kept" ["self"] [] (spZ 1 K Z_Book_kept)) :
    FnOk P w K mg base (CXx P w) 2 f fd ["self", "mast"] (spZ 2 K fun zs S => finZ (g_Book_of_mast a Z_Book_kept S.length (startZ 2 zs) S)) :=
  fn_denM F sc_Book_of_mast fun b cdv A outer s H E hr => (zss_one (zs_ret (ze_comp1 (x := "reading") (y := "mast") 1 [(".0", .local), ("reading", .local), ("mast", .cell)] rfl (zi_lst (ze_frz (ze_meth0 h_Book_kept T.k_Book hr passX (ze_var 0) rfl))) (fun _ _ _ _ => (pg_name (i := 0) (show List.Nodup (["reading", "mast"] : List Str) from by decide +kernel) rfl (Or.inl rfl))) (fun _ _ _ _ => zf_one (zt_lift (dt_cmp op_eqSD (de_ix ix_D (de_var 0) de_int) (de_var 1)))) (fun _ _ _ _ => (ze_lift (de_var 0))) rfl (by decide +kernel) (by decide +kernel) rfl rfl rfl rfl rfl (by decide +kernel) (by decide +kernel))))
theorem scl_cell_at : FnScope ["_law_script", "_law_k"] ["_law_script", "_law_k"] (defScope sl_cell_at) := by walk_at "sc"
noncomputable def gl_cell_at (a : Ad) : Ev -> RT := (sSeq (sIf (b1 tB (d2 ltD (dV 1) (dA lenD (aCons (dV 0) aNil)))) (sRet (d2 ixD (dV 0) (dV 1))) sNil)
    (sRet (dC (.int 0))))
theorem okl_cell_at {a : Ad} (T : Tx K mg a) (F : Fun K "_law_cell_at" "_law_cell_at" sl_cell_at f fd) :
    FnOk P w K mg base (CXx P w) 1 f fd ["_law_script", "_law_k"] (spD 2 K fun ds => finT (gl_cell_at a (startD 2 ds))) :=
  fn_den F scl_cell_at fun cdv A outer s H E hr => (dss_cons (ds_if (dt_cmp op_ltD (de_var 1) (de_callB call_lenD rfl T.b_len bt_len (da_cons (de_var 0) da_nil))) (dss_one (ds_ret (de_ix ix_D (de_var 0) (de_var 1)))) dss_nil)
    (dss_one (ds_ret de_int)))
theorem scl_mast : FnScope ["_law_cell", "_law_k", "_law_size", "_law_place"] ["_law_cell", "_law_k"] (defScope sl_mast) := by walk_at "sc"
noncomputable def gl_mast (a : Ad) : Ev -> RT := (sSeq (sSet 2 (d2 addD (dC (.int 1)) (d2 modD (dV 0) (dC (.int 8)))))
    (sSeq (sSet 3 (d2 modD (d2 fdivD (dV 0) (dC (.int 8))) (dV 2)))
    (sRet (d2 addD (d2 addD (d2 mulUD (dC (.str "q")) (dV 3)) (d2 ixD (dC (.str "zbx")) (d2 modD (dV 1) (dC (.int 3))))) (d2 mulUD (dC (.str "q")) (d2 subD (d2 subD (dV 2) (dC (.int 1))) (dV 3)))))))
theorem okl_mast {a : Ad} (T : Tx K mg a) (F : Fun K "_law_mast" "_law_mast" sl_mast f fd) :
    FnOk P w K mg base (CXx P w) 1 f fd ["_law_cell", "_law_k"] (spD 2 K fun ds => finT (gl_mast a (startD 4 ds))) :=
  fn_den F scl_mast fun cdv A outer s H E hr => (dss_cons (ds_set 2 scl_mast.nd rfl (Or.inl rfl) (de_op op_addD de_int (de_op op_modD (de_var 0) de_int)))
    (dss_cons (ds_set 3 scl_mast.nd rfl (Or.inl rfl) (de_op op_modD (de_op op_fdivD (de_var 0) de_int) (de_var 2)))
    (dss_one (ds_ret (de_op op_addD (de_op op_addD (de_op op_mulUD de_str (de_var 3)) (de_ix ix_D de_str (de_op op_modD (de_var 1) de_int))) (de_op op_mulUD de_str (de_op op_subD (de_op op_subD (de_var 2) de_int) (de_var 3))))))))
theorem scl_one : FnScope ["_law_head", "_law_base", "_law_cell", "_law_mixed", "_law_time", "_law_turn", "_law_number"] ["_law_head", "_law_base", "_law_cell"] (defScope sl_one) := by walk_at "sc"
noncomputable def gl_one (a : Ad) (Fl_mast : List D -> R D) : Ev -> RT := (sSeq (sSet 3 (d2 modD (d2 mulUD (d2 modD (dV 2) (dC (.int 65521))) (dC (.int 48271))) (dC (.int 65519))))
    (sSeq (sSet 4 (d2 addD (dV 1) (d2 modD (d2 fdivD (dV 3) (dC (.int 3))) (dC (.int 6)))))
    (sSeq (sIf (b1 tB (d2 eqSD (d2 modD (d2 fdivD (dV 3) (dC (.int 18))) (dC (.int 5))) (dC (.int 4)))) (sSet 4 (d2 modD (d2 fdivD (dV 2) (dC (.int 7))) (d2 addD (d2 powD (dC (.int 10)) (dC (.int 9))) (dC (.int 1))))) sNil)
    (sSeq (sSet 5 (d2 modD (d2 fdivD (dV 3) (dC (.int 90))) (dC (.int 3))))
    (sSeq (sIf (b1 tB (d2 eqSD (d2 modD (d2 fdivD (dV 3) (dC (.int 270))) (dC (.int 5))) (dC (.int 4)))) (sSet 5 (d2 modD (d2 fdivD (dV 2) (dC (.int 11))) (d2 addD (d2 powD (dC (.int 10)) (dC (.int 9))) (dC (.int 1))))) sNil)
    (sSeq (sSet 6 (d2 subD (d2 modD (dV 2) (dC (.int 5))) (dC (.int 2))))
    (sSeq (sIf (b1 tB (d2 eqSD (d2 modD (d2 fdivD (dV 2) (dC (.int 5))) (dC (.int 3))) (dC (.int 0)))) (sSet 6 (d2 addD (d2 subD (d2 modD (d2 fdivD (dV 2) (dC (.int 15))) (d2 subD (d2 mulUD (dC (.int 2)) (d2 powD (dC (.int 10)) (dC (.int 60)))) (dC (.int 1)))) (d2 powD (dC (.int 10)) (dC (.int 60)))) (dC (.int 1)))) sNil)
    (sRet (dA mkT (aCons (dA Fl_mast (aCons (dV 0) (aCons (dV 3) aNil))) (aCons (dV 4) (aCons (dV 5) (aCons (dV 6) aNil)))))))))))))
theorem okl_one {a : Ad} (T : Tx K mg a) (F : Fun K "_law_one" "_law_one" sl_one f fd)
    (hl_mast : Has P w K mg base (CXx P w) 1 "_law_mast" ["_law_cell", "_law_k"] (spD 2 K Fl_mast)) :
    FnOk P w K mg base (CXx P w) 2 f fd ["_law_head", "_law_base", "_law_cell"] (spD 3 K fun ds => finT (gl_one a Fl_mast (startD 7 ds))) :=
  fn_den F scl_one fun cdv A outer s H E hr => (dss_cons (ds_set 3 scl_one.nd rfl (Or.inl rfl) (de_op op_modD (de_op op_mulUD (de_op op_modD (de_var 2) de_int) de_int) de_int))
    (dss_cons (ds_set 4 scl_one.nd rfl (Or.inl rfl) (de_op op_addD (de_var 1) (de_op op_modD (de_op op_fdivD (de_var 3) de_int) de_int)))
    (dss_cons (ds_if (dt_cmp op_eqSD (de_op op_modD (de_op op_fdivD (de_var 3) de_int) de_int) de_int) (dss_one (ds_set 4 scl_one.nd rfl (Or.inl rfl) (de_op op_modD (de_op op_fdivD (de_var 2) de_int) (de_op op_addD (de_op op_powD de_int de_int) de_int)))) dss_nil)
    (dss_cons (ds_set 5 scl_one.nd rfl (Or.inl rfl) (de_op op_modD (de_op op_fdivD (de_var 3) de_int) de_int))
    (dss_cons (ds_if (dt_cmp op_eqSD (de_op op_modD (de_op op_fdivD (de_var 3) de_int) de_int) de_int) (dss_one (ds_set 5 scl_one.nd rfl (Or.inl rfl) (de_op op_modD (de_op op_fdivD (de_var 2) de_int) (de_op op_addD (de_op op_powD de_int de_int) de_int)))) dss_nil)
    (dss_cons (ds_set 6 scl_one.nd rfl (Or.inl rfl) (de_op op_subD (de_op op_modD (de_var 2) de_int) de_int))
    (dss_cons (ds_if (dt_cmp op_eqSD (de_op op_modD (de_op op_fdivD (de_var 2) de_int) de_int) de_int) (dss_one (ds_set 6 scl_one.nd rfl (Or.inl rfl) (de_op op_addD (de_op op_subD (de_op op_modD (de_op op_fdivD (de_var 2) de_int) (de_op op_subD (de_op op_mulUD de_int (de_op op_powD de_int de_int)) de_int)) (de_op op_powD de_int de_int)) de_int))) dss_nil)
    (dss_one (ds_ret (de_tup (da_cons (de_call hl_mast hr rfl passX rfl (da_cons (de_var 0) (da_cons (de_var 3) da_nil))) (da_cons (de_var 4) (da_cons (de_var 5) (da_cons (de_var 6) da_nil))))))))))))))
theorem scl_told : FnScope ["_law_best"] ["_law_best"] (defScope sl_told) := by walk_at "sc"
noncomputable def gl_told (a : Ad) (b : Nat) : ZEv -> Sto -> RTZ := (yRet (zComp (zItL (zSort (zDlist (zV 0)))) [0] zYes (zF mkT (zCons (zD (d2 ixD (dV 0) (dC (.int 1)))) (zCons (zD (d2 ixD (dV 0) (dC (.int 0)))) (zCons (z2 ixD (zGetD (zV 1) (zD (dV 0))) (zD (dC (.int 0)))) (zCons (z2 ixD (zGetD (zV 1) (zD (dV 0))) (zD (dC (.int 1)))) zNil)))))))
theorem okl_told {a : Ad} (T : Tx K mg a) (F : Fun K "_law_told" "_law_told" sl_told f fd) :
    FnOk P w K mg base (CXx P w) 1 f fd ["_law_best"] (spZ 1 K fun zs S => finZ (gl_told a S.length (startZ 1 zs) S)) :=
  fn_denZ F scl_told fun b cdv A outer s H E hr => (zss_one (zs_ret (ze_comp1 (x := "_law_key") (y := "_law_best") 0 [(".0", .local), ("_law_key", .local), ("_law_best", .cell)] rfl (zi_lst (ze_sort rfl T.b_sorted (ze_dlist rfl rfl T.b_list bt_list (ze_var 0)))) (fun _ _ _ _ => (pg_name (i := 0) (show List.Nodup (["_law_key", "_law_best"] : List Str) from by decide +kernel) rfl (Or.inl rfl))) (fun _ _ _ _ => zf_nil) (fun _ _ _ _ => (ze_tup (za_cons (ze_lift (de_ix ix_D (de_var 0) de_int)) (za_cons (ze_lift (de_ix ix_D (de_var 0) de_int)) (za_cons (ze_ix ix_D (ze_dgetD hr.units (ze_var 1) (ze_lift (de_var 0))) (ze_lift de_int)) (za_cons (ze_ix ix_D (ze_dgetD hr.units (ze_var 1) (ze_lift (de_var 0))) (ze_lift de_int)) za_nil)))))) rfl (by decide +kernel) (by decide +kernel) rfl rfl rfl rfl rfl (by decide +kernel) (by decide +kernel))))
theorem scl_put : FnScope ["_law_best", "_law_one_here", "_law_key"] ["_law_best", "_law_one_here"] (defScope sl_put) := by walk_at "sc"
noncomputable def gl_put (a : Ad) (b : Nat) : ZEv -> Sto -> RTZ := (ySeq (ySet 2 (zKey (zCons (zD (d2 ixD (dV 1) (dC (.int 1)))) (zCons (zD (d2 ixD (dV 1) (dC (.int 0)))) zNil))))
    (ySeq (yIf (zAndB (zInT (zV 2) (zV 0)) (zTst tB (z2 gePD (zGetT (zV 0) (zV 2)) (zD (dA mkT (aCons (d2 ixD (dV 1) (dC (.int 2))) (aCons (d2 ixD (dV 1) (dC (.int 3))) aNil))))))) (yRet (zD (dC (.bl false)))) yNil)
    (ySeq (yDputT (zV 0) (zV 2) (zD (dA mkT (aCons (d2 ixD (dV 1) (dC (.int 2))) (aCons (d2 ixD (dV 1) (dC (.int 3))) aNil)))))
    (yRet (zD (dC (.bl true)))))))
theorem okl_put {a : Ad} (T : Tx K mg a) (F : Fun K "_law_put" "_law_put" sl_put f fd) :
    FnOk P w K mg base (CXx P w) 1 f fd ["_law_best", "_law_one_here"] (spZ 2 K fun zs S => finZ (gl_put a S.length (startZ 3 zs) S)) :=
  fn_denZ F scl_put fun b cdv A outer s H E hr => (zss_cons (zs_set 2 scl_put.nd rfl (Or.inl rfl) (ze_key (za_cons (ze_lift (de_ix ix_D (de_var 1) de_int)) (za_cons (ze_lift (de_ix ix_D (de_var 1) de_int)) za_nil))))
    (zss_cons (zs_if (ZW.zt (zw_and (zt_dinT hr.units (ze_var 2) (ze_var 0)) (zw_and1 (zt_cmp (op_gePD hr.units) (ze_dgetT hr.units (ze_var 0) (ze_var 2)) (ze_lift (de_tup (da_cons (de_ix ix_D (de_var 1) de_int) (da_cons (de_ix ix_D (de_var 1) de_int) da_nil)))))))) (zss_one (zs_ret (ze_lift de_bl))) zss_nil)
    (zss_cons (zs_dputT hr.units (ze_var 0) (ze_var 2) (ze_lift (de_tup (da_cons (de_ix ix_D (de_var 1) de_int) (da_cons (de_ix ix_D (de_var 1) de_int) da_nil)))))
    (zss_one (zs_ret (ze_lift de_bl))))))
theorem scl_is : FnScope ["_law_found", "_law_due", "_law_one_here"] ["_law_found", "_law_due"] (defScope sl_is) := by walk_at "sc"
noncomputable def b1l_is (a : Ad) : Ev -> RT := (sSeq (sIf (bOr (bNot (b1 tT (dA (isXD a.isx) (aCons (dV 2) (aCons (dC (.ty "tuple")) aNil))))) (bNot (b1 tT (dA allD (aCons (asN (dComp (fun ρ => ((dSl slWD (dV 2) (fun ρ => ((dC (.int 1)) ρ).bind pI) (fun _ => .ok none)) ρ).bind asI) 1 [] (gV 0) (fun _ => .ok true) (dA (isXD a.isx) (aCons (dV 0) (aCons (dC (.ty "int")) aNil))))) aNil))))) (sRet (dC (.bl false))) sNil)
    (sIf (b1 tT (dA anyD (aCons (asN (dComp (fun ρ => ((dSl slWD (dV 2) (fun ρ => ((dC (.int 1)) ρ).bind pI) (fun _ => .ok none)) ρ).bind asI) 1 [] (gV 0) (fun _ => .ok true) (dA (isXD a.isx) (aCons (dV 0) (aCons (dC (.ty "bool")) aNil))))) aNil))) (sRet (dC (.bl false))) sNil))
noncomputable def gl_is (a : Ad) : Ev -> RT := (sSeq (sIf (bOr (bNot (b1 tT (dA (isXD a.isx) (aCons (dV 0) (aCons (dC (.ty "list")) aNil))))) (b1 tB (d2 neDD (dV 0) (dV 1)))) (sRet (dC (.bl false))) sNil)
    (sSeq (sFor (fun ρ => ((dV 0) ρ).bind asI) (gV 2) (b1l_is a))
    (sRet (dC (.bl true)))))
theorem okl_is {a : Ad} (T : Tx K mg a) (F : Fun K "_law_is" "_law_is" sl_is f fd) :
    FnOk P w K mg base (CXx P w) 1 f fd ["_law_found", "_law_due"] (spD 2 K fun ds => finT (gl_is a (startD 3 ds))) :=
  fn_den F scl_is fun cdv A outer s H E hr => (dss_cons (ds_if (DW.dt (dw_or (dt_not (dt_truth (de_callB (call_isXD T.isok) rfl T.b_isinstance bt_isinstance (da_cons (de_var 0) (da_cons (de_ty rfl T.b_list bt_list) da_nil))))) (dw_or1 (dt_cmp (op_neDD hr.units) (de_var 0) (de_var 1))))) (dss_one (ds_ret de_bl)) dss_nil)
    (dss_cons (ds_for pass_cx rfl (di_any (de_var 0)) (dg_name 2 scl_is.nd rfl (Or.inl rfl)) (dss_cons (ds_if (DW.dt (dw_or (dt_not (dt_truth (de_callB (call_isXD T.isok) rfl T.b_isinstance bt_isinstance (da_cons (de_var 2) (da_cons (de_ty rfl T.b_tuple bt_tuple) da_nil))))) (dw_or1 (dt_not (dt_truth (de_callB (call_allD rfl) rfl T.b_all bt_all (da_cons (DN.de (dn_comp0 (Nt := ["_law_number"]) (tn := 1) rfl (di_any (de_slice sl_WD (de_var 2) (do_some de_int) do_none)) (fun _ _ _ _ => (dg_name 0 (show List.Nodup (["_law_number"] : List Str) from by decide +kernel) rfl (Or.inl rfl))) (by simp) (fun _ _ _ _ => df_nil) (fun _ _ _ _ => (de_callB (call_isXD T.isok) rfl T.b_isinstance bt_isinstance (da_cons (de_var 0) (da_cons (de_ty rfl T.b_int bt_int) da_nil)))) (by decide +kernel) rfl (by decide +kernel) (by decide +kernel) rfl)) da_nil))))))) (dss_one (ds_ret de_bl)) dss_nil)
    (dss_one (ds_if (dt_truth (de_callB (call_anyD rfl) rfl T.b_any bt_any (da_cons (DN.de (dn_comp0 (Nt := ["_law_number"]) (tn := 1) rfl (di_any (de_slice sl_WD (de_var 2) (do_some de_int) do_none)) (fun _ _ _ _ => (dg_name 0 (show List.Nodup (["_law_number"] : List Str) from by decide +kernel) rfl (Or.inl rfl))) (by simp) (fun _ _ _ _ => df_nil) (fun _ _ _ _ => (de_callB (call_isXD T.isok) rfl T.b_isinstance bt_isinstance (da_cons (de_var 0) (da_cons (de_ty rfl T.b_bool bt_bool) da_nil)))) (by decide +kernel) rfl (by decide +kernel) (by decide +kernel) rfl)) da_nil))) (dss_one (ds_ret de_bl)) dss_nil))))
    (dss_one (ds_ret de_bl))))
theorem sc_law : FnScope ["_law_script", "_law_head", "_law_way", "_law_base", "_law_some", "_law_best", "_law_book", "_law_one_here", "_law_changed", "_law_found", "_law_due", "_law_other", "_law_place", "_law_turned", "_law_k", "_law_mast_here"] ["_law_script"] (defScope s_law) := by walk_at "sc"
noncomputable def b1_law (a : Ad) (Fl_cell_at : List D -> R D) (Fl_one : List D -> R D) (Fl_is : List D -> R D) (Fl_mast : List D -> R D) (Z_Book___init : List Z -> Sto -> RX Z) (Zl_put : List Z -> Sto -> RX Z) (Z_Book_put : List Z -> Sto -> RX Z) (Zl_told : List Z -> Sto -> RX Z) (Z_Book_kept : List Z -> Sto -> RX Z) (Z_Book_of_mast : List Z -> Sto -> RX Z) : ZEv -> Sto -> RTZ := (ySeq (ySet 8 (zZ Zl_put (zCons (zV 5) (zCons (zD (dV 7)) zNil))))
    (ySeq (ySet 9 (zMeth a.Book "put" Z_Book_put [] (zV 6) (zCons (zD (dV 7)) zNil)))
    (yIf (zRB (bOr (bAnd (b1 tB (d2 isnD2 (dV 9) (dC (.bl true)))) (b1 tB (d2 isnD2 (dV 9) (dC (.bl false))))) (b1 tB (d2 neSD (dV 9) (dV 8))))) (yRet (zD (dC (.bl false)))) yNil)))
noncomputable def b2_law (a : Ad) (Fl_cell_at : List D -> R D) (Fl_one : List D -> R D) (Fl_is : List D -> R D) (Fl_mast : List D -> R D) (Z_Book___init : List Z -> Sto -> RX Z) (Zl_put : List Z -> Sto -> RX Z) (Z_Book_put : List Z -> Sto -> RX Z) (Zl_told : List Z -> Sto -> RX Z) (Z_Book_kept : List Z -> Sto -> RX Z) (Z_Book_of_mast : List Z -> Sto -> RX Z) : ZEv -> Sto -> RTZ := (yExpr (zMeth a.Book "put" Z_Book_put [] (zV 11) (zCons (zD (dV 7)) zNil)))
noncomputable def b3_law (a : Ad) (Fl_cell_at : List D -> R D) (Fl_one : List D -> R D) (Fl_is : List D -> R D) (Fl_mast : List D -> R D) (Z_Book___init : List Z -> Sto -> RX Z) (Zl_put : List Z -> Sto -> RX Z) (Z_Book_put : List Z -> Sto -> RX Z) (Zl_told : List Z -> Sto -> RX Z) (Z_Book_kept : List Z -> Sto -> RX Z) (Z_Book_of_mast : List Z -> Sto -> RX Z) : ZEv -> Sto -> RTZ := (ySeq (ySet 15 (zD (dA Fl_mast (aCons (dV 1) (aCons (dV 14) aNil)))))
    (yIf (zNotB (zTst tT (zF Fl_is (zCons (zFrz (zMeth a.Book "of_mast" Z_Book_of_mast [] (zV 6) (zCons (zD (dV 15)) zNil))) (zCons (zD (asN (dComp (fun ρ => ((dV 10) ρ).bind asI) 1 [15] (gV 0) (b1 tB (d2 eqSD (d2 ixD (dV 0) (dC (.int 0))) (dV 1))) (dV 0)))) zNil))))) (yRet (zD (dC (.bl false)))) yNil))
noncomputable def b4_law (a : Ad) (Fl_cell_at : List D -> R D) (Fl_one : List D -> R D) (Fl_is : List D -> R D) (Fl_mast : List D -> R D) (Z_Book___init : List Z -> Sto -> RX Z) (Zl_put : List Z -> Sto -> RX Z) (Z_Book_put : List Z -> Sto -> RX Z) (Zl_told : List Z -> Sto -> RX Z) (Z_Book_kept : List Z -> Sto -> RX Z) (Z_Book_of_mast : List Z -> Sto -> RX Z) : ZEv -> Sto -> RTZ := (yIf (zTst tB (z2 isnD2 (zMeth a.Book "put" Z_Book_put [] (zV 6) (zCons (zD (dV 7)) zNil)) (zD (dC (.bl false))))) (yRet (zD (dC (.bl false)))) yNil)
noncomputable def g_law (a : Ad) (Fl_cell_at : List D -> R D) (Fl_one : List D -> R D) (Fl_is : List D -> R D) (Fl_mast : List D -> R D) (Z_Book___init : List Z -> Sto -> RX Z) (Zl_put : List Z -> Sto -> RX Z) (Z_Book_put : List Z -> Sto -> RX Z) (Zl_told : List Z -> Sto -> RX Z) (Z_Book_kept : List Z -> Sto -> RX Z) (Z_Book_of_mast : List Z -> Sto -> RX Z) (b : Nat) : ZEv -> Sto -> RTZ := (ySeq (ySet 1 (zD (dA Fl_cell_at (aCons (dV 0) (aCons (dC (.int 0)) aNil)))))
    (ySeq (ySet 2 (zD (dA Fl_cell_at (aCons (dV 0) (aCons (dC (.int 1)) aNil)))))
    (ySeq (ySet 3 (zD (d2 modD (d2 fdivD (dV 2) (dC (.int 4))) (d2 subD (d2 powD (dC (.int 10)) (dC (.int 9))) (dC (.int 5))))))
    (ySeq (ySet 4 (zD (asN (dComp (fun ρ => ((dSl slWD (dV 0) (fun ρ => ((dC (.int 2)) ρ).bind pI) (fun ρ => ((dC (.int 192)) ρ).bind pI)) ρ).bind asI) 1 [3, 1] (gV 0) (fun _ => .ok true) (dA Fl_one (aCons (dV 2) (aCons (dV 1) (aCons (dV 0) aNil))))))))
    (ySeq (ySet 5 zNewT)
    (ySeq (ySet 6 (zMake a.Book Z_Book___init zNil))
    (ySeq (yFor (fun ρ => ((dV 4) ρ).bind asI) (hV 7) (b1_law a Fl_cell_at Fl_one Fl_is Fl_mast Z_Book___init Zl_put Z_Book_put Zl_told Z_Book_kept Z_Book_of_mast))
    (ySeq (ySet 10 (zFrz (zZ Zl_told (zCons (zV 5) zNil))))
    (ySeq (ySet 11 (zMake a.Book Z_Book___init zNil))
    (ySeq (ySet 12 (zD (d2 modD (d2 fdivD (dV 2) (dC (.int 4))) (d2 addD (dA lenD (aCons (dV 4) aNil)) (dC (.int 1))))))
    (ySeq (ySet 13 (zD (d2 addD (dSl slWD (dV 4) (fun ρ => ((dV 12) ρ).bind pI) (fun _ => .ok none)) (dSl slWD (dV 4) (fun _ => .ok none) (fun ρ => ((dV 12) ρ).bind pI)))))
    (ySeq (yIf (zB (b1 tB (d2 eqSD (d2 modD (dV 2) (dC (.int 2))) (dC (.int 1))))) (ySet 13 (zD (asN (fun ρ => ((dV 4) ρ).bind revL)))) yNil)
    (ySeq (yFor (fun ρ => ((d2 addD (dV 13) (dSl slWD (dV 4) (fun _ => .ok none) (fun ρ => ((dC (.int 3)) ρ).bind pI))) ρ).bind asI) (hV 7) (b2_law a Fl_cell_at Fl_one Fl_is Fl_mast Z_Book___init Zl_put Z_Book_put Zl_told Z_Book_kept Z_Book_of_mast))
    (ySeq (yIf (zOrB (zNotB (zTst tT (zF Fl_is (zCons (zFrz (zMeth a.Book "kept" Z_Book_kept [] (zV 6) zNil)) (zCons (zD (dV 10)) zNil))))) (zNotB (zTst tT (zF Fl_is (zCons (zFrz (zMeth a.Book "kept" Z_Book_kept [] (zV 11) zNil)) (zCons (zD (dV 10)) zNil)))))) (yRet (zD (dC (.bl false)))) yNil)
    (ySeq (yFor (fun ρ => ((aCons (dC (.int 3)) aNil) ρ).bind rng1) (hV 14) (b3_law a Fl_cell_at Fl_one Fl_is Fl_mast Z_Book___init Zl_put Z_Book_put Zl_told Z_Book_kept Z_Book_of_mast))
    (ySeq (yClear (zMeth a.Book "kept" Z_Book_kept [] (zV 6) zNil))
    (ySeq (ySet 9 (zMeth a.Book "kept" Z_Book_kept [] (zV 11) zNil))
    (ySeq (yApp 9 (zD (dA mkT (aCons (dA Fl_mast (aCons (dV 1) (aCons (dC (.int 0)) aNil))) (aCons (dC (.int 0)) (aCons (dC (.int 0)) (aCons (dC (.int 0)) aNil)))))))
    (ySeq (yFor (fun ρ => ((dV 10) ρ).bind asI) (hV 7) (b4_law a Fl_cell_at Fl_one Fl_is Fl_mast Z_Book___init Zl_put Z_Book_put Zl_told Z_Book_kept Z_Book_of_mast))
    (yRet (zAndV (zF Fl_is (zCons (zFrz (zMeth a.Book "kept" Z_Book_kept [] (zV 6) zNil)) (zCons (zD (dV 10)) zNil))) (zF Fl_is (zCons (zFrz (zMeth a.Book "kept" Z_Book_kept [] (zV 11) zNil)) (zCons (zD (dV 10)) zNil))))))))))))))))))))))))
theorem ok_law {a : Ad} (T : Tx K mg a) (F : Fun K "law" "law" s_law f fd)
    (hl_cell_at : Has P w K mg base (CXx P w) 2 "_law_cell_at" ["_law_script", "_law_k"] (spD 2 K Fl_cell_at))
    (hl_one : Has P w K mg base (CXx P w) 2 "_law_one" ["_law_head", "_law_base", "_law_cell"] (spD 3 K Fl_one))
    (hl_is : Has P w K mg base (CXx P w) 2 "_law_is" ["_law_found", "_law_due"] (spD 2 K Fl_is))
    (hl_mast : Has P w K mg base (CXx P w) 2 "_law_mast" ["_law_cell", "_law_k"] (spD 2 K Fl_mast))
    (hl_put : Has P w K mg base (CXx P w) 2 "_law_put" ["_law_best", "_law_one_here"] (spZ 2 K Zl_put))
    (hl_told : Has P w K mg base (CXx P w) 2 "_law_told" ["_law_best"] (spZ 1 K Zl_told))
    (hI_Book___init : HasI P w K mg base 1 a.Book ["self"] (spZ 1 K Z_Book___init))
    (h_Book_put : HasM P w K mg base 2 a.Book "put" ["self", "reading"] [] (spZ 2 K Z_Book_put))
    (h_Book_kept : HasM P w K mg base 2 a.Book "kept" ["self"] [] (spZ 1 K Z_Book_kept))
    (h_Book_of_mast : HasM P w K mg base 2 a.Book "of_mast" ["self", "mast"] [] (spZ 2 K Z_Book_of_mast)) :
    FnOk P w K mg base (CXx P w) 3 f fd ["_law_script"] (spZ 1 K fun zs S => finZ (g_law a Fl_cell_at Fl_one Fl_is Fl_mast Z_Book___init Zl_put Z_Book_put Zl_told Z_Book_kept Z_Book_of_mast S.length (startZ 16 zs) S)) :=
  fn_denZ F sc_law fun b cdv A outer s H E hr => (zss_cons (zs_set 1 sc_law.nd rfl (Or.inr rfl) (ze_lift (de_call hl_cell_at hr rfl passX rfl (da_cons (de_var 0) (da_cons de_int da_nil)))))
    (zss_cons (zs_set 2 sc_law.nd rfl (Or.inl rfl) (ze_lift (de_call hl_cell_at hr rfl passX rfl (da_cons (de_var 0) (da_cons de_int da_nil)))))
    (zss_cons (zs_set 3 sc_law.nd rfl (Or.inr rfl) (ze_lift (de_op op_modD (de_op op_fdivD (de_var 2) de_int) (de_op op_subD (de_op op_powD de_int de_int) de_int))))
    (zss_cons (zs_setU 4 sc_law.nd rfl (Or.inl rfl) (dnu_comp2 (Nt := ["_law_cell"]) (tn := 1) (x := "_law_base") (y := "_law_head") 3 1 [(".0", .local), ("_law_cell", .local), ("_law_one", .globalImplicit), ("_law_base", .cell), ("_law_head", .cell)] (by decide) rfl (di_any (de_slice sl_WD (de_var 0) (do_some de_int) (do_some de_int))) (fun _ _ _ _ => (dg_name 0 (show List.Nodup (["_law_cell", "_law_base", "_law_head"] : List Str) from by decide +kernel) rfl (Or.inl rfl))) (by simp) (fun _ _ _ _ => df_nil) (fun _ _ _ _ => (de_call hl_one hr rfl passN rfl (da_cons (de_var 2) (da_cons (de_var 1) (da_cons (de_var 0) da_nil))))) rfl (by decide +kernel) (by decide +kernel) rfl rfl rfl rfl rfl rfl rfl rfl rfl (by decide +kernel) (by decide +kernel)))
    (zss_cons (zs_set 5 sc_law.nd rfl (Or.inl rfl) ze_dnewT)
    (zss_cons (zs_set 6 sc_law.nd rfl (Or.inl rfl) (ze_make0 hI_Book___init hr rfl T.c_Book passX rfl))
    (zss_cons (zs_for pass_cx rfl (di_any (de_var 4)) (zg_name 7 sc_law.nd rfl (Or.inl rfl)) (zss_cons (zs_set 8 sc_law.nd rfl (Or.inl rfl) (ze_callZ hl_put hr rfl passX rfl (za_cons (ze_var 5) (za_cons (ze_lift (de_var 7)) za_nil))))
    (zss_cons (zs_set 9 sc_law.nd rfl (Or.inl rfl) (ze_meth h_Book_put T.k_Book hr passX (ze_var 6) (za_cons (ze_lift (de_var 7)) za_nil) rfl))
    (zss_one (zs_if (zt_read (DW.dt (dw_or (DW.dt (dw_and (dt_cmp op_isnD2 (de_var 9) de_bl) (dw_and1 (dt_cmp op_isnD2 (de_var 9) de_bl)))) (dw_or1 (dt_cmp op_neSD (de_var 9) (de_var 8)))))) (zss_one (zs_ret (ze_lift de_bl))) zss_nil)))))
    (zss_cons (zs_set 10 sc_law.nd rfl (Or.inl rfl) (ze_frz (ze_callZ hl_told hr rfl passX rfl (za_cons (ze_var 5) za_nil))))
    (zss_cons (zs_set 11 sc_law.nd rfl (Or.inl rfl) (ze_make0 hI_Book___init hr rfl T.c_Book passX rfl))
    (zss_cons (zs_set 12 sc_law.nd rfl (Or.inl rfl) (ze_lift (de_op op_modD (de_op op_fdivD (de_var 2) de_int) (de_op op_addD (de_callB call_lenD rfl T.b_len bt_len (da_cons (de_var 4) da_nil)) de_int))))
    (zss_cons (zs_set 13 sc_law.nd rfl (Or.inl rfl) (ze_lift (de_op op_addD (de_slice sl_WD (de_var 4) (do_some (de_var 12)) do_none) (de_slice sl_WD (de_var 4) do_none (do_some (de_var 12))))))
    (zss_cons (zs_if (zt_lift (dt_cmp op_eqSD (de_op op_modD (de_var 2) de_int) de_int)) (zss_one (zs_set 13 sc_law.nd rfl (Or.inl rfl) (ze_lift (DN.de (dn_listrev rfl T.b_list rfl T.b_reversed rfl (de_var 4)))))) zss_nil)
    (zss_cons (zs_for pass_cx rfl (di_any (de_op op_addD (de_var 13) (de_slice sl_WD (de_var 4) do_none (do_some de_int)))) (zg_name 7 sc_law.nd rfl (Or.inl rfl)) (zss_one (zs_expr (ze_meth h_Book_put T.k_Book hr passX (ze_var 11) (za_cons (ze_lift (de_var 7)) za_nil) rfl))))
    (zss_cons (zs_if (ZW.zt (zw_or (zt_not (zt_truth (ze_callD hl_is hr rfl passX rfl (za_cons (ze_frz (ze_meth0 h_Book_kept T.k_Book hr passX (ze_var 6) rfl)) (za_cons (ze_lift (de_var 10)) za_nil))))) (zw_or1 (zt_not (zt_truth (ze_callD hl_is hr rfl passX rfl (za_cons (ze_frz (ze_meth0 h_Book_kept T.k_Book hr passX (ze_var 11) rfl)) (za_cons (ze_lift (de_var 10)) za_nil)))))))) (zss_one (zs_ret (ze_lift de_bl))) zss_nil)
    (zss_cons (zs_for pass_cx rfl (di_range1 rfl T.b_range (da_cons de_int da_nil)) (zg_name 14 sc_law.nd rfl (Or.inl rfl)) (zss_cons (zs_set 15 sc_law.nd rfl (Or.inr rfl) (ze_lift (de_call hl_mast hr rfl passX rfl (da_cons (de_var 1) (da_cons (de_var 14) da_nil)))))
    (zss_one (zs_if (zt_not (zt_truth (ze_callD hl_is hr rfl passX rfl (za_cons (ze_frz (ze_meth h_Book_of_mast T.k_Book hr passX (ze_var 6) (za_cons (ze_lift (de_var 15)) za_nil) rfl)) (za_cons (ze_lift (DN.de (dn_comp1 (Nt := ["_law_one_here"]) (tn := 1) (x := "_law_mast_here") 15 [(".0", .local), ("_law_one_here", .local), ("_law_mast_here", .cell)] rfl (di_any (de_var 10)) (fun _ _ _ _ => (dg_name 0 (show List.Nodup (["_law_one_here", "_law_mast_here"] : List Str) from by decide +kernel) rfl (Or.inl rfl))) (by simp) (fun _ _ _ _ => df_one (dt_cmp op_eqSD (de_ix ix_D (de_var 0) de_int) (de_var 1))) (fun _ _ _ _ => (de_var 0)) rfl (by decide +kernel) (by decide +kernel) rfl rfl rfl rfl rfl rfl (by decide +kernel) (by decide +kernel)))) za_nil))))) (zss_one (zs_ret (ze_lift de_bl))) zss_nil))))
    (zss_cons (zs_clear (ze_meth0 h_Book_kept T.k_Book hr passX (ze_var 6) rfl))
    (zss_cons (zs_set 9 sc_law.nd rfl (Or.inl rfl) (ze_meth0 h_Book_kept T.k_Book hr passX (ze_var 11) rfl))
    (zss_cons (zs_append 9 PySem.F.plainAttrs_list PySem.F.slot_list_append PySem.F.type_list_append (ze_lift (de_tup (da_cons (de_call hl_mast hr rfl passX rfl (da_cons (de_var 1) (da_cons de_int da_nil))) (da_cons de_int (da_cons de_int (da_cons de_int da_nil)))))))
    (zss_cons (zs_for pass_cx rfl (di_any (de_var 10)) (zg_name 7 sc_law.nd rfl (Or.inl rfl)) (zss_one (zs_if (zt_cmp op_isnD2 (ze_meth h_Book_put T.k_Book hr passX (ze_var 6) (za_cons (ze_lift (de_var 7)) za_nil) rfl) (ze_lift de_bl)) (zss_one (zs_ret (ze_lift de_bl))) zss_nil)))
    (zss_one (zs_ret (ze_and (ze_callD hl_is hr rfl passX rfl (za_cons (ze_frz (ze_meth0 h_Book_kept T.k_Book hr passX (ze_var 6) rfl)) (za_cons (ze_lift (de_var 10)) za_nil))) (ze_one (ze_callD hl_is hr rfl passX rfl (za_cons (ze_frz (ze_meth0 h_Book_kept T.k_Book hr passX (ze_var 11) rfl)) (za_cons (ze_lift (de_var 10)) za_nil))))))))))))))))))))))))))
end
end W12
namespace P2
open PySem
mutual
noncomputable def okQ : D -> Bool
  | .non => true
  | .int _ => true
  | .str z => PyData.strOk z
  | .tup ds => okQs ds
  | .lst ds => okQs ds
  | _ => false
noncomputable def okQs : List D -> Bool
  | [] => true
  | d :: r => okQ d && okQs r
end
mutual
noncomputable def dpQ : D -> Nat
  | .tup ds => dpQs ds + 1
  | .lst ds => dpQs ds + 1
  | _ => 0
noncomputable def dpQs : List D -> Nat
  | [] => 0
  | d :: r => max (dpQ d) (dpQs r)
end
mutual
theorem py_ok : ∀ {d : D}, okQ d = true -> ∃ p, pyD d = some p /\ PyData.canLay0 p = true /\ p.depth <= dpQ d
  | .non, _ => ⟨.none, rfl, by simp [PyData.canLay0], by simp [PyData.depth]⟩
  | .int i, _ => ⟨.int i, rfl, by simp [PyData.canLay0], by simp [PyData.depth]⟩
  | .str z, h => ⟨.str z, rfl, by have h2 : PyData.strOk z = true := h; simpa [PyData.canLay0] using h2, by simp [PyData.depth]⟩
  | .tup ds, h => by
    obtain ⟨ps, e1, e2, e3⟩ := pys_ok (show okQs ds = true from h)
    exact ⟨.tuple ps, by show (pyDs ds).map PyData.tuple = _; rw [e1]; rfl, by simpa [PyData.canLay0] using e2, by simp only [PyData.depth, dpQ]; omega⟩
  | .lst ds, h => by
    obtain ⟨ps, e1, e2, e3⟩ := pys_ok (show okQs ds = true from h)
    exact ⟨.list ps, by show (pyDs ds).map PyData.list = _; rw [e1]; rfl, by simpa [PyData.canLay0] using e2, by simp only [PyData.depth, dpQ]; omega⟩
  | .bl _, h => by cases h
  | .ty _, h => by cases h
  | .ref _, h => by cases h
  | .exc _ _ _, h => by cases h
theorem pys_ok : ∀ {ds : List D}, okQs ds = true -> ∃ ps, pyDs ds = some ps /\ PyData.canLayAll0 ps = true /\ PyData.depthAll ps <= dpQs ds
  | [], _ => ⟨[], rfl, by simp [PyData.canLayAll0], by simp [PyData.depthAll]⟩
  | d :: r, h => by
    have h' : (okQ d && okQs r) = true := h
    rw [Bool.and_eq_true] at h'
    obtain ⟨p, e1, e2, e3⟩ := py_ok h'.1
    obtain ⟨ps, f1, f2, f3⟩ := pys_ok h'.2
    refine ⟨p :: ps, ?_, ?_, ?_⟩
    · show (pyD d).bind (fun p => (pyDs r).map (p :: ·)) = _
      rw [e1, f1]; rfl
    · simp [PyData.canLayAll0, e2, f2]
    · simp only [PyData.depthAll, dpQs]; omega
end
theorem py_tup {ds : List D} {p : PyData} (h : pyD (.tup ds) = some p) : ∃ ps, p = .tuple ps /\ pyDs ds = some ps := by
  obtain ⟨ps, h1, h2⟩ := Option.map_eq_some_iff.mp (show (pyDs ds).map PyData.tuple = some p from h)
  exact ⟨ps, h2.symm, h1⟩
theorem py_lst {ds : List D} {p : PyData} (h : pyD (.lst ds) = some p) : ∃ ps, p = .list ps /\ pyDs ds = some ps := by
  obtain ⟨ps, h1, h2⟩ := Option.map_eq_some_iff.mp (show (pyDs ds).map PyData.list = some p from h)
  exact ⟨ps, h2.symm, h1⟩
mutual
theorem eqv_iff : ∀ {a b : D} {p q : PyData}, okQ a = true -> okQ b = true -> pyD a = some p -> pyD b = some q -> (PyData.eqv p q = true ↔ a = b)
  | a, b, p, q, ha, hb, ep, eq => by
    cases a with
    | non =>
      cases ep
      cases b with
      | non => cases eq; simp [PyData.eqv]
      | int i => cases eq; simp [PyData.eqv]
      | str i => cases eq; simp [PyData.eqv]
      | tup r => obtain ⟨ps, rfl, _⟩ := py_tup eq; simp [PyData.eqv]
      | lst r => obtain ⟨ps, rfl, _⟩ := py_lst eq; simp [PyData.eqv]
      | _ => cases hb
    | int i =>
      cases ep
      cases b with
      | non => cases eq; simp [PyData.eqv]
      | int i => cases eq; simp [PyData.eqv]
      | str i => cases eq; simp [PyData.eqv]
      | tup r => obtain ⟨ps, rfl, _⟩ := py_tup eq; simp [PyData.eqv]
      | lst r => obtain ⟨ps, rfl, _⟩ := py_lst eq; simp [PyData.eqv]
      | _ => cases hb
    | str i =>
      cases ep
      cases b with
      | non => cases eq; simp [PyData.eqv]
      | int i => cases eq; simp [PyData.eqv]
      | str i => cases eq; simp [PyData.eqv]
      | tup r => obtain ⟨ps, rfl, _⟩ := py_tup eq; simp [PyData.eqv]
      | lst r => obtain ⟨ps, rfl, _⟩ := py_lst eq; simp [PyData.eqv]
      | _ => cases hb
    | tup ds =>
      obtain ⟨ps, rfl, e1⟩ := py_tup ep
      cases b with
      | non => cases eq; simp [PyData.eqv]
      | int i => cases eq; simp [PyData.eqv]
      | str i => cases eq; simp [PyData.eqv]
      | tup r =>
        obtain ⟨qs, rfl, e2⟩ := py_tup eq
        have := eqvs_iff (show okQs ds = true from ha) (show okQs r = true from hb) e1 e2
        simp only [PyData.eqv, this, D.tup.injEq]
      | lst r => obtain ⟨qs, rfl, _⟩ := py_lst eq; simp [PyData.eqv]
      | _ => cases hb
    | lst ds =>
      obtain ⟨ps, rfl, e1⟩ := py_lst ep
      cases b with
      | non => cases eq; simp [PyData.eqv]
      | int i => cases eq; simp [PyData.eqv]
      | str i => cases eq; simp [PyData.eqv]
      | tup r => obtain ⟨qs, rfl, _⟩ := py_tup eq; simp [PyData.eqv]
      | lst r =>
        obtain ⟨qs, rfl, e2⟩ := py_lst eq
        have := eqvs_iff (show okQs ds = true from ha) (show okQs r = true from hb) e1 e2
        simp only [PyData.eqv, this, D.lst.injEq]
      | _ => cases hb
    | _ => cases ha
  termination_by a => sizeOf a
theorem eqvs_iff : ∀ {a b : List D} {p q : List PyData}, okQs a = true -> okQs b = true -> pyDs a = some p -> pyDs b = some q -> (PyData.eqvAll p q = true ↔ a = b)
  | [], [], p, q, _, _, ep, eq => by cases ep; cases eq; simp [PyData.eqvAll]
  | [], d :: r, p, q, _, _, ep, eq => by
    cases ep
    obtain ⟨x, _, h⟩ := Option.bind_eq_some_iff.mp (show (pyD d).bind (fun p => (pyDs r).map (p :: ·)) = some q from eq)
    obtain ⟨xs, _, rfl⟩ := Option.map_eq_some_iff.mp h
    simp [PyData.eqvAll]
  | d :: r, [], p, q, _, _, ep, eq => by
    cases eq
    obtain ⟨x, _, h⟩ := Option.bind_eq_some_iff.mp (show (pyD d).bind (fun p => (pyDs r).map (p :: ·)) = some p from ep)
    obtain ⟨xs, _, rfl⟩ := Option.map_eq_some_iff.mp h
    simp [PyData.eqvAll]
  | d :: r, e :: s, p, q, ha, hb, ep, eq => by
    have ha' : (okQ d && okQs r) = true := ha
    have hb' : (okQ e && okQs s) = true := hb
    rw [Bool.and_eq_true] at ha' hb'
    obtain ⟨x, x1, h⟩ := Option.bind_eq_some_iff.mp (show (pyD d).bind (fun p => (pyDs r).map (p :: ·)) = some p from ep)
    obtain ⟨xs, x2, rfl⟩ := Option.map_eq_some_iff.mp h
    obtain ⟨y, y1, h'⟩ := Option.bind_eq_some_iff.mp (show (pyD e).bind (fun p => (pyDs s).map (p :: ·)) = some q from eq)
    obtain ⟨ys, y2, rfl⟩ := Option.map_eq_some_iff.mp h'
    have i1 := eqv_iff ha'.1 hb'.1 x1 y1
    have i2 := eqvs_iff ha'.2 hb'.2 x2 y2
    simp only [PyData.eqvAll, Bool.and_eq_true, i1, i2, List.cons.injEq]
  termination_by a => sizeOf a
end
theorem eqv_dec {a b : D} (ha : okQ a = true) (hb : okQ b = true) (da : dpQ a <= 60) (db : dpQ b <= 60) : ∃ r, eqvD a b = some r /\ (r = true ↔ a = b) := by
  obtain ⟨p, p1, p2, p3⟩ := py_ok ha
  obtain ⟨q, q1, q2, q3⟩ := py_ok hb
  refine ⟨PyData.eqv p q, ?_, eqv_iff ha hb p1 q1⟩
  unfold eqvD
  rw [p1, q1]
  show (if (SeqAt.shaped p && SeqAt.shaped q) = true then some (PyData.eqv p q) else none) = _
  rw [if_pos]
  simp only [SeqAt.shaped, Bool.and_eq_true, decide_eq_true_eq]
  exact ⟨⟨p2, by omega⟩, q2, by omega⟩
theorem ne_self {a : D} (ha : okQ a = true) (da : dpQ a <= 60) : neDD a a = .ok (.bl false) := by
  obtain ⟨r, e, h⟩ := eqv_dec ha ha da da
  unfold neDD
  rw [e, h.mpr rfl]
  rfl
end P2
namespace FM
noncomputable def g (a b : Int) : Int := (Int.gcd a b : Int)
theorem g_pos {a b : Int} (hb : b ≠ 0) : 0 < g a b := by
  unfold g
  have h := Int.gcd_pos_of_ne_zero_right a hb
  omega
theorem g_dvd1 (a b : Int) : g a b ∣ a := Int.gcd_dvd_left ..
theorem g_dvd2 (a b : Int) : g a b ∣ b := Int.gcd_dvd_right ..
noncomputable def dv (t b : Int) : Int := if b < 0 then -(g t b) else g t b
noncomputable def top (t b : Int) : Int := t.fdiv (dv t b)
noncomputable def bot (t b : Int) : Int := b.fdiv (dv t b)
theorem dv_ne {t b : Int} (hb : b ≠ 0) : dv t b ≠ 0 := by
  have := g_pos (a := t) hb
  unfold dv; split <;> omega
theorem fdiv_of_dvd {a d q : Int} (hd : d ≠ 0) (h : a = d * q) : a.fdiv d = q := by
  subst h
  rw [Int.mul_comm]
  exact Int.mul_fdiv_cancel q hd
theorem split {t b : Int} (hb : b ≠ 0) : t = dv t b * top t b /\ b = dv t b * bot t b := by
  have hd := dv_ne (t := t) hb
  have h1 : dv t b ∣ t := by
    unfold dv; split
    · exact Int.neg_dvd.mpr (g_dvd1 t b)
    · exact g_dvd1 t b
  have h2 : dv t b ∣ b := by
    unfold dv; split
    · exact Int.neg_dvd.mpr (g_dvd2 t b)
    · exact g_dvd2 t b
  obtain ⟨p, hp⟩ := h1
  obtain ⟨q, hq⟩ := h2
  constructor
  · show t = dv t b * t.fdiv (dv t b)
    rw [fdiv_of_dvd hd hp]; exact hp
  · show b = dv t b * b.fdiv (dv t b)
    rw [fdiv_of_dvd hd hq]; exact hq
structure Low (p q : Int) : Prop where
  pos : 0 < q
  one : Int.gcd p q = 1
theorem low_of {t b : Int} (hb : b ≠ 0) : Low (top t b) (bot t b) := by
  obtain ⟨h1, h2⟩ := split (t := t) hb
  have hd := dv_ne (t := t) hb
  have hg := g_pos (a := t) hb
  have hab : (dv t b).natAbs = Int.gcd t b := by
    unfold dv g; split <;> omega
  refine ⟨?_, ?_⟩
  · rcases Int.lt_trichotomy b 0 with h | h | h
    · have e : dv t b = -(g t b) := by unfold dv; rw [if_pos h]
      rw [e] at h2
      refine Int.lt_of_not_ge fun hn => ?_
      have : 0 <= -(g t b) * bot t b := by
        have := Int.mul_nonneg_of_nonpos_of_nonpos (show -(g t b) <= 0 by omega) hn
        exact this
      omega
    · exact absurd h hb
    · have e : dv t b = g t b := by unfold dv; rw [if_neg (by omega)]
      rw [e] at h2
      refine Int.lt_of_not_ge fun hn => ?_
      have : g t b * bot t b <= 0 := Int.mul_nonpos_of_nonneg_of_nonpos (Int.le_of_lt hg) hn
      omega
  · have e : Int.gcd (dv t b * top t b) (dv t b * bot t b) = (dv t b).natAbs * Int.gcd (top t b) (bot t b) := Int.gcd_mul_left ..
    rw [← h1, ← h2, hab] at e
    have hz : 0 < Int.gcd t b := by unfold g at hg; omega
    exact (Nat.eq_of_mul_eq_mul_left hz (by rw [Nat.mul_one]; exact e)).symm
theorem cross {t b : Int} (hb : b ≠ 0) : top t b * b = t * bot t b := by
  obtain ⟨h1, h2⟩ := split (t := t) hb
  have e1 : top t b * b = top t b * (dv t b * bot t b) := by rw [← h2]
  have e2 : t * bot t b = (dv t b * top t b) * bot t b := by rw [← h1]
  rw [e1, e2]
  rw [← Int.mul_assoc, Int.mul_comm (top t b)]
theorem cop {a b c : Int} (h : Int.gcd a b = 1) (d : a ∣ b * c) : a ∣ c := by
  have h' : Nat.Coprime a.natAbs b.natAbs := h
  have d' : a.natAbs ∣ b.natAbs * c.natAbs := by
    rw [← Int.natAbs_mul]; exact Int.natAbs_dvd_natAbs.mpr d
  exact Int.natAbs_dvd_natAbs.mp (h'.dvd_of_dvd_mul_left d')
theorem low_eq {p q p' q' : Int} (a : Low p q) (b : Low p' q') (h : p * q' = p' * q) : p = p' /\ q = q' := by
  obtain ⟨hq, g1⟩ := a
  obtain ⟨hq', g2⟩ := b
  have d1 : q ∣ q' := by
    have : q ∣ p * q' := by rw [h]; exact Int.dvd_mul_left ..
    exact cop (by rw [Int.gcd_comm]; exact g1) this
  have d2 : q' ∣ q := by
    have : q' ∣ p' * q := by rw [← h]; exact Int.dvd_mul_left ..
    exact cop (by rw [Int.gcd_comm]; exact g2) this
  have e : q = q' := Int.dvd_antisymm (Int.le_of_lt hq) (Int.le_of_lt hq') d1 d2
  subst e
  exact ⟨Int.eq_of_mul_eq_mul_right (by omega) h, rfl⟩
theorem scaled {p q k : Int} (L : Low p q) (hk : k ≠ 0) : top (p * k) (q * k) = p /\ bot (p * k) (q * k) = q := by
  have hq : q ≠ 0 := by have := L.pos; omega
  have hb : q * k ≠ 0 := Int.mul_ne_zero hq hk
  refine low_eq (low_of hb) L ?_
  have c := cross (t := p * k) hb
  -- top * (q * k) = (p * k) * bot
  refine Int.eq_of_mul_eq_mul_right hk ?_
  rw [Int.mul_assoc, c, Int.mul_assoc, Int.mul_assoc, Int.mul_comm k]
theorem turned {p q k : Int} (L : Low p q) (hk : k ≠ 0) : top (0 - p * k) (0 - q * k) = p /\ bot (0 - p * k) (0 - q * k) = q := by
  have e1 : 0 - p * k = p * (-k) := by rw [Int.mul_neg]; omega
  have e2 : 0 - q * k = q * (-k) := by rw [Int.mul_neg]; omega
  rw [e1, e2]
  exact scaled L (by omega)
end FM
namespace T2
open PySem PySem.NumText TM
structure Ok (t b : Int) : Prop where
  low : FM.Low t b
  ht : t.natAbs < 10 ^ 60
  hb : b.natAbs < 10 ^ 60
end T2
namespace T4
open PySem PySem.NumText TM
end T4
namespace TR
open PySem PySem.NumText TM T2
noncomputable def keyL : List (List Nat) := [[109, 97, 114, 107], [102, 105, 108, 108], [104, 101, 114, 101], [98, 97, 99, 107], [111, 110], [97, 116], [97, 103, 111], [117, 110, 116, 105, 108], [97, 98, 115], [97, 110, 100], [111, 114], [110, 111, 116]]
noncomputable def ltr (c : Nat) : Bool := decide (97 <= c) && decide (c <= 122)
noncomputable def wordB (m : List Nat) : Bool := decide (m ≠ []) && decide (m.length <= 8) && m.all ltr && !decide (m ∈ keyL)
structure Ok (m : List Nat) (t u : Nat) (n : Int) : Prop where
  m : wordB m = true
  t : t <= 1000000000
  u : u <= 1000000000
  n : n.natAbs < 10 ^ 60
end TR
set_option exponentiation.threshold 500
local macro_rules | `(tactic| walk_at "den") => `(tactic| try simp (disch := first | assumption | decide | exact Nat.le_of_ble_eq_true rfl) only [P2.q_bind_k,P2.q_bind_x,P2.q_bind_b,P2.q_toS_k,P2.q_toS_x,P2.q_toS_b,P2.q_seq_n,P2.q_seq_r,P2.q_seq_x,P2.q_seq_b,P2.q_turn_n,P2.q_turn_c,P2.q_turn_k,P2.q_turn_r,P2.q_turn_b,P2.q_turn_x,P2.q_fin_r,P2.q_fin_n,P2.q_fin_x,P2.q_noEx_k,P2.q_okO_k,P2.q_ofO_s,P2.q_sSeq_a,P2.q_sNil_a,P2.q_sRet_a,P2.q_sExpr_a,P2.q_sSet_a,P2.q_sIf_a,P2.q_dC_a,P2.q_d1_a,P2.q_d2_a,P2.q_b1B_a,P2.q_b1T_a,P2.q_bAnd_a,P2.q_bOr_a,P2.q_bNot_a,P2.q_dAnd_a,P2.q_dOr_a,P2.q_dNot_a,P2.q_dIf_a,P2.q_dA_a,P2.q_aNil_a,P2.q_aCons_a,P2.q_asN_a,P2.q_dMt_a,P2.q_dSl_a,P2.q_dComp_a,P2.q_sFor_a,P2.q_toO_s,P2.q_gV_a,P2.q_tB_b,P2.q_tT_b,P2.q_tT_i,P2.q_tT_n,P2.q_tT_l,P2.q_tT_t,P2.q_add_i,P2.q_sub_i,P2.q_fdiv_p,P2.q_mod_p,P2.q_lt_i,P2.q_le_i,P2.q_gt_i,P2.q_ge_i,P2.q_neg_i,P2.q_eq_i,P2.q_eq_s,P2.q_eq_b,P2.q_ne_i,P2.q_ne_s,P2.q_in_s,P2.q_ix_l,P2.q_ix_t,P2.q_ix_s,P2.q_sl_l,P2.q_sl_s,P2.q_pI_i,P2.q_len_s,P2.q_len_l,P2.q_len_t,P2.q_abs_i,P2.q_max_i,P2.q_int_s,P2.q_all_l,P2.q_any_l,P2.q_st_s,P2.q_zf_s,P2.q_hs_s,P2.q_fit_p,P2.q_add_sp,P2.q_add_lp,P2.q_mkT_p,P2.q_asI_l,P2.q_asI_t,P2.q_asI_s,P2.q_fmt_s,P2.q_jNil_a,P2.q_jCons_k,P2.q_isX_i,P2.q_isX_b,P2.q_isX_s,P2.q_isX_t,P2.q_isX_l,P2.q_slW_l,P2.q_slW_s,P2.q_is_bb,P2.q_isn_bb,P2.q_is_nn,P2.q_isn_nn,P2.q_is_tn,P2.q_isn_tn,P2.q_v0,P2.q_v1,P2.q_v2,P2.q_v3,P2.q_v4,P2.q_v5,P2.q_v6,P2.q_v7,P2.q_v8,P2.q_v9,P2.q_v10,P2.q_v11,P2.q_v12,P2.q_v13,P2.startD,List.map_cons,List.map_nil,List.length_cons,List.length_nil,Nat.sub_self,Nat.reduceAdd,Nat.reduceSub,List.replicate_zero,List.replicate_succ,List.append_nil,List.nil_append,List.cons_append,List.set_cons_zero,List.set_cons_succ,if_true,if_false,Nat.reduceLT,Nat.zero_lt_succ,Bool.not_true,Bool.not_false,Bool.false_eq_true,reduceIte,decide_true,decide_false,Int.reduceLT,Int.reduceEq,Int.reduceNeg,Int.reducePow,Int.reduceSub,Int.reduceAdd,Int.reduceMul,List.length_set])
namespace WP
open PySem L2 P2 TM T2 PySem.NumText
variable {a : Ad}
noncomputable def mkS (cs : List Nat) : Str := ⟨cs.toArray⟩
theorem cds_mk (cs : List Nat) : cds (mkS cs) = cs := rfl
theorem len_mk (cs : List Nat) : (mkS cs).length = cs.length := by rw [len_cds, cds_mk]
noncomputable abbrev fr (t b : Int) : D := .tup [.int (FM.top t b), .int (FM.bot t b)]
end WP
namespace W12
open PySem L2 P2 WP TM PySem.NumText
variable {a : Ad}
theorem atI_getD (ns : List Int) (k : Nat) (h : k < ns.length) : L2.atI (ns.map D.int) (k : Int) = some (.int (ns.getD k 0)) := by
  refine atI_nat ?_
  rw [List.getElem?_map, List.getElem?_eq_getElem h, List.getD_eq_getElem?_getD, List.getElem?_eq_getElem h]; rfl
theorem m_cell (ns : List Int) (k : Nat) : finT (gl_cell_at a (startD 2 [.lst (ns.map .int), .int k])) = .ok (.int (ns.getD k 0)) := by
  unfold gl_cell_at
  walk_at "den"
  rw [List.length_map]
  by_cases h : k < ns.length
  · rw [if_pos (decide_eq_true (by omega)), atI_getD ns k h]
    walk_at "den"
  · rw [if_neg (by simp; omega)]
    walk_at "den"
    rw [List.getD_eq_getElem?_getD, List.getElem?_eq_none (by omega)]; rfl
noncomputable def oneC (k : Nat) : Nat := [122, 98, 120].getD k 98
noncomputable def mastL (size place k : Nat) : List Nat := List.replicate place 113 ++ oneC k :: List.replicate (size - 1 - place) 113
theorem mast_ok : ∀ size, size < 8 -> ∀ place, place < size + 1 -> ∀ k, k < 3 -> PyData.strOk (mkS (mastL (size + 1) place k)) = true := by decide +kernel
theorem mul_q : ∀ n : Nat, n < 8 -> okMulS (Str.ofString "q") (n : Int) = true /\ Txt.mul (Str.ofString "q") (n : Int) = mkS (List.replicate n 113) := by decide +kernel
theorem zbx_at : ∀ k : Nat, k < 3 -> L2.atI (Str.ofString "zbx").cps.toList (k : Int) = some (oneC k) := by decide
theorem m_mast (c k : Int) : ∃ m, PyData.strOk m = true /\ finT (gl_mast a (startD 4 [.int c, .int k])) = .ok (.str m) := by
  have h8 : 0 <= c % 8 /\ c % 8 < 8 := by omega
  obtain ⟨s, hs⟩ := Int.eq_ofNat_of_zero_le h8.1
  have hp : (0 : Int) < 1 + (s : Int) := by omega
  have hpl := Int.emod_nonneg (c / 8) (show (1 : Int) + s ≠ 0 by omega)
  have hpl2 := Int.emod_lt_of_pos (c / 8) hp
  obtain ⟨p, hpe⟩ := Int.eq_ofNat_of_zero_le hpl
  obtain ⟨j, hj⟩ := Int.eq_ofNat_of_zero_le (show 0 <= k % 3 by omega)
  have j3 : j < 3 := by omega
  have s8 : s < 8 := by omega
  have ps : p < s + 1 := by omega
  refine ⟨mkS (mastL (s + 1) p j), mast_ok s s8 p ps j j3, ?_⟩
  have a2 := zbx_at j j3
  obtain ⟨o1, t1⟩ := mul_q p (by omega)
  obtain ⟨o2, t2⟩ := mul_q (s - p) (by omega)
  have e3 : (1 : Int) + (s : Int) - 1 - (p : Int) = ((s - p : Nat) : Int) := by omega
  have m1 : mulUD (.str (Str.ofString "q")) (.int (p : Int)) = .ok (.str (mkS (List.replicate p 113))) := by
    show (if okMulS (Str.ofString "q") (p : Int) = true then R.ok (D.str (Txt.mul (Str.ofString "q") (p : Int))) else .bad) = _
    rw [if_pos o1, t1]
  have m2 : mulUD (.str (Str.ofString "q")) (.int ((s - p : Nat) : Int)) = .ok (.str (mkS (List.replicate (s - p) 113))) := by
    show (if okMulS (Str.ofString "q") ((s - p : Nat) : Int) = true then R.ok (D.str (Txt.mul (Str.ofString "q") ((s - p : Nat) : Int))) else .bad) = _
    rw [if_pos o2, t2]
  have l1 : (Str.ofString "zbx").length <= sizeLine := by decide
  have z1 : (mkS (List.replicate p 113)).length <= 1000 := by rw [len_mk, List.length_replicate]; omega
  have z2 : (⟨#[oneC j]⟩ : Str).length <= 1000 := by show 1 <= 1000; decide
  have z3 : (mkS (List.replicate p 113) ++ (⟨#[oneC j]⟩ : Str)).length <= 1000 := by
    rw [len_cds, cds_app, List.length_append, ← len_cds, ← len_cds, len_mk, List.length_replicate]
    have : (⟨#[oneC j]⟩ : Str).length = 1 := rfl
    omega
  have z4 : (mkS (List.replicate (s - p) 113)).length <= 1000 := by rw [len_mk, List.length_replicate]; omega
  unfold gl_mast
  iterate 7 (walk_at "den"; try simp only [hs, hpe, hj, q_mod_p hp, a2, if_pos l1, e3, m1, m2])
  congr 2
  refine ext ?_
  rw [cds_app, cds_app, cds_mk, cds_mk, cds_mk]
  unfold mastL
  rw [show s + 1 - 1 - p = s - p by omega, List.append_assoc]
  rfl
structure Rr where
  m : Str
  t : Int
  u : Int
  n : Int
noncomputable def Rr.d (r : Rr) : D := .tup [.str r.m, .int r.t, .int r.u, .int r.n]
theorem m_one {Fm : List D -> R D} (hm : ∀ c k : Int, ∃ m, PyData.strOk m = true /\ Fm [.int c, .int k] = .ok (.str m)) (h b c : Int) :
    ∃ r : Rr, PyData.strOk r.m = true /\ finT (gl_one a Fm (startD 7 [.int h, .int b, .int c])) = .ok r.d := by
  have pw : powD (.int 10) (.int 60) = .ok (.int 1000000000000000000000000000000000000000000000000000000000000) := rfl
  have pw9 : powD (.int 10) (.int 9) = .ok (.int 1000000000) := rfl
  have w0 : mulUD (.int 2) (.int 1000000000000000000000000000000000000000000000000000000000000) = .ok (.int 2000000000000000000000000000000000000000000000000000000000000) := rfl
  have w1 : mulUD (.int (c % 65521)) (.int 48271) = .ok (.int (c % 65521 * 48271)) := q_mulU_r (by decide) (by decide)
  generalize hM : c % 65521 * 48271 % 65519 = M
  obtain ⟨m, mw, mf⟩ := hm h M
  refine ⟨⟨m, if M / 18 % 5 = 4 then c / 7 % 1000000001 else b + M / 3 % 6, if M / 270 % 5 = 4 then c / 11 % 1000000001 else M / 90 % 3, if c / 5 % 3 = 0 then c / 15 % 1999999999999999999999999999999999999999999999999999999999999 - 1000000000000000000000000000000000000000000000000000000000000 + 1 else c % 5 - 2⟩, mw, ?_⟩
  unfold gl_one Rr.d
  by_cases h1 : M / 18 % 5 = 4 <;> by_cases h2 : M / 270 % 5 = 4 <;> by_cases h3 : c / 5 % 3 = 0 <;> (iterate 9 (walk_at "den"; try simp only [pw, pw9, w0, w1, hM, mf, h1, h2, h3, decide_true, decide_false, if_true, if_false, Bool.false_eq_true, Int.reduceAdd, Int.reduceSub]))
theorem okQ_L : ∀ {L : List Rr}, (∀ r ∈ L, PyData.strOk r.m = true) -> okQs (L.map Rr.d) = true
  | [], _ => rfl
  | r :: L, h => by
    show (okQ r.d && okQs (L.map Rr.d)) = true
    rw [okQ_L fun x hx => h x (.tail _ hx)]
    show ((PyData.strOk r.m && (true && (true && (true && true)))) && true) = true
    rw [h r (.head _)]; rfl
theorem dpQ_L : ∀ L : List Rr, dpQs (L.map Rr.d) <= 10
  | [] => by show 0 <= 10; decide
  | r :: L => by
    show max (dpQ r.d) (dpQs (L.map Rr.d)) <= 10
    have h1 : dpQ r.d <= 10 := by show dpQs [.str r.m, .int r.t, .int r.u, .int r.n] + 1 <= 10; exact Nat.le_of_ble_eq_true rfl
    have := dpQ_L L
    omega
theorem ne_L {L : List Rr} (h : ∀ r ∈ L, PyData.strOk r.m = true) : neDD (.lst (L.map Rr.d)) (.lst (L.map Rr.d)) = .ok (.bl false) := ne_self (okQ_L h) (by show dpQs (L.map Rr.d) + 1 <= 60; have := dpQ_L L; omega)
theorem is_one (r : Rr) (s0 s1 : Sl) : b1l_is a [s0, s1, .sh r.d] = .nx [s0, s1, .sh r.d] := rfl
theorem is_loop (s0 s1 : Sl) : ∀ (L : List Rr) (s2 : Sl), ∃ s3, forD (gV 2) (b1l_is a) (L.map Rr.d) [s0, s1, s2] = .nx [s0, s1, s3]
  | [], s2 => ⟨s2, rfl⟩
  | r :: L, s2 => by
    obtain ⟨s3, e⟩ := is_loop s0 s1 L (.sh r.d)
    refine ⟨s3, ?_⟩
    rw [← e]
    show turnT (b1l_is a [s0, s1, .sh r.d]) (forD (gV 2) (b1l_is a) (L.map Rr.d)) = _
    rw [is_one]
    rfl
theorem m_is {L : List Rr} (h : ∀ r ∈ L, PyData.strOk r.m = true) : finT (gl_is a (startD 3 [.lst (L.map Rr.d), .lst (L.map Rr.d)])) = .ok (.bl true) := by
  have hn := ne_L h
  obtain ⟨s3, e⟩ := is_loop (a := a) (.sh (.lst (L.map Rr.d))) (.sh (.lst (L.map Rr.d))) L .no
  generalize hX : L.map Rr.d = X at hn e
  unfold gl_is
  iterate 4 (walk_at "den"; try simp only [hn])
  show finT (seqT (forD (gV 2) (b1l_is a) X [.sh (.lst X), .sh (.lst X), .no]) _) = _
  rw [e]
  rfl
end W12
namespace W12
open PySem L2 P2 WP TM PySem.NumText
variable {a : Ad}
section
variable {i : Nat} {f g : ZEv -> Sto -> RX Z} {c : ZEv -> Sto -> RX Bool} {A B : ZEv -> Sto -> RTZ} {ρ : ZEv} {S S1 S2 : Sto} {z : Z}
theorem y_set (h : f ρ S = .ok z S1) (hi : i < ρ.length) : ySeq (ySet i f) B ρ S = B (ρ.set i (some z)) S1 := by
  unfold ySeq ySet
  rw [h]
  show seqZ (if i < ρ.length then .nx (ρ.set i (some z)) S1 else .bad) B = _
  rw [if_pos hi]; rfl
theorem y_ifF (h : c ρ S = .ok false S1) : ySeq (yIf c A yNil) B ρ S = B ρ S1 := by
  unfold ySeq yIf
  rw [h]; rfl
theorem y_ifR (h : c ρ S = .ok true S1) (hf : f ρ S1 = .ok z S2) : ySeq (yIf c (yRet f) yNil) B ρ S = .rt z S2 := by
  unfold ySeq yIf
  rw [h]
  show seqZ (yRet f ρ S1) B = _
  unfold yRet
  rw [hf]; rfl
theorem y_ret (h : f ρ S = .ok z S1) : yRet f ρ S = .rt z S1 := by unfold yRet; rw [h]; rfl
theorem y_nx (h : A ρ S = .nx ρ S1) : ySeq A B ρ S = B ρ S1 := by unfold ySeq; rw [h]; rfl
theorem z_and (h1 : c ρ S = .ok true S1) {e : ZEv -> Sto -> RX Bool} : zAndB c e ρ S = e ρ S1 := by unfold zAndB; rw [h1]; rfl
theorem z_andF (h1 : c ρ S = .ok false S1) {e : ZEv -> Sto -> RX Bool} : zAndB c e ρ S = .ok false S1 := by unfold zAndB; rw [h1]; rfl
theorem z_fld {C : Addr} {n m : Nat} (h : f ρ S = .ok (.loc n) S) (h1 : S[n]? = some (.ob C [(Str.ofString "latest", .loc m)])) : zFld C f (Str.ofString "latest") ρ S = .ok (.loc m) S := by
  unfold zFld
  rw [h]
  show (match S[n]? with
    | some (.ob C' fs) => if C' = C then (match fs.lookup (Str.ofString "latest") with
      | some z => RX.ok z S
      | none => .bad) else .bad
    | _ => .bad) = _
  rw [h1]
  show (if C = C then _ else _) = _
  rw [if_pos rfl]
  rfl
theorem z_meth0 {C : Addr} {mn : Str} {F : List Z -> Sto -> RX Z} {n m : Nat} (h : f ρ S = .ok (.loc n) S) (h1 : S[n]? = some (.ob C [(Str.ofString "latest", .loc m)])) (hm : List.lookup mn [(Str.ofString "latest", Z.loc m)] = none) : zMeth C mn F [] f zNil ρ S = F [.loc n] S := by
  unfold zMeth
  rw [h]
  show (match S[n]? with
    | some (.ob C' us) => if C' = C /\ us.lookup mn = none then (zNil ρ S).bind fun zs S2 => F (.loc n :: (zs ++ List.map Z.d [])) S2 else .bad
    | _ => .bad) = _
  rw [h1]
  show (if C = C /\ _ then _ else _) = _
  rw [if_pos ⟨rfl, hm⟩]
  rfl
theorem z_meth1 {C : Addr} {mn : Str} {F : List Z -> Sto -> RX Z} {n m : Nat} (h : f ρ S = .ok (.loc n) S) (h1 : S[n]? = some (.ob C [(Str.ofString "latest", .loc m)])) (hm : List.lookup mn [(Str.ofString "latest", Z.loc m)] = none) (hg : g ρ S = .ok z S) : zMeth C mn F [] f (zCons g zNil) ρ S = F [.loc n, z] S := by
  unfold zMeth
  rw [h]
  show (match S[n]? with
    | some (.ob C' us) => if C' = C /\ us.lookup mn = none then (zCons g zNil ρ S).bind fun zs S2 => F (.loc n :: (zs ++ List.map Z.d [])) S2 else .bad
    | _ => .bad) = _
  rw [h1]
  show (if C = C /\ _ then _ else _) = _
  rw [if_pos ⟨rfl, hm⟩]
  unfold zCons
  rw [hg]
  rfl
theorem z_getT {n : Nat} {k : List Key} {kvs : List (List Key × Z)} (h : f ρ S = .ok (.loc n) S) (hk : g ρ S = .ok (.tk k) S) (h1 : S[n]? = some (.dt kvs)) (hv : valZ kvs k = some z) : zGetT f g ρ S = .ok z S := by
  unfold zGetT
  rw [h]
  show ((g ρ S).bind _) = _
  rw [hk]
  show (match S[n]? with
    | some (.dt kvs) => (match valZ kvs k with
      | some z => RX.ok z S
      | none => .bad)
    | _ => .bad) = _
  rw [h1]
  show (match valZ kvs k with | some z => RX.ok z S | none => .bad) = _
  rw [hv]
theorem z_getD {n : Nat} {ds : List D} {k : List Key} {kvs : List (List Key × Z)} (h : f ρ S = .ok (.loc n) S) (hk : g ρ S = .ok (.d (.tup ds)) S) (hd : keysZ ds = some k) (h1 : S[n]? = some (.dt kvs)) (hv : valZ kvs k = some z) : zGetD f g ρ S = .ok z S := by
  unfold zGetD
  rw [h]
  show ((g ρ S).bind _) = _
  rw [hk]
  show (match keysZ ds, S[n]? with
    | some k, some (.dt kvs) => (match valZ kvs k with
      | some z => RX.ok z S
      | none => .bad)
    | _, _ => .bad) = _
  rw [hd, h1]
  show (match valZ kvs k with | some z => RX.ok z S | none => .bad) = _
  rw [hv]
theorem z_in {n : Nat} {k : List Key} {kvs : List (List Key × Z)} (h : f ρ S = .ok (.loc n) S) (hk : g ρ S = .ok (.tk k) S) (h1 : S[n]? = some (.dt kvs)) : zInT g f ρ S = .ok (valZ kvs k).isSome S := by
  unfold zInT
  rw [hk]
  show ((f ρ S).bind _) = _
  rw [h]
  show (match S[n]? with
    | some (.dt kvs) => RX.ok (valZ kvs k).isSome S
    | _ => .bad) = _
  rw [h1]
theorem y_dput {n : Nat} {k : List Key} {kvs : List (List Key × Z)} {e : ZEv -> Sto -> RX Z} (he : e ρ S = .ok z S) (h : f ρ S = .ok (.loc n) S) (hk : g ρ S = .ok (.tk k) S) (h1 : S[n]? = some (.dt kvs)) (hl : kvs.length < sizeLine) : yDputT f g e ρ S = .nx ρ (S.set n (.dt (putZ kvs k z))) := by
  unfold yDputT
  rw [he]
  show toZ (f ρ S) _ = _
  rw [h]
  show toZ (g ρ S) _ = _
  rw [hk]
  show (match S[n]? with
    | some (.dt kvs) => if kvs.length < sizeLine then RTZ.nx ρ (S.set n (.dt (putZ kvs k z))) else .bad
    | _ => .bad) = _
  rw [h1]
  show (if kvs.length < sizeLine then _ else _) = _
  rw [if_pos hl]
theorem z_cons {fs : ZEv -> Sto -> RX (List Z)} {zs : List Z} (h : f ρ S = .ok z S) (hr : fs ρ S = .ok zs S) : zCons f fs ρ S = .ok (z :: zs) S := by
  unfold zCons
  rw [h]
  show ((fs ρ S).bind _) = _
  rw [hr]
  rfl
theorem z_F {fs : ZEv -> Sto -> RX (List Z)} {F : List D -> R D} {ds : List D} {d : D} (h : fs ρ S = .ok (ds.map Z.d) S1) (hd : F ds = .ok d) : zF F fs ρ S = .ok (.d d) S1 := by
  unfold zF
  rw [h]
  show (match asDs (ds.map Z.d) with
    | some ds => (upR (F ds) S1).bind fun d S => RX.ok (Z.d d) S
    | none => .bad) = _
  rw [asDs_of]
  show (upR (F ds) S1).bind _ = _
  rw [hd]
  rfl
theorem z_ge {i j m n : Int} (h : f ρ S = .ok (.d (.tup [.int i, .int j])) S) (hg : g ρ S = .ok (.d (.tup [.int m, .int n])) S) : zTst tB (z2 gePD f g) ρ S = .ok (geP i j m n) S := by
  unfold zTst z2
  rw [h]
  show (((g ρ S).bind _).bind _) = _
  rw [hg]
  rfl
end
noncomputable abbrev Kk := Int × Str
noncomputable abbrev Vv := Int × Int
noncomputable abbrev Bk := List (Kk × Vv)
noncomputable def encK (k : Kk) : List Key := [.inl k.1, .inr k.2]
noncomputable def encV (v : Vv) : Z := .d (.tup [.int v.1, .int v.2])
noncomputable def enc (p : Kk × Vv) : List Key × Z := (encK p.1, encV p.2)
noncomputable def cel (b : Bk) : Cell := .dt (b.map enc)
theorem encK_inj {k j : Kk} (h : encK k = encK j) : k = j := by
  obtain ⟨k1, k2⟩ := k
  obtain ⟨j1, j2⟩ := j
  injection h with h1 h2
  injection h1 with h1
  injection h2 with h2 _
  injection h2 with h2
  rw [show k1 = j1 from h1, show k2 = j2 from h2]
noncomputable def valM (b : Bk) (k : Kk) : Option Vv := (b.find? fun p => decide (p.1 = k)).map Prod.snd
noncomputable def putM (b : Bk) (k : Kk) (v : Vv) : Bk := if (b.any fun p => decide (p.1 = k)) = true then b.map (fun p => if p.1 = k then (p.1, v) else p) else b ++ [(k, v)]
theorem dec_enc (k : Kk) : ((fun kv : List Key × Z => decide (kv.1 = encK k)) ∘ enc) = fun p => decide (p.1 = k) := funext fun p => decide_eq_decide.mpr ⟨encK_inj, fun h => by show encK p.1 = _; rw [h]⟩
theorem val_enc (b : Bk) (k : Kk) : valZ (b.map enc) (encK k) = (valM b k).map encV := by
  unfold valZ valM
  rw [List.find?_map, Option.map_map, Option.map_map, dec_enc]
  rfl
theorem put_enc (b : Bk) (k : Kk) (v : Vv) : putZ (b.map enc) (encK k) (encV v) = (putM b k v).map enc := by
  unfold putZ putM
  rw [List.any_map, dec_enc]
  by_cases h : (b.any fun p => decide (p.1 = k)) = true
  · rw [if_pos h, if_pos h, List.map_map, List.map_map]
    refine List.map_congr_left fun p _ => ?_
    show (if encK p.1 = encK k then (encK p.1, encV v) else enc p) = enc (if p.1 = k then (p.1, v) else p)
    by_cases e : p.1 = k
    · rw [if_pos (by rw [e]), if_pos e]; rfl
    · rw [if_neg fun w => e (encK_inj w), if_neg e]
  · rw [if_neg h, if_neg h, List.map_append]; rfl
noncomputable def stepM (b : Bk) (r : Rr) : Bk × Bool := match valM b (r.t, r.m) with
  | some v => if geP v.1 v.2 r.u r.n = true then (b, false) else (putM b (r.t, r.m) (r.u, r.n), true)
  | none => (putM b (r.t, r.m) (r.u, r.n), true)
theorem step_none {b : Bk} {r : Rr} (h : valM b (r.t, r.m) = none) : stepM b r = (putM b (r.t, r.m) (r.u, r.n), true) := by unfold stepM; rw [h]
theorem step_ge {b : Bk} {r : Rr} {v : Vv} (h : valM b (r.t, r.m) = some v) (g : geP v.1 v.2 r.u r.n = true) : stepM b r = (b, false) := by
  unfold stepM; rw [h]
  show (if _ then _ else _) = _
  rw [if_pos g]
theorem step_lt {b : Bk} {r : Rr} {v : Vv} (h : valM b (r.t, r.m) = some v) (g : geP v.1 v.2 r.u r.n = false) : stepM b r = (putM b (r.t, r.m) (r.u, r.n), true) := by
  unfold stepM; rw [h]
  show (if _ then _ else _) = _
  rw [if_neg (by rw [g]; exact Bool.false_ne_true)]
theorem sz_lt {n : Nat} (h : n < 1000) : n < sizeLine := by rw [sizeLine_eq]; omega
theorem set_same {α : Type} {l : List α} {n : Nat} {x : α} (h : l[n]? = some x) : l.set n x = l := by
  apply List.ext_getElem?
  intro i
  by_cases e : n = i
  · subst e
    rw [List.getElem?_set_self (List.getElem?_eq_some_iff.mp h).1, h]
  · rw [List.getElem?_set_ne e]
theorem set_last {α : Type} (l : List α) (x y : α) : (l ++ [x]).set l.length y = l ++ [y] := by
  rw [List.set_append_right _ _ (Nat.le_refl _), Nat.sub_self]; rfl
theorem get_last {α : Type} (l : List α) (x : α) : (l ++ [x])[l.length]? = some x := by simp
theorem get_in {α : Type} {l r : List α} {n : Nat} {x : α} (h : l[n]? = some x) : (l ++ r)[n]? = some x := by
  rw [List.getElem?_append_left (List.getElem?_eq_some_iff.mp h).1]; exact h
theorem m_put {S : Sto} {n m c : Nat} {b : Bk} (r : Rr) (h1 : S[n]? = some (.ob a.Book [(Str.ofString "latest", .loc m)])) (h2 : S[m]? = some (cel b)) (hb : b.length < 1000) :
    finZ (g_Book_put a c (startZ 4 [.loc n, .d r.d]) S) = .ok (.d (.bl (stepM b r).2)) (S.set m (cel (stepM b r).1)) := by
  unfold g_Book_put
  show finZ (ySeq (ySet 2 _) _ [some (.loc n), some (.d r.d), none, none] S) = _
  rw [y_set (z := .tk (encK (r.t, r.m))) (S1 := S) rfl (by show 2 < 4; decide), y_set (z := .d (.tup [.int r.u, .int r.n])) (S1 := S) rfl (by show 3 < 4; decide)]
  show finZ (ySeq (yIf _ _ _) _ [some (.loc n), some (.d r.d), some (.tk (encK (r.t, r.m))), some (.d (.tup [.int r.u, .int r.n]))] S) = _
  generalize hρ : [some (Z.loc n), some (Z.d r.d), some (Z.tk (encK (r.t, r.m))), some (Z.d (.tup [.int r.u, .int r.n]))] = ρ
  have v0 : zV 0 ρ S = .ok (.loc n) S := by rw [← hρ]; rfl
  have v2 : zV 2 ρ S = .ok (.tk (encK (r.t, r.m))) S := by rw [← hρ]; rfl
  have v3 : zD (dV 3) ρ S = .ok (.d (.tup [.int r.u, .int r.n])) S := by rw [← hρ]; rfl
  have fl := z_fld v0 h1
  have hin := z_in fl v2 h2
  rw [val_enc] at hin
  have put : yDputT (zFld a.Book (zV 0) (Str.ofString "latest")) (zV 2) (zD (dV 3)) ρ S = .nx ρ (S.set m (cel (putM b (r.t, r.m) (r.u, r.n)))) := by
    rw [y_dput v3 fl v2 h2 (by rw [List.length_map]; exact sz_lt hb)]
    rw [show (Z.d (.tup [.int r.u, .int r.n])) = encV (r.u, r.n) from rfl, put_enc]
    rfl
  cases hv : valM b (r.t, r.m) with
  | none =>
    rw [step_none hv]
    rw [hv] at hin
    rw [y_ifF (S1 := S) (z_andF hin), y_nx put]
    rfl
  | some v =>
    rw [hv] at hin
    have hg := z_ge (z_getT fl v2 h2 (by rw [val_enc, hv]; rfl)) v3
    cases e : geP v.1 v.2 r.u r.n with
    | true =>
      rw [step_ge hv e]
      rw [e] at hg
      rw [y_ifR (z := .d (.bl false)) (S1 := S) (S2 := S) ((z_and hin).trans hg) rfl]
      show _ = RX.ok (Z.d (.bl false)) (S.set m (cel b))
      rw [set_same h2]
      rfl
    | false =>
      rw [step_lt hv e]
      rw [e] at hg
      rw [y_ifF (S1 := S) ((z_and hin).trans hg), y_nx put]
      rfl
theorem m_lput {S : Sto} {m c : Nat} {b : Bk} (r : Rr) (h2 : S[m]? = some (cel b)) (hb : b.length < 1000) :
    finZ (gl_put a c (startZ 3 [.loc m, .d r.d]) S) = .ok (.d (.bl (stepM b r).2)) (S.set m (cel (stepM b r).1)) := by
  unfold gl_put
  show finZ (ySeq (ySet 2 _) _ [some (.loc m), some (.d r.d), none] S) = _
  rw [y_set (z := .tk (encK (r.t, r.m))) (S1 := S) rfl (by show 2 < 3; decide)]
  show finZ (ySeq (yIf _ _ _) _ [some (.loc m), some (.d r.d), some (.tk (encK (r.t, r.m)))] S) = _
  generalize hρ : [some (Z.loc m), some (Z.d r.d), some (Z.tk (encK (r.t, r.m)))] = ρ
  have fl : zV 0 ρ S = .ok (.loc m) S := by rw [← hρ]; rfl
  have v2 : zV 2 ρ S = .ok (.tk (encK (r.t, r.m))) S := by rw [← hρ]; rfl
  have v3 : zD (dA mkT (aCons (d2 ixD (dV 1) (dC (.int 2))) (aCons (d2 ixD (dV 1) (dC (.int 3))) aNil))) ρ S = .ok (.d (.tup [.int r.u, .int r.n])) S := by rw [← hρ]; rfl
  have hin := z_in fl v2 h2
  rw [val_enc] at hin
  have put : yDputT (zV 0) (zV 2) (zD (dA mkT (aCons (d2 ixD (dV 1) (dC (.int 2))) (aCons (d2 ixD (dV 1) (dC (.int 3))) aNil)))) ρ S = .nx ρ (S.set m (cel (putM b (r.t, r.m) (r.u, r.n)))) := by
    rw [y_dput v3 fl v2 h2 (by rw [List.length_map]; exact sz_lt hb)]
    rw [show (Z.d (.tup [.int r.u, .int r.n])) = encV (r.u, r.n) from rfl, put_enc]
    rfl
  cases hv : valM b (r.t, r.m) with
  | none =>
    rw [step_none hv]
    rw [hv] at hin
    rw [y_ifF (S1 := S) (z_andF hin), y_nx put]
    rfl
  | some v =>
    rw [hv] at hin
    have hg := z_ge (z_getT fl v2 h2 (by rw [val_enc, hv]; rfl)) v3
    cases e : geP v.1 v.2 r.u r.n with
    | true =>
      rw [step_ge hv e]
      rw [e] at hg
      rw [y_ifR (z := .d (.bl false)) (S1 := S) (S2 := S) ((z_and hin).trans hg) rfl]
      show _ = RX.ok (Z.d (.bl false)) (S.set m (cel b))
      rw [set_same h2]
      rfl
    | false =>
      rw [step_lt hv e]
      rw [e] at hg
      rw [y_ifF (S1 := S) ((z_and hin).trans hg), y_nx put]
      rfl
noncomputable def kdat (k : Kk) : D := .tup [.int k.1, .str k.2]
noncomputable def back : D -> Kk
  | .tup [.int i, .str x] => (i, x)
  | _ => (0, Str.ofString "")
noncomputable def srt (ks : List Kk) : List Kk := (sortQL (ks.map kdat)).map back
theorem srt_map (ks : List Kk) : (srt ks).map kdat = sortQL (ks.map kdat) := by
  unfold srt
  rw [List.map_map]
  have : ∀ d ∈ sortQL (ks.map kdat), (kdat ∘ back) d = d := fun d hd => by
    obtain ⟨k, _, rfl⟩ := List.mem_map.mp ((sortQL_perm (ks.map kdat)).mem_iff.mp hd)
    rfl
  exact (List.map_congr_left this).trans (List.map_id' _)
theorem srt_perm (ks : List Kk) : (srt ks).Perm ks := by
  have := (sortQL_perm (ks.map kdat)).map back
  rw [List.map_map, show back ∘ kdat = id from rfl, List.map_id] at this
  exact this
theorem hom_kdat (ks : List Kk) : homQ (ks.map kdat) = true := by
  cases ks with
  | nil => rfl
  | cons k r =>
    show ((sgQ (kdat k)).isSome && (r.map kdat).all fun e => sgQ e == sgQ (kdat k)) = true
    rw [Bool.and_eq_true]
    refine ⟨rfl, List.all_eq_true.mpr fun e he => ?_⟩
    obtain ⟨j, _, rfl⟩ := List.mem_map.mp he
    rfl
theorem srt_cong {ks js : List Kk} (h : ks.Perm js) : srt ks = srt js := by
  have e : sortQL (ks.map kdat) = sortQL (js.map kdat) := by
    have hs : ∀ (l : List Kk), ∀ d ∈ l.map kdat, sgQ d = some [2, 0, 1] := fun l d hd => by
      obtain ⟨j, _, rfl⟩ := List.mem_map.mp hd
      rfl
    refine rising_uniq ((sortQL_perm _).trans ((h.map kdat).trans (sortQL_perm _).symm)) (fun d hd => hs ks d ((sortQL_perm _).mem_iff.mp hd)) (sortQL_rising (hs ks)) (sortQL_rising (hs js))
  unfold srt
  rw [e]
noncomputable def rdAt (b : Bk) (k : Kk) : Rr := ⟨k.2, k.1, ((valM b k).getD (0, 0)).1, ((valM b k).getD (0, 0)).2⟩
noncomputable def T (b : Bk) : List Rr := (srt (b.map Prod.fst)).map (rdAt b)
theorem val_some {b : Bk} {k : Kk} (h : k ∈ b.map Prod.fst) : ∃ v, valM b k = some v := by
  obtain ⟨p, hp, rfl⟩ := List.mem_map.mp h
  unfold valM
  cases e : b.find? fun q => decide (q.1 = p.1) with
  | some q => exact ⟨q.2, rfl⟩
  | none => have := List.find?_eq_none.mp e p hp; simp at this
theorem val_mem {b : Bk} {k : Kk} {v : Vv} (h : valM b k = some v) : k ∈ b.map Prod.fst := by
  unfold valM at h
  obtain ⟨p, e, _⟩ := Option.map_eq_some_iff.mp h
  have := List.find?_some e
  simp at this
  exact List.mem_map.mpr ⟨p, List.mem_of_find?_eq_some e, this⟩
theorem keysL_enc (b : Bk) : keysL ((b.map enc).map Prod.fst) = (b.map Prod.fst).map kdat := by
  unfold keysL
  rw [List.map_map, List.map_map, List.map_map]
  rfl
theorem zLoop_ok {α : Type} {c : ZEv -> Sto -> RX Bool} {e : ZEv -> Sto -> RX Z} {ρ0 : ZEv} {S : Sto} (g : α -> D) (p : α -> Bool) (h : α -> D) : ∀ (ks : List α) (acc : List Z),
    (∀ k ∈ ks, ∀ acc, c (ρ0.set 0 (some (.d (g k)))) (S ++ [.li acc]) = .ok (p k) (S ++ [.li acc]) /\ e (ρ0.set 0 (some (.d (g k)))) (S ++ [.li acc]) = .ok (.d (h k)) (S ++ [.li acc])) -> acc.length + ks.length < 1000 ->
    zLoop c e ρ0 S.length (ks.map g) (S ++ [.li acc]) = .ok (.loc S.length) (S ++ [.li (acc ++ (ks.filter p).map fun k => Z.d (h k))])
  | [], acc, _, _ => by
    show RX.ok (Z.loc S.length) (S ++ [.li acc]) = _
    rw [List.filter_nil, List.map_nil, List.append_nil]
  | k :: ks, acc, H, hl => by
    obtain ⟨h1, h2⟩ := H k (.head _) acc
    rw [List.map_cons]
    unfold zLoop
    rw [h1]
    rw [List.length_cons] at hl
    cases e1 : p k with
    | false =>
      show zLoop c e ρ0 S.length (ks.map g) (S ++ [.li acc]) = _
      rw [zLoop_ok g p h ks acc (fun x hx => H x (.tail _ hx)) (by omega), List.filter_cons_of_neg (by rw [e1]; exact Bool.false_ne_true)]
    | true =>
      show (match e (ρ0.set 0 (some (.d (g k)))) (S ++ [.li acc]) with
        | .ok z S2 => (match S2[S.length]? with
          | some (.li zs) => if zs.length < sizeLine then zLoop c e ρ0 S.length (ks.map g) (S2.set S.length (.li (zs ++ [z]))) else .bad
          | _ => .bad)
        | _ => .bad) = _
      rw [h2]
      show (match (S ++ [Cell.li acc])[S.length]? with
          | some (.li zs) => if zs.length < sizeLine then zLoop c e ρ0 S.length (ks.map g) ((S ++ [Cell.li acc]).set S.length (.li (zs ++ [Z.d (h k)]))) else .bad
          | _ => .bad) = _
      rw [get_last]
      show (if acc.length < sizeLine then _ else _) = _
      rw [if_pos (sz_lt (by omega)), set_last, zLoop_ok g p h ks (acc ++ [Z.d (h k)]) (fun x hx => H x (.tail _ hx)) (by rw [List.length_append, List.length_singleton]; omega), List.filter_cons_of_pos e1, List.map_cons, List.append_assoc]
      rfl
theorem m_kept {S : Sto} {n m c : Nat} {b : Bk} (h0 : S[0]? = some .mk) (h1 : S[n]? = some (.ob a.Book [(Str.ofString "latest", .loc m)])) (h2 : S[m]? = some (cel b)) (hb : b.length < 64) :
    finZ (g_Book_kept a c (startZ 1 [.loc n]) S) = .ok (.loc S.length) (S ++ [.li ((T b).map fun r => Z.d r.d)]) := by
  unfold g_Book_kept
  rw [y_ret (z := .loc S.length) (S1 := S ++ [.li ((T b).map fun r => Z.d r.d)])]
  · rfl
  have hit : zItL (zDsort (zFld a.Book (zV 0) (Str.ofString "latest"))) (startZ 1 [.loc n]) S = .ok ((srt (b.map Prod.fst)).map kdat) S := by
    have fl : zFld a.Book (zV 0) (Str.ofString "latest") (startZ 1 [.loc n]) S = .ok (.loc m) S := z_fld rfl h1
    unfold zItL zDsort
    rw [fl]
    show ((match S[m]?, S[0]? with
      | some (Cell.dt kvs), some Cell.mk => if homQ (keysL (kvs.map Prod.fst)) = true /\ kvs.length < 64 then RX.ok (Z.d (.lst (sortQL (keysL (kvs.map Prod.fst))))) S else .bad
      | _, _ => .bad) : RX Z).bind _ = _
    rw [h0, h2]
    show (if homQ (keysL ((b.map enc).map Prod.fst)) = true /\ (b.map enc).length < 64 then RX.ok (Z.d (.lst (sortQL (keysL ((b.map enc).map Prod.fst))))) S else .bad : RX Z).bind _ = _
    rw [keysL_enc, if_pos ⟨hom_kdat _, by rw [List.length_map]; exact hb⟩, srt_map]
    rfl
  unfold zComp
  rw [hit]
  show zLoop _ _ _ S.length ((srt (b.map Prod.fst)).map kdat) (S ++ [.li []]) = _
  have hlen : (srt (b.map Prod.fst)).length < 64 := by rw [(srt_perm _).length_eq, List.length_map]; exact hb
  rw [zLoop_ok kdat (fun _ => true) (fun k => (rdAt b k).d) _ [] (fun k hk acc => ⟨rfl, ?_⟩) (by simp; omega)]
  · unfold T
    rw [List.nil_append, List.filter_eq_self.mpr (fun _ _ => rfl), List.map_map]
    rfl
  obtain ⟨v, hv⟩ := val_some ((srt_perm _).mem_iff.mp hk)
  have fl : zFld a.Book (zV 1) (Str.ofString "latest") [some (.d (kdat k)), some (.loc n)] (S ++ [.li acc]) = .ok (.loc m) (S ++ [.li acc]) := z_fld rfl (get_in h1)
  have gt : zGetD (zFld a.Book (zV 1) (Str.ofString "latest")) (zD (dV 0)) [some (.d (kdat k)), some (.loc n)] (S ++ [.li acc]) = .ok (encV v) (S ++ [.li acc]) := z_getD (k := encK k) (ds := [.int k.1, .str k.2]) fl rfl rfl (get_in h2) (by rw [val_enc, hv]; rfl)
  show z2 catTD _ _ [some (.d (kdat k)), some (.loc n)] (S ++ [.li acc]) = _
  unfold z2
  show ((zGetD (zFld a.Book (zV 1) (Str.ofString "latest")) (zD (dV 0)) [some (.d (kdat k)), some (.loc n)] (S ++ [.li acc])).bind _) = _
  rw [gt]
  unfold rdAt
  rw [hv]
  rfl
theorem m_told {S : Sto} {m c : Nat} {b : Bk} (h0 : S[0]? = some .mk) (h2 : S[m]? = some (cel b)) (hb : b.length < 64) :
    finZ (gl_told a c (startZ 1 [.loc m]) S) = .ok (.loc S.length) (S ++ [.li ((T b).map fun r => Z.d r.d)]) := by
  unfold gl_told
  rw [y_ret (z := .loc S.length) (S1 := S ++ [.li ((T b).map fun r => Z.d r.d)])]
  · rfl
  have hlen : (srt (b.map Prod.fst)).length < 64 := by rw [(srt_perm _).length_eq, List.length_map]; exact hb
  have hit : zItL (zSort (zDlist (zV 0))) (startZ 1 [.loc m]) S = .ok ((srt (b.map Prod.fst)).map kdat) S := by
    unfold zItL zSort zDlist
    show (((match S[m]?, S[0]? with
      | some (Cell.dt kvs), some Cell.mk => RX.ok (Z.d (.lst (keysL (kvs.map Prod.fst)))) S
      | _, _ => .bad) : RX Z).bind _).bind _ = _
    rw [h0, h2]
    show ((RX.ok (Z.d (.lst (keysL ((b.map enc).map Prod.fst)))) S : RX Z).bind _).bind _ = _
    rw [keysL_enc]
    show (if homQ ((b.map Prod.fst).map kdat) = true /\ ((b.map Prod.fst).map kdat).length < 64 then RX.ok (Z.d (.lst (sortQL ((b.map Prod.fst).map kdat)))) S else .bad : RX Z).bind _ = _
    rw [if_pos ⟨hom_kdat _, by rw [List.length_map, List.length_map]; exact hb⟩, srt_map]
    rfl
  unfold zComp
  rw [hit]
  show zLoop _ _ _ S.length ((srt (b.map Prod.fst)).map kdat) (S ++ [.li []]) = _
  rw [zLoop_ok kdat (fun _ => true) (fun k => (rdAt b k).d) _ [] (fun k hk acc => ⟨rfl, ?_⟩) (by simp; omega)]
  · unfold T
    rw [List.nil_append, List.filter_eq_self.mpr (fun _ _ => rfl), List.map_map]
    rfl
  obtain ⟨v, hv⟩ := val_some ((srt_perm _).mem_iff.mp hk)
  have gt : zGetD (zV 1) (zD (dV 0)) [some (.d (kdat k)), some (.loc m)] (S ++ [.li acc]) = .ok (encV v) (S ++ [.li acc]) := z_getD (k := encK k) (ds := [.int k.1, .str k.2]) rfl rfl rfl (get_in h2) (by rw [val_enc, hv]; rfl)
  have g0 : z2 ixD (zGetD (zV 1) (zD (dV 0))) (zD (dC (.int 0))) [some (.d (kdat k)), some (.loc m)] (S ++ [.li acc]) = .ok (.d (.int v.1)) (S ++ [.li acc]) := by unfold z2; rw [gt]; rfl
  have g1 : z2 ixD (zGetD (zV 1) (zD (dV 0))) (zD (dC (.int 1))) [some (.d (kdat k)), some (.loc m)] (S ++ [.li acc]) = .ok (.d (.int v.2)) (S ++ [.li acc]) := by unfold z2; rw [gt]; rfl
  show zF mkT (zCons _ (zCons _ (zCons (z2 ixD (zGetD (zV 1) (zD (dV 0))) (zD (dC (.int 0)))) (zCons (z2 ixD (zGetD (zV 1) (zD (dV 0))) (zD (dC (.int 1)))) zNil)))) [some (.d (kdat k)), some (.loc m)] (S ++ [.li acc]) = _
  unfold rdAt
  rw [hv]
  exact z_F (ds := [.str k.2, .int k.1, .int v.1, .int v.2]) (z_cons rfl (z_cons rfl (z_cons g0 (z_cons g1 rfl)))) rfl
noncomputable def Bnd (S : Sto) : Prop := ∀ j, S.length <= j -> S.any (cellHas j) = false
theorem li_has (L : List D) (j : Nat) : cellHas j (.li (L.map Z.d)) = false := by
  show (L.map Z.d).any (hasLoc j) = false
  rw [List.any_map]
  exact List.any_eq_false.mpr fun d _ => by simp [hasLoc]
theorem cel_has (b : Bk) (j : Nat) : cellHas j (cel b) = false := by
  show ((b.map enc).any fun p => hasLoc j p.2) = false
  rw [List.any_map]
  exact List.any_eq_false.mpr fun p _ => by show ¬ hasLoc j (encV p.2) = true; simp [hasLoc, encV]
theorem Bnd.more {S : Sto} (h : Bnd S) {c : Cell} (hc : ∀ j, S.length < j -> cellHas j c = false) : Bnd (S ++ [c]) := fun j hj => by
  rw [List.length_append, List.length_singleton] at hj
  rw [List.any_append, h j (by omega), Bool.false_or]
  show (cellHas j c || false) = false
  rw [hc j (by omega)]; rfl
theorem frz_new {f : ZEv -> Sto -> RX Z} {ρ : ZEv} {S S' : Sto} {n : Nat} {L : List D} (h : f ρ S = .ok (.loc n) (S' ++ [.li (L.map Z.d)])) (hn : n = S'.length) (hS : Bnd S') (hl : S.length <= n) (hρ : ρ.any (slotHas n) = false) : zFrz f ρ S = .ok (.d (.lst L)) (S' ++ [.no]) := by
  subst hn
  unfold zFrz
  rw [h]
  show (match (S' ++ [Cell.li (L.map Z.d)])[S'.length]? with
      | some (.li zs) => (match asDs zs with
        | some ds => if S.length <= S'.length /\ (S' ++ [Cell.li (L.map Z.d)]).any (cellHas S'.length) = false /\ ρ.any (slotHas S'.length) = false then RX.ok (Z.d (.lst ds)) ((S' ++ [Cell.li (L.map Z.d)]).set S'.length .no) else .bad
        | none => .bad)
      | _ => .bad) = _
  rw [get_last]
  show (match asDs (L.map Z.d) with
        | some ds => if S.length <= S'.length /\ (S' ++ [Cell.li (L.map Z.d)]).any (cellHas S'.length) = false /\ ρ.any (slotHas S'.length) = false then RX.ok (Z.d (.lst ds)) ((S' ++ [Cell.li (L.map Z.d)]).set S'.length .no) else .bad
        | none => .bad) = _
  rw [asDs_of]
  have hany : (S' ++ [Cell.li (L.map Z.d)]).any (cellHas S'.length) = false := by
    rw [List.any_append, hS _ (Nat.le_refl _), Bool.false_or]
    show (cellHas S'.length (.li (L.map Z.d)) || false) = false
    rw [li_has]; rfl
  show (if S.length <= S'.length /\ (S' ++ [Cell.li (L.map Z.d)]).any (cellHas S'.length) = false /\ ρ.any (slotHas S'.length) = false then _ else _) = _
  rw [if_pos ⟨hl, hany, hρ⟩, set_last]
noncomputable def Kp (a : Ad) (Zk : List Z -> Sto -> RX Z) : Prop := ∀ {S : Sto} {n m : Nat} {b : Bk}, S[0]? = some .mk -> S[n]? = some (.ob a.Book [(Str.ofString "latest", .loc m)]) -> S[m]? = some (cel b) -> b.length < 64 -> Zk [.loc n] S = .ok (.loc S.length) (S ++ [.li ((T b).map fun r => Z.d r.d)])
theorem kept_frz {Zk : List Z -> Sto -> RX Z} (hk : Kp a Zk) {S : Sto} {i n m : Nat} {b : Bk} {ρ : ZEv} (h0 : S[0]? = some .mk) (h1 : S[n]? = some (.ob a.Book [(Str.ofString "latest", .loc m)])) (h2 : S[m]? = some (cel b)) (hb : b.length < 64) (hS : Bnd S)
    (hi : zV i ρ S = .ok (.loc n) S) (hρ : ρ.any (slotHas S.length) = false) : zFrz (zMeth a.Book (Str.ofString "kept") Zk [] (zV i) zNil) ρ S = .ok (.d (.lst ((T b).map Rr.d))) (S ++ [.no]) := by
  refine frz_new (n := S.length) ?_ rfl hS (Nat.le_refl _) hρ
  rw [z_meth0 hi h1 rfl, hk h0 h1 h2 hb, List.map_map]
  rfl
theorem m_of {Zk : List Z -> Sto -> RX Z} (hk : Kp a Zk) {S : Sto} {n m c : Nat} {b : Bk} (w : Str) (h0 : S[0]? = some .mk) (h1 : S[n]? = some (.ob a.Book [(Str.ofString "latest", .loc m)])) (h2 : S[m]? = some (cel b)) (hb : b.length < 64) (hS : Bnd S) :
    finZ (g_Book_of_mast a Zk c (startZ 2 [.loc n, .d (.str w)]) S) = .ok (.loc (S.length + 1)) ((S ++ [.no]) ++ [.li (((T b).filter fun r => decide (r.m = w)).map fun r => Z.d r.d)]) := by
  unfold g_Book_of_mast
  have hn : n < S.length := (List.getElem?_eq_some_iff.mp h1).1
  have fz := kept_frz hk (i := 0) (ρ := startZ 2 [.loc n, .d (.str w)]) h0 h1 h2 hb hS rfl (by
    show (decide (n = S.length) || (false || false)) = false
    rw [decide_eq_false (by omega)]; first | done | rfl)
  rw [y_ret (z := .loc (S.length + 1)) (S1 := (S ++ [.no]) ++ [.li (((T b).filter fun r => decide (r.m = w)).map fun r => Z.d r.d)])]
  · rfl
  unfold zComp zItL
  rw [fz]
  show zLoop _ _ [none, some (.d (.str w))] (S ++ [Cell.no]).length ((T b).map Rr.d) ((S ++ [Cell.no]) ++ [.li []]) = _
  have hlen : (T b).length < 64 := by unfold T; rw [List.length_map, (srt_perm _).length_eq, List.length_map]; exact hb
  rw [zLoop_ok Rr.d (fun r => decide (r.m = w)) Rr.d _ [] (fun r hr acc => ⟨rfl, rfl⟩) (by simp; omega)]
  rw [List.length_append, List.nil_append]
  rfl
end W12
namespace W12
open PySem L2 P2 WP TM PySem.NumText
noncomputable def Rr.k (r : Rr) : Kk := (r.t, r.m)
noncomputable def Rr.v (r : Rr) : Vv := (r.u, r.n)
noncomputable def geV (v w : Vv) : Prop := geP v.1 v.2 w.1 w.2 = true
theorem geV_iff (v w : Vv) : geV v w ↔ w.1 < v.1 \/ (w.1 = v.1 /\ w.2 <= v.2) := by
  unfold geV geP
  by_cases e : v.1 = w.1
  · rw [if_pos e, decide_eq_true_eq]; omega
  · rw [if_neg e, decide_eq_true_eq]; omega
theorem geV_anti {v w : Vv} (h1 : geV v w) (h2 : geV w v) : v = w := by
  rw [geV_iff] at h1 h2
  exact Prod.ext (by omega) (by omega)
theorem geV_tr {u v w : Vv} (h1 : geV u v) (h2 : geV v w) : geV u w := by rw [geV_iff] at *; omega
theorem geV_refl (v : Vv) : geV v v := by rw [geV_iff]; omega
theorem geV_tot {v w : Vv} (h : ¬ geV v w) : geV w v := by rw [geV_iff] at *; omega
theorem val_put (b : Bk) (k j : Kk) (v : Vv) : valM (putM b k v) j = if j = k then some v else valM b j := by
  unfold putM
  by_cases h : (b.any fun p => decide (p.1 = k)) = true
  · rw [if_pos h]
    unfold valM
    induction b with
    | nil => cases h
    | cons p r ih =>
      rw [List.map_cons, List.find?_cons, List.find?_cons]
      by_cases e : p.1 = k
      · rw [if_pos e]
        by_cases ej : j = k
        · rw [if_pos ej]
          have : decide ((p.1, v).1 = j) = true := decide_eq_true (by rw [ej]; exact e)
          rw [this]; rfl
        · rw [if_neg ej]
          have n1 : decide ((p.1, v).1 = j) = false := decide_eq_false fun w => ej (by rw [← w]; exact e)
          have n2 : decide (p.1 = j) = false := decide_eq_false fun w => ej (by rw [← w]; exact e)
          rw [n1]; try rw [n2]
          show ((r.map fun p => if p.1 = k then (p.1, v) else p).find? fun p => decide (p.1 = j)).map Prod.snd = (r.find? fun p => decide (p.1 = j)).map Prod.snd
          clear h ih
          induction r with
          | nil => rfl
          | cons q r ih =>
            rw [List.map_cons, List.find?_cons, List.find?_cons]
            by_cases eq : q.1 = k
            · rw [if_pos eq]
              have n1 : decide ((q.1, v).1 = j) = false := decide_eq_false fun w => ej (by rw [← w]; exact eq)
              have n2 : decide (q.1 = j) = false := decide_eq_false fun w => ej (by rw [← w]; exact eq)
              rw [n1]; (try rw [n2]); exact ih
            · rw [if_neg eq]
              cases decide (q.1 = j) with
              | true => rfl
              | false => exact ih
      · rw [if_neg e]
        have hr : (r.any fun p => decide (p.1 = k)) = true := by
          rw [List.any_cons, decide_eq_false e, Bool.false_or] at h; exact h
        by_cases ep : p.1 = j
        · rw [decide_eq_true ep]
          rw [if_neg fun w => e (by rw [ep]; exact w)]
        · rw [decide_eq_false ep]
          exact ih hr
  · rw [if_neg h]
    have hn : b.find? (fun p => decide (p.1 = k)) = none := by
      refine List.find?_eq_none.mpr fun p hp w => h (List.any_eq_true.mpr ⟨p, hp, w⟩)
    unfold valM
    rw [List.find?_append]
    by_cases ej : j = k
    · subst ej
      rw [hn, if_pos rfl]
      simp [List.find?_cons]
    · rw [if_neg ej]
      have : ([(k, v)] : Bk).find? (fun p => decide (p.1 = j)) = none := by
        rw [List.find?_cons, decide_eq_false (fun w => ej w.symm)]; rfl
      rw [this, Option.or_none]
noncomputable def upO (k : Kk) (o : Option Vv) (r : Rr) : Option Vv := if k = r.k then (match o with
  | some v => if geP v.1 v.2 r.u r.n = true then some v else some r.v
  | none => some r.v) else o
theorem val_step (b : Bk) (r : Rr) (k : Kk) : valM (stepM b r).1 k = upO k (valM b k) r := by
  unfold upO
  by_cases e : k = r.k
  · rw [if_pos e]
    cases h : valM b (r.t, r.m) with
    | none =>
      rw [step_none h, e, show valM b r.k = none from h]
      show valM (putM b (r.t, r.m) (r.u, r.n)) r.k = some r.v
      rw [val_put, if_pos (show r.k = (r.t, r.m) from rfl)]; rfl
    | some v =>
      rw [e, show valM b r.k = some v from h]
      cases g : geP v.1 v.2 r.u r.n with
      | true =>
        rw [step_ge h g]
        show valM b r.k = (if geP v.1 v.2 r.u r.n = true then some v else some r.v)
        rw [if_pos g]; exact h
      | false =>
        rw [step_lt h g]
        show valM (putM b (r.t, r.m) (r.u, r.n)) r.k = (if geP v.1 v.2 r.u r.n = true then some v else some r.v)
        rw [if_neg (by rw [g]; exact Bool.false_ne_true)]
        rw [val_put, if_pos (show r.k = (r.t, r.m) from rfl)]; rfl
  · rw [if_neg e]
    cases h : valM b (r.t, r.m) with
    | none => rw [step_none h]; show valM (putM b (r.t, r.m) (r.u, r.n)) k = _; rw [val_put, if_neg (show ¬ k = (r.t, r.m) from e)]
    | some v =>
      cases g : geP v.1 v.2 r.u r.n with
      | true => rw [step_ge h g]
      | false => rw [step_lt h g]; show valM (putM b (r.t, r.m) (r.u, r.n)) k = _; rw [val_put, if_neg (show ¬ k = (r.t, r.m) from e)]
noncomputable def runM (b : Bk) (rs : List Rr) : Bk := rs.foldl (fun b r => (stepM b r).1) b
theorem val_run (k : Kk) : ∀ (rs : List Rr) (b : Bk), valM (runM b rs) k = rs.foldl (upO k) (valM b k)
  | [], b => rfl
  | r :: rs, b => by
    show valM (runM (stepM b r).1 rs) k = rs.foldl (upO k) (upO k (valM b k) r)
    rw [val_run k rs, val_step]
noncomputable def Best (k : Kk) (rs : List Rr) : Option Vv -> Prop
  | none => ∀ r ∈ rs, r.k ≠ k
  | some v => (∃ r ∈ rs, r.k = k /\ r.v = v) /\ ∀ r ∈ rs, r.k = k -> geV v r.v
theorem best_fold (k : Kk) : ∀ (rs done : List Rr) (o : Option Vv), Best k done o -> Best k (done ++ rs) (rs.foldl (upO k) o)
  | [], done, o, h => by rw [List.append_nil]; exact h
  | r :: rs, done, o, h => by
    have e : done ++ r :: rs = (done ++ [r]) ++ rs := by simp
    rw [e]
    refine best_fold k rs (done ++ [r]) (upO k o r) ?_
    unfold upO
    by_cases ek : k = r.k
    · rw [if_pos ek]
      cases o with
      | none =>
        refine ⟨⟨r, by simp, ek.symm, rfl⟩, fun x hx hk => ?_⟩
        rcases List.mem_append.mp hx with hx | hx
        · exact absurd hk (h x hx)
        · rw [List.mem_singleton.mp hx]; exact geV_refl _
      | some v =>
        obtain ⟨⟨q, hq, hqk, hqv⟩, hall⟩ := h
        by_cases g : geP v.1 v.2 r.u r.n = true
        · show Best k (done ++ [r]) (if geP v.1 v.2 r.u r.n = true then some v else some r.v)
          rw [if_pos g]
          refine ⟨⟨q, List.mem_append_left _ hq, hqk, hqv⟩, fun x hx hk => ?_⟩
          rcases List.mem_append.mp hx with hx | hx
          · exact hall x hx hk
          · rw [List.mem_singleton.mp hx]; exact g
        · show Best k (done ++ [r]) (if geP v.1 v.2 r.u r.n = true then some v else some r.v)
          rw [if_neg g]
          refine ⟨⟨r, by simp, ek.symm, rfl⟩, fun x hx hk => ?_⟩
          rcases List.mem_append.mp hx with hx | hx
          · exact geV_tr (geV_tot (v := v) (w := r.v) g) (hall x hx hk)
          · rw [List.mem_singleton.mp hx]; exact geV_refl _
    · rw [if_neg ek]
      cases o with
      | none =>
        intro x hx hk
        rcases List.mem_append.mp hx with hx | hx
        · exact h x hx hk
        · rw [List.mem_singleton.mp hx] at hk; exact ek hk.symm
      | some v =>
        obtain ⟨⟨q, hq, hqk, hqv⟩, hall⟩ := h
        refine ⟨⟨q, List.mem_append_left _ hq, hqk, hqv⟩, fun x hx hk => ?_⟩
        rcases List.mem_append.mp hx with hx | hx
        · exact hall x hx hk
        · rw [List.mem_singleton.mp hx] at hk; exact absurd hk.symm ek
theorem best_uniq {k : Kk} {rs qs : List Rr} (h : ∀ r, r ∈ rs ↔ r ∈ qs) {o p : Option Vv} (ho : Best k rs o) (hp : Best k qs p) : o = p := by
  cases o with
  | none =>
    cases p with
    | none => rfl
    | some w => obtain ⟨⟨r, hr, hk, _⟩, _⟩ := hp; exact absurd hk (ho r ((h r).mpr hr))
  | some v =>
    obtain ⟨⟨q, hq, hqk, hqv⟩, hall⟩ := ho
    cases p with
    | none => exact absurd hqk (hp q ((h q).mp hq))
    | some w =>
      obtain ⟨⟨r, hr, hk, hv⟩, hall'⟩ := hp
      rw [geV_anti (v := v) (w := w) (by rw [← hv]; exact hall r ((h r).mpr hr) hk) (by rw [← hqv]; exact hall' q ((h q).mp hq) hqk)]
theorem val_nil (k : Kk) : valM [] k = none := rfl
theorem run_val {rs qs : List Rr} (h : ∀ r, r ∈ rs ↔ r ∈ qs) (k : Kk) : valM (runM [] rs) k = valM (runM [] qs) k := by
  rw [val_run, val_run, val_nil]
  have e1 := best_fold k rs [] none (fun r hr => by simp at hr)
  have e2 := best_fold k qs [] none (fun r hr => by simp at hr)
  rw [List.nil_append] at e1 e2
  exact best_uniq h e1 e2
theorem keys_put (b : Bk) (k : Kk) (v : Vv) : (putM b k v).map Prod.fst = if (b.any fun p => decide (p.1 = k)) = true then b.map Prod.fst else b.map Prod.fst ++ [k] := by
  unfold putM
  by_cases h : (b.any fun p => decide (p.1 = k)) = true
  · rw [if_pos h, if_pos h, List.map_map]
    refine List.map_congr_left fun p _ => ?_
    show (if p.1 = k then (p.1, v) else p).1 = p.1
    by_cases e : p.1 = k
    · rw [if_pos e]
    · rw [if_neg e]
  · rw [if_neg h, if_neg h, List.map_append]; rfl
theorem nodup_put {b : Bk} (h : (b.map Prod.fst).Nodup) (k : Kk) (v : Vv) : ((putM b k v).map Prod.fst).Nodup := by
  rw [keys_put]
  by_cases e : (b.any fun p => decide (p.1 = k)) = true
  · rw [if_pos e]; exact h
  · rw [if_neg e]
    refine List.nodup_append.mpr ⟨h, by simp, fun x hx y hy w => ?_⟩
    rw [List.mem_singleton.mp hy] at w
    obtain ⟨p, hp, hpx⟩ := List.mem_map.mp hx
    exact e (List.any_eq_true.mpr ⟨p, hp, decide_eq_true (hpx.trans w)⟩)
theorem step_cases (b : Bk) (r : Rr) : (stepM b r).1 = b \/ (stepM b r).1 = putM b (r.t, r.m) (r.u, r.n) := by
  cases h : valM b (r.t, r.m) with
  | none => rw [step_none h]; exact .inr rfl
  | some v =>
    cases g : geP v.1 v.2 r.u r.n with
    | true => rw [step_ge h g]; exact .inl rfl
    | false => rw [step_lt h g]; exact .inr rfl
theorem nodup_run : ∀ (rs : List Rr) (b : Bk), (b.map Prod.fst).Nodup -> ((runM b rs).map Prod.fst).Nodup
  | [], _, h => h
  | r :: rs, b, h => by
    refine nodup_run rs (stepM b r).1 ?_
    rcases step_cases b r with e | e <;> rw [e]
    · exact h
    · exact nodup_put h _ _
theorem len_step (b : Bk) (r : Rr) : (stepM b r).1.length <= b.length + 1 := by
  rcases step_cases b r with e | e <;> rw [e]
  · omega
  · have := congrArg List.length (keys_put b (r.t, r.m) (r.u, r.n))
    rw [List.length_map] at this
    rw [this]
    split
    · rw [List.length_map]; omega
    · rw [List.length_append, List.length_map, List.length_singleton]; omega
theorem len_run : ∀ (rs : List Rr) (b : Bk), (runM b rs).length <= b.length + rs.length
  | [], b => Nat.le_refl _
  | r :: rs, b => by
    have h1 := len_run rs (stepM b r).1
    have h2 := len_step b r
    show (runM (stepM b r).1 rs).length <= b.length + (rs.length + 1)
    omega
theorem perm_nodup {α : Type} [DecidableEq α] : ∀ {l1 l2 : List α}, l1.Nodup -> l2.Nodup -> (∀ x, x ∈ l1 ↔ x ∈ l2) -> l1.Perm l2
  | [], l2, _, _, h => by
    cases l2 with
    | nil => exact .refl _
    | cons y r => exact absurd ((h y).mpr (.head _)) (by simp)
  | a :: l, l2, n1, n2, h => by
    have ha := (h a).mp (.head _)
    obtain ⟨na, nl⟩ := List.nodup_cons.mp n1
    refine (List.Perm.cons a (perm_nodup nl (n2.erase a) fun x => ?_)).trans (List.perm_cons_erase ha).symm
    rw [n2.mem_erase_iff]
    constructor
    · intro hx
      exact ⟨fun e => na (by rw [← e]; exact hx), (h x).mp (.tail _ hx)⟩
    · rintro ⟨h1, h2⟩
      rcases List.mem_cons.mp ((h x).mpr h2) with e | e
      · exact absurd e h1
      · exact e
theorem run_keys {rs qs : List Rr} (h : ∀ r, r ∈ rs ↔ r ∈ qs) : ((runM [] rs).map Prod.fst).Perm ((runM [] qs).map Prod.fst) := by
  refine perm_nodup (nodup_run rs [] (by simp)) (nodup_run qs [] (by simp)) fun k => ?_
  constructor
  · intro hk
    obtain ⟨v, hv⟩ := val_some hk
    rw [run_val h] at hv
    exact val_mem hv
  · intro hk
    obtain ⟨v, hv⟩ := val_some hk
    rw [← run_val h] at hv
    exact val_mem hv
theorem run_T {rs qs : List Rr} (h : ∀ r, r ∈ rs ↔ r ∈ qs) : T (runM [] rs) = T (runM [] qs) := by
  unfold T
  rw [srt_cong (run_keys h)]
  refine List.map_congr_left fun k _ => ?_
  unfold rdAt
  rw [run_val h]
theorem run_len {rs qs : List Rr} (h : ∀ r, r ∈ rs ↔ r ∈ qs) : (runM [] rs).length = (runM [] qs).length := by
  have := (run_keys h).length_eq
  rw [List.length_map, List.length_map] at this
  exact this
theorem T_val {b : Bk} {r : Rr} (h : r ∈ T b) : valM b (r.t, r.m) = some (r.u, r.n) := by
  unfold T at h
  obtain ⟨k, hk, rfl⟩ := List.mem_map.mp h
  obtain ⟨v, hv⟩ := val_some ((srt_perm _).mem_iff.mp hk)
  show valM b k = some (((valM b k).getD (0, 0)).1, ((valM b k).getD (0, 0)).2)
  rw [hv]; rfl
theorem T_step {b : Bk} {r : Rr} (h : r ∈ T b) : stepM b r = (b, false) := step_ge (T_val h) (geV_refl _)
theorem T_mem {rs : List Rr} {r : Rr} (h : r ∈ T (runM [] rs)) : ∃ q ∈ rs, q.m = r.m := by
  have hv := T_val h
  rw [val_run, val_nil] at hv
  have e1 := best_fold (r.t, r.m) rs [] none (fun r hr => by simp at hr)
  rw [List.nil_append, hv] at e1
  obtain ⟨⟨q, hq, hk, _⟩, _⟩ := e1
  exact ⟨q, hq, congrArg Prod.snd hk⟩
end W12
namespace W12
open PySem L2 P2 WP TM PySem.NumText
variable {a : Ad}
section
variable {f g : ZEv -> Sto -> RX Z} {c : ZEv -> Sto -> RX Bool} {A B : ZEv -> Sto -> RTZ} {ρ : ZEv} {S S1 S2 : Sto} {z : Z}
theorem y_ifF1 (h : c ρ S = .ok false S1) : yIf c A yNil ρ S = .nx ρ S1 := by
  unfold yIf
  rw [h]; rfl
theorem z_cons2 {fs : ZEv -> Sto -> RX (List Z)} {zs : List Z} (h : f ρ S = .ok z S1) (hr : fs ρ S1 = .ok zs S2) : zCons f fs ρ S = .ok (z :: zs) S2 := by
  unfold zCons
  rw [h]
  show ((fs ρ S1).bind _) = _
  rw [hr]
  rfl
theorem zD_of {e : Ev -> P2.R D} {d : D} (h : e (pur ρ) = .ok d) : zD e ρ S = .ok (.d d) S := by
  unfold zD
  rw [h]; rfl
theorem y_for {fi : Ev -> P2.R (List D)} {ga : D -> ZEv -> Option ZEv} {ds : List D} {ρ' : ZEv} (h : fi (pur ρ) = .ok ds) (hf : forZ ga A ds ρ S = .nx ρ' S1) : ySeq (yFor fi ga A) B ρ S = B ρ' S1 := by
  unfold ySeq yFor
  rw [h]
  show seqZ (forZ ga A ds ρ S) B = _
  rw [hf]; rfl
end
noncomputable def obj (a : Ad) (m : Nat) : Cell := .ob a.Book [(Str.ofString "latest", .loc m)]
theorem m_make (ρ : ZEv) (S : Sto) : zMake a.Book (fun zs S => finZ (g_Book___init a S.length (startZ 1 zs) S)) zNil ρ S = .ok (.loc S.length) (S ++ [obj a (S.length + 1), cel []]) := by
  have e : finZ (g_Book___init a (S ++ [Cell.ob a.Book []]).length (startZ 1 [.loc S.length]) (S ++ [Cell.ob a.Book []])) = .ok (.d .non) (S ++ [obj a (S.length + 1), cel []]) := by
    unfold g_Book___init yFld
    show finZ (match ((S ++ [Cell.ob a.Book []]) ++ [Cell.dt []])[S.length]? with
      | some (.ob C' fs) => if C' = a.Book /\ fs.length < 1000 then RTZ.nx (startZ 1 [.loc S.length]) (((S ++ [Cell.ob a.Book []]) ++ [Cell.dt []]).set S.length (.ob C' (putFZ (Str.ofString "latest") (.loc (S ++ [Cell.ob a.Book []]).length) fs))) else .bad
      | _ => .bad) = _
    rw [get_in (get_last S (Cell.ob a.Book []))]
    show finZ (if a.Book = a.Book /\ ([] : List (Str × Z)).length < 1000 then _ else _) = _
    rw [if_pos ⟨rfl, by decide⟩]
    show RX.ok (Z.d .non) _ = _
    rw [List.append_assoc, List.set_append_right _ _ (Nat.le_refl _), Nat.sub_self, List.length_append]
    rfl
  unfold zMake
  show (match finZ (g_Book___init a (S ++ [Cell.ob a.Book []]).length (startZ 1 [.loc S.length]) (S ++ [Cell.ob a.Book []])) with
    | .ok (.d .non) S2 => RX.ok (Z.loc S.length) S2
    | .ex c ns ds S2 => .ex c ns ds S2
    | _ => .bad) = _
  rw [e]
structure Fz (a : Ad) (Fc F1 Fi Fm : List D -> P2.R D) (Zi Zlp Zp Zt Zk Zo : List Z -> Sto -> RX Z) : Prop where
  c : ∀ (ns : List Int) (k : Nat), Fc [.lst (ns.map .int), .int k] = .ok (.int (ns.getD k 0))
  o : ∀ h b c : Int, ∃ r : Rr, PyData.strOk r.m = true /\ F1 [.int h, .int b, .int c] = .ok r.d
  i : ∀ {L : List Rr}, (∀ r ∈ L, PyData.strOk r.m = true) -> Fi [.lst (L.map Rr.d), .lst (L.map Rr.d)] = .ok (.bl true)
  m : ∀ c k : Int, ∃ w, PyData.strOk w = true /\ Fm [.int c, .int k] = .ok (.str w)
  mak : ∀ (ρ : ZEv) (S : Sto), zMake a.Book Zi zNil ρ S = .ok (.loc S.length) (S ++ [obj a (S.length + 1), cel []])
  lp : ∀ {S : Sto} {m : Nat} {b : Bk} (r : Rr), S[m]? = some (cel b) -> b.length < 1000 -> Zlp [.loc m, .d r.d] S = .ok (.d (.bl (stepM b r).2)) (S.set m (cel (stepM b r).1))
  p : ∀ {S : Sto} {n m : Nat} {b : Bk} (r : Rr), S[n]? = some (obj a m) -> S[m]? = some (cel b) -> b.length < 1000 -> Zp [.loc n, .d r.d] S = .ok (.d (.bl (stepM b r).2)) (S.set m (cel (stepM b r).1))
  t : ∀ {S : Sto} {m : Nat} {b : Bk}, S[0]? = some .mk -> S[m]? = some (cel b) -> b.length < 64 -> Zt [.loc m] S = .ok (.loc S.length) (S ++ [.li ((T b).map fun r => Z.d r.d)])
  k : Kp a Zk
  of : ∀ {S : Sto} {n m : Nat} {b : Bk} (w : Str), S[0]? = some .mk -> S[n]? = some (obj a m) -> S[m]? = some (cel b) -> b.length < 64 -> Bnd S -> Zo [.loc n, .d (.str w)] S = .ok (.loc (S.length + 1)) ((S ++ [.no]) ++ [.li (((T b).filter fun r => decide (r.m = w)).map fun r => Z.d r.d)])
section
variable {Fc F1 Fi Fm : List D -> P2.R D} {Zi Zlp Zp Zt Zk Zo : List Z -> Sto -> RX Z} (H : Fz a Fc F1 Fi Fm Zi Zlp Zp Zt Zk Zo)
include H
theorem turn1 (s0 s1 s2 s3 s4 x8 x9 : Option Z) (r : Rr) {b : Bk} (hb : b.length < 1000) :
    b1_law a Fc F1 Fi Fm Zi Zlp Zp Zt Zk Zo [s0, s1, s2, s3, s4, some (.loc 1), some (.loc 2), some (.d r.d), x8, x9, none, none, none, none, none, none] [.mk, cel b, obj a 3, cel b]
      = .nx [s0, s1, s2, s3, s4, some (.loc 1), some (.loc 2), some (.d r.d), some (.d (.bl (stepM b r).2)), some (.d (.bl (stepM b r).2)), none, none, none, none, none, none] [.mk, cel (stepM b r).1, obj a 3, cel (stepM b r).1] := by
  unfold b1_law
  rw [y_set (z := .d (.bl (stepM b r).2)) (S1 := [.mk, cel (stepM b r).1, obj a 3, cel b]) (H.lp (S := [.mk, cel b, obj a 3, cel b]) (m := 1) r rfl hb) (by show 8 < 16; decide)]
  show ySeq (ySet 9 _) _ [s0, s1, s2, s3, s4, some (.loc 1), some (.loc 2), some (.d r.d), some (.d (.bl (stepM b r).2)), x9, none, none, none, none, none, none] [.mk, cel (stepM b r).1, obj a 3, cel b] = _
  rw [y_set (z := .d (.bl (stepM b r).2)) (S1 := [.mk, cel (stepM b r).1, obj a 3, cel (stepM b r).1]) ((z_meth1 (n := 2) (m := 3) (z := .d r.d) rfl rfl rfl rfl).trans (H.p (S := [.mk, cel (stepM b r).1, obj a 3, cel b]) (n := 2) (m := 3) r rfl rfl hb)) (by show 9 < 16; decide)]
  show yIf _ _ _ [s0, s1, s2, s3, s4, some (.loc 1), some (.loc 2), some (.d r.d), some (.d (.bl (stepM b r).2)), some (.d (.bl (stepM b r).2)), none, none, none, none, none, none] [.mk, cel (stepM b r).1, obj a 3, cel (stepM b r).1] = _
  rw [y_ifF1]
  generalize (stepM b r).2 = c
  cases c <;> rfl
theorem loop1 (s0 s1 s2 s3 s4 : Option Z) : ∀ (rs : List Rr) (b : Bk) (x7 x8 x9 : Option Z), (∀ j, slotHas j x7 = false /\ slotHas j x8 = false /\ slotHas j x9 = false) -> b.length + rs.length < 1000 -> ∃ y7 y8 y9, (∀ j, slotHas j y7 = false /\ slotHas j y8 = false /\ slotHas j y9 = false) /\
    forZ (hV 7) (b1_law a Fc F1 Fi Fm Zi Zlp Zp Zt Zk Zo) (rs.map Rr.d) [s0, s1, s2, s3, s4, some (.loc 1), some (.loc 2), x7, x8, x9, none, none, none, none, none, none] [.mk, cel b, obj a 3, cel b]
      = .nx [s0, s1, s2, s3, s4, some (.loc 1), some (.loc 2), y7, y8, y9, none, none, none, none, none, none] [.mk, cel (runM b rs), obj a 3, cel (runM b rs)]
  | [], b, x7, x8, x9, hx, _ => ⟨x7, x8, x9, hx, rfl⟩
  | r :: rs, b, x7, x8, x9, hx, hl => by
    rw [List.length_cons] at hl
    have h2 := len_step b r
    obtain ⟨y7, y8, y9, hy, e⟩ := loop1 s0 s1 s2 s3 s4 rs (stepM b r).1 (some (.d r.d)) (some (.d (.bl (stepM b r).2))) (some (.d (.bl (stepM b r).2))) (fun _ => ⟨rfl, rfl, rfl⟩) (by omega)
    refine ⟨y7, y8, y9, hy, ?_⟩
    rw [show runM b (r :: rs) = runM (stepM b r).1 rs from rfl, ← e]
    show turnZ (b1_law a Fc F1 Fi Fm Zi Zlp Zp Zt Zk Zo [s0, s1, s2, s3, s4, some (.loc 1), some (.loc 2), some (.d r.d), x8, x9, none, none, none, none, none, none] [.mk, cel b, obj a 3, cel b]) (forZ (hV 7) (b1_law a Fc F1 Fi Fm Zi Zlp Zp Zt Zk Zo) (rs.map Rr.d)) = _
    rw [turn1 H s0 s1 s2 s3 s4 x8 x9 r (by omega)]
    rfl
theorem loop2 (b : Bk) (s0 s1 s2 s3 s4 x8 x9 s10 s12 s13 x14 x15 : Option Z) : ∀ (rs : List Rr) (b2 : Bk) (x7 : Option Z), (∀ j, slotHas j x7 = false) -> b2.length + rs.length < 1000 -> ∃ y7, (∀ j, slotHas j y7 = false) /\
    forZ (hV 7) (b2_law a Fc F1 Fi Fm Zi Zlp Zp Zt Zk Zo) (rs.map Rr.d) [s0, s1, s2, s3, s4, some (.loc 1), some (.loc 2), x7, x8, x9, s10, some (.loc 5), s12, s13, x14, x15] [.mk, cel b, obj a 3, cel b, .no, obj a 6, cel b2]
      = .nx [s0, s1, s2, s3, s4, some (.loc 1), some (.loc 2), y7, x8, x9, s10, some (.loc 5), s12, s13, x14, x15] [.mk, cel b, obj a 3, cel b, .no, obj a 6, cel (runM b2 rs)]
  | [], b2, x7, hx, _ => ⟨x7, hx, rfl⟩
  | r :: rs, b2, x7, hx, hl => by
    rw [List.length_cons] at hl
    have h2 := len_step b2 r
    obtain ⟨y7, hy, e⟩ := loop2 b s0 s1 s2 s3 s4 x8 x9 s10 s12 s13 x14 x15 rs (stepM b2 r).1 (some (.d r.d)) (fun _ => rfl) (by omega)
    refine ⟨y7, hy, ?_⟩
    rw [show runM b2 (r :: rs) = runM (stepM b2 r).1 rs from rfl, ← e]
    show turnZ (b2_law a Fc F1 Fi Fm Zi Zlp Zp Zt Zk Zo [s0, s1, s2, s3, s4, some (.loc 1), some (.loc 2), some (.d r.d), x8, x9, s10, some (.loc 5), s12, s13, x14, x15] [.mk, cel b, obj a 3, cel b, .no, obj a 6, cel b2]) (forZ (hV 7) (b2_law a Fc F1 Fi Fm Zi Zlp Zp Zt Zk Zo) (rs.map Rr.d)) = _
    unfold b2_law yExpr
    rw [(z_meth1 (n := 5) (m := 6) (z := .d r.d) rfl rfl rfl rfl).trans (H.p (S := [.mk, cel b, obj a 3, cel b, .no, obj a 6, cel b2]) (n := 5) (m := 6) r rfl rfl (by omega))]
    rfl
end
end W12
namespace W12
open PySem L2 P2 WP TM PySem.NumText
variable {a : Ad}
theorem cut_map {α : Type} (f : α -> D) (ns : List α) (lo hi : Option Int) : ∃ ms : List α, cutD (ns.map f) lo hi = ms.map f /\ ms.length <= ns.length := by
  unfold cutD
  refine ⟨?_, ?_, ?_⟩
  rotate_left
  · rw [List.length_map, ← List.map_drop, ← List.map_take]
  · rw [List.length_take, List.length_drop]; omega
theorem cut_from {ds : List D} {p : Nat} (h : p <= ds.length) : cutD ds (some (p : Int)) none = ds.drop p := by
  unfold cutD
  rw [HT.sIx_nat, HT.sIx_none, Nat.min_eq_left h]
  exact List.take_of_length_le (by rw [List.length_drop]; omega)
theorem cut_to {ds : List D} {p : Nat} : cutD ds none (some (p : Int)) = ds.take p := by
  unfold cutD
  rw [HT.sIx_nat, HT.sIx_none, List.drop_zero, Nat.sub_zero]
  by_cases h : p <= ds.length
  · rw [Nat.min_eq_left h]
  · rw [Nat.min_eq_right (by omega), List.take_of_length_le (Nat.le_refl _), List.take_of_length_le (by omega)]
theorem compO_filt {ga : D -> Ev -> Option Ev} {c : Ev -> P2.R Bool} {e : Ev -> P2.R D} {ρ0 : Ev} (p : Rr -> Bool) : ∀ (L : List Rr), (∀ r ∈ L, ∃ ρ1, ga r.d ρ0 = some ρ1 /\ c ρ1 = .ok (p r) /\ e ρ1 = .ok r.d) -> compO ga c e ρ0 (L.map Rr.d) = some ((L.filter p).map Rr.d)
  | [], _ => rfl
  | r :: L, h => by
    obtain ⟨ρ1, h1, h2, h3⟩ := h r (.head _)
    have ih := compO_filt p L fun x hx => h x (.tail _ hx)
    rw [List.map_cons]
    unfold compO
    rw [h1]
    show (okO (c ρ1)).bind _ = _
    rw [h2]
    show (if p r = true then _ else _) = _
    cases q : p r with
    | false =>
      rw [if_neg Bool.false_ne_true, ih, List.filter_cons_of_neg (by rw [q]; exact Bool.false_ne_true)]
    | true =>
      rw [if_pos rfl, h3, List.filter_cons_of_pos q]
      show (compO ga c e ρ0 (L.map Rr.d)).bind _ = _
      rw [ih]
      rfl
noncomputable def S7 (a : Ad) (b b2 : Bk) (J : List Cell) : Sto := [.mk, cel b, obj a 3, cel b, .no, obj a 6, cel b2] ++ J
noncomputable def Dead (J : List Cell) : Prop := ∀ c ∈ J, ∀ j, cellHas j c = false
theorem len7 {b b2 : Bk} {J : List Cell} : (S7 a b b2 J).length = 7 + J.length := by unfold S7; rw [List.length_append]; rfl
theorem bnd7 {b b2 : Bk} {J : List Cell} (h : Dead J) : Bnd (S7 a b b2 J) := fun j hj => by
  rw [len7] at hj
  unfold S7
  rw [List.any_append]
  have h2 : J.any (cellHas j) = false := List.any_eq_false.mpr fun c hc => by rw [h c hc j]; exact Bool.false_ne_true
  rw [h2, Bool.or_false]
  show (false || (cellHas j (cel b) || ((decide (3 = j) || false) || (cellHas j (cel b) || (false || ((decide (6 = j) || false) || (cellHas j (cel b2) || false))))))) = false
  rw [cel_has, cel_has, decide_eq_false (by omega), decide_eq_false (by omega)]
  rfl
theorem Dead.no {J : List Cell} (h : Dead J) : Dead (J ++ [.no]) := fun c hc j => by
  rcases List.mem_append.mp hc with hc | hc
  · exact h c hc j
  · rw [List.mem_singleton.mp hc]; rfl
theorem Dead.li {J : List Cell} (h : Dead J) (L : List D) : Dead (J ++ [.li (L.map Z.d)]) := fun c hc j => by
  rcases List.mem_append.mp hc with hc | hc
  · exact h c hc j
  · rw [List.mem_singleton.mp hc]; exact li_has L j
theorem app7 {b b2 : Bk} {J : List Cell} (c : Cell) : S7 a b b2 J ++ [c] = S7 a b b2 (J ++ [c]) := by unfold S7; rw [List.append_assoc]
noncomputable def Low (n : Nat) (ρ : ZEv) : Prop := ∀ j, n <= j -> ρ.any (slotHas j) = false
section
variable {Fc F1 Fi Fm : List D -> P2.R D} {Zi Zlp Zp Zt Zk Zo : List Z -> Sto -> RX Z} (H : Fz a Fc F1 Fi Fm Zi Zlp Zp Zt Zk Zo)
include H
theorem is_kept {b b2 bb : Bk} {J : List Cell} {ρ : ZEv} {i n m : Nat} (hJ : Dead J) (hρ : Low (7 + J.length) ρ) (hi : ρ[i]? = some (some (.loc n))) (h1 : (S7 a b b2 J)[n]? = some (obj a m)) (h2 : (S7 a b b2 J)[m]? = some (cel bb)) (hb : bb.length < 64)
    (hd : ρ[10]? = some (some (.d (.lst ((T bb).map Rr.d))))) (hs : ∀ r ∈ T bb, PyData.strOk r.m = true) :
    zF Fi (zCons (zFrz (zMeth a.Book (Str.ofString "kept") Zk [] (zV i) zNil)) (zCons (zD (dV 10)) zNil)) ρ (S7 a b b2 J) = .ok (.d (.bl true)) (S7 a b b2 (J ++ [.no])) := by
  have vi : zV i ρ (S7 a b b2 J) = .ok (.loc n) (S7 a b b2 J) := by unfold zV; rw [hi]
  have k := kept_frz H.k (i := i) (ρ := ρ) (S := S7 a b b2 J) rfl h1 h2 hb (bnd7 hJ) vi (hρ _ (by rw [len7]; exact Nat.le_refl _))
  rw [app7] at k
  have d10 : zD (dV 10) ρ (S7 a b b2 (J ++ [.no])) = .ok (.d (.lst ((T bb).map Rr.d))) (S7 a b b2 (J ++ [.no])) := zD_of (by
    unfold dV pur
    rw [List.getElem?_map, hd]; rfl)
  exact z_F (ds := [.lst ((T bb).map Rr.d), .lst ((T bb).map Rr.d)]) (z_cons2 k (z_cons2 d10 rfl)) (H.i hs)
theorem t_kept {b b2 bb : Bk} {J : List Cell} {ρ : ZEv} {i n m : Nat} (hJ : Dead J) (hρ : Low (7 + J.length) ρ) (hi : ρ[i]? = some (some (.loc n))) (h1 : (S7 a b b2 J)[n]? = some (obj a m)) (h2 : (S7 a b b2 J)[m]? = some (cel bb)) (hb : bb.length < 64)
    (hd : ρ[10]? = some (some (.d (.lst ((T bb).map Rr.d))))) (hs : ∀ r ∈ T bb, PyData.strOk r.m = true) :
    zNotB (zTst tT (zF Fi (zCons (zFrz (zMeth a.Book (Str.ofString "kept") Zk [] (zV i) zNil)) (zCons (zD (dV 10)) zNil)))) ρ (S7 a b b2 J) = .ok false (S7 a b b2 (J ++ [.no])) := by
  unfold zNotB zTst
  rw [is_kept H hJ hρ hi h1 h2 hb hd hs]
  rfl
theorem turn3 {b b2 : Bk} {J : List Cell} (hJ : Dead J) (hb : b.length < 64) (hs : ∀ r ∈ T b, PyData.strOk r.m = true) (d0 d2 d3 d4 d12 d13 : D) (h0 k : Int) (x7 x8 x9 x15 : Option Z) (hx : ∀ j, 7 <= j -> slotHas j x7 = false /\ slotHas j x8 = false /\ slotHas j x9 = false) :
    ∃ w : Str, b3_law a Fc F1 Fi Fm Zi Zlp Zp Zt Zk Zo [some (.d d0), some (.d (.int h0)), some (.d d2), some (.d d3), some (.d d4), some (.loc 1), some (.loc 2), x7, x8, x9, some (.d (.lst ((T b).map Rr.d))), some (.loc 5), some (.d d12), some (.d d13), some (.d (.int k)), x15] (S7 a b b2 J)
      = .nx [some (.d d0), some (.d (.int h0)), some (.d d2), some (.d d3), some (.d d4), some (.loc 1), some (.loc 2), x7, x8, x9, some (.d (.lst ((T b).map Rr.d))), some (.loc 5), some (.d d12), some (.d d13), some (.d (.int k)), some (.d (.str w))] (S7 a b b2 (J ++ [.no] ++ [.no])) := by
  obtain ⟨w, hw, em⟩ := H.m h0 k
  refine ⟨w, ?_⟩
  unfold b3_law
  rw [y_set (z := .d (.str w)) (S1 := S7 a b b2 J) (zD_of (by
    show (Fm [.int h0, .int k]) = _
    exact em)) (by show 15 < 16; decide)]
  show yIf _ _ _ [some (.d d0), some (.d (.int h0)), some (.d d2), some (.d d3), some (.d d4), some (.loc 1), some (.loc 2), x7, x8, x9, some (.d (.lst ((T b).map Rr.d))), some (.loc 5), some (.d d12), some (.d d13), some (.d (.int k)), some (.d (.str w))] (S7 a b b2 J) = _
  generalize hρ : [some (Z.d d0), some (Z.d (.int h0)), some (Z.d d2), some (Z.d d3), some (Z.d d4), some (Z.loc 1), some (Z.loc 2), x7, x8, x9, some (Z.d (.lst ((T b).map Rr.d))), some (Z.loc 5), some (Z.d d12), some (Z.d d13), some (Z.d (.int k)), some (Z.d (.str w))] = ρ
  have low : ∀ j, 7 <= j -> ρ.any (slotHas j) = false := fun j hj => by
    obtain ⟨g1, g2, g3⟩ := hx j hj
    rw [← hρ]
    show (false || (false || (false || (false || (false || (decide (1 = j) || (decide (2 = j) || (slotHas j x7 || (slotHas j x8 || (slotHas j x9 || (false || (decide (5 = j) || (false || (false || (false || (false || false)))))))))))))))) = false
    rw [g1, g2, g3, decide_eq_false (by omega), decide_eq_false (by omega), decide_eq_false (by omega)]
    rfl
  have bn : Bnd (S7 a b b2 J) := bnd7 hJ
  have v6 : zV 6 ρ (S7 a b b2 J) = .ok (.loc 2) (S7 a b b2 J) := by rw [← hρ]; rfl
  have v15 : zD (dV 15) ρ (S7 a b b2 J) = .ok (.d (.str w)) (S7 a b b2 J) := by rw [← hρ]; rfl
  have fz : zFrz (zMeth a.Book (Str.ofString "of_mast") Zo [] (zV 6) (zCons (zD (dV 15)) zNil)) ρ (S7 a b b2 J) = .ok (.d (.lst (((T b).filter fun r => decide (r.m = w)).map Rr.d))) (S7 a b b2 (J ++ [.no] ++ [.no])) := by
    have e := frz_new (f := zMeth a.Book (Str.ofString "of_mast") Zo [] (zV 6) (zCons (zD (dV 15)) zNil)) (ρ := ρ) (S := S7 a b b2 J) (S' := S7 a b b2 J ++ [.no]) (n := (S7 a b b2 J).length + 1) (L := ((T b).filter fun r => decide (r.m = w)).map Rr.d) (by
      rw [z_meth1 (n := 2) (m := 3) v6 rfl rfl v15, H.of (n := 2) (m := 3) w rfl rfl rfl hb bn, List.map_map]
      rfl) (by rw [List.length_append]; rfl) (bn.more fun _ _ => rfl) (by omega) (low _ (by rw [len7]; omega))
    rw [e, app7, app7]
  have cm : zD (asN (dComp (fun ρ => ((dV 10) ρ).bind asI) 1 [15] (gV 0) (P2.b1 tB (P2.d2 eqSD (P2.d2 ixD (dV 0) (dC (.int 0))) (dV 1))) (dV 0))) ρ (S7 a b b2 (J ++ [.no] ++ [.no])) = .ok (.d (.lst (((T b).filter fun r => decide (r.m = w)).map Rr.d))) (S7 a b b2 (J ++ [.no] ++ [.no])) := by
    refine zD_of ?_
    have hl : (T b).length < 64 := by unfold T; rw [List.length_map, (srt_perm _).length_eq, List.length_map]; exact hb
    unfold asN
    rw [q_dComp_a]
    have e1 : ((dV 10) (pur ρ)).bind asI = .ok ((T b).map Rr.d) := by rw [← hρ]; rfl
    have e2 : capD 1 [15] (pur ρ) = [.no, .sh (.str w)] := by rw [← hρ]; rfl
    show ((((dV 10) (pur ρ)).bind asI).bind _).bind _ = _
    rw [e1]
    show ((if ((T b).map Rr.d).length <= sizeLine then ofO (compO _ _ _ (capD 1 [15] (pur ρ)) ((T b).map Rr.d)) else .bad) : P2.R (List D)).bind _ = _
    rw [e2, if_pos (by rw [List.length_map]; exact Nat.le_of_lt (sz_lt (by omega))), compO_filt (fun r => decide (r.m = w)) (T b) fun r hr => ⟨[.sh r.d, .sh (.str w)], rfl, rfl, rfl⟩]
    rfl
  rw [y_ifF1 (S1 := S7 a b b2 (J ++ [.no] ++ [.no]))]
  unfold zNotB zTst
  rw [z_F (ds := [.lst (((T b).filter fun r => decide (r.m = w)).map Rr.d), .lst (((T b).filter fun r => decide (r.m = w)).map Rr.d)]) (z_cons2 fz (z_cons2 cm rfl)) (H.i fun r hr => hs r (List.mem_filter.mp hr).1)]
  rfl
theorem loop3 {b b2 : Bk} (hb : b.length < 64) (hs : ∀ r ∈ T b, PyData.strOk r.m = true) (d0 d2 d3 d4 d12 d13 : D) (h0 : Int) (x7 x8 x9 : Option Z) (hx : ∀ j, 7 <= j -> slotHas j x7 = false /\ slotHas j x8 = false /\ slotHas j x9 = false) : ∀ (ks : List Int) (J : List Cell) (x14 x15 : Option Z), Dead J -> (∀ j, slotHas j x14 = false /\ slotHas j x15 = false) ->
    ∃ (J' : List Cell) (y14 y15 : Option Z), Dead J' /\ (∀ j, slotHas j y14 = false /\ slotHas j y15 = false) /\
    forZ (hV 14) (b3_law a Fc F1 Fi Fm Zi Zlp Zp Zt Zk Zo) (ks.map D.int) [some (.d d0), some (.d (.int h0)), some (.d d2), some (.d d3), some (.d d4), some (.loc 1), some (.loc 2), x7, x8, x9, some (.d (.lst ((T b).map Rr.d))), some (.loc 5), some (.d d12), some (.d d13), x14, x15] (S7 a b b2 J)
      = .nx [some (.d d0), some (.d (.int h0)), some (.d d2), some (.d d3), some (.d d4), some (.loc 1), some (.loc 2), x7, x8, x9, some (.d (.lst ((T b).map Rr.d))), some (.loc 5), some (.d d12), some (.d d13), y14, y15] (S7 a b b2 J')
  | [], J, x14, x15, hJ, h => ⟨J, x14, x15, hJ, h, rfl⟩
  | k :: ks, J, x14, x15, hJ, h => by
    obtain ⟨w, e⟩ := turn3 H (b2 := b2) hJ hb hs d0 d2 d3 d4 d12 d13 h0 k x7 x8 x9 x15 hx
    obtain ⟨J', y14, y15, hJ', hy, e2⟩ := loop3 hb hs d0 d2 d3 d4 d12 d13 h0 x7 x8 x9 hx ks (J ++ [.no] ++ [.no]) (some (.d (.int k))) (some (.d (.str w))) hJ.no.no (fun _ => ⟨rfl, rfl⟩)
    refine ⟨J', y14, y15, hJ', hy, ?_⟩
    rw [← e2]
    show turnZ (b3_law a Fc F1 Fi Fm Zi Zlp Zp Zt Zk Zo [some (.d d0), some (.d (.int h0)), some (.d d2), some (.d d3), some (.d d4), some (.loc 1), some (.loc 2), x7, x8, x9, some (.d (.lst ((T b).map Rr.d))), some (.loc 5), some (.d d12), some (.d d13), some (.d (.int k)), x15] (S7 a b b2 J)) (forZ (hV 14) (b3_law a Fc F1 Fi Fm Zi Zlp Zp Zt Zk Zo) (ks.map D.int)) = _
    rw [e]
    rfl
theorem loop4 {b b2 : Bk} (hb : b.length < 64) (J : List Cell) (s0 s1 s2 s3 s4 x8 x9 s10 s11 s12 s13 x14 x15 : Option Z) : ∀ (L : List Rr) (x7 : Option Z), (∀ r ∈ L, r ∈ T b) -> (∀ j, slotHas j x7 = false) -> ∃ y7, (∀ j, slotHas j y7 = false) /\
    forZ (hV 7) (b4_law a Fc F1 Fi Fm Zi Zlp Zp Zt Zk Zo) (L.map Rr.d) [s0, s1, s2, s3, s4, some (.loc 1), some (.loc 2), x7, x8, x9, s10, s11, s12, s13, x14, x15] (S7 a b b2 J)
      = .nx [s0, s1, s2, s3, s4, some (.loc 1), some (.loc 2), y7, x8, x9, s10, s11, s12, s13, x14, x15] (S7 a b b2 J)
  | [], x7, _, h => ⟨x7, h, rfl⟩
  | r :: L, x7, hL, h => by
    obtain ⟨y7, hy, e⟩ := loop4 hb J s0 s1 s2 s3 s4 x8 x9 s10 s11 s12 s13 x14 x15 L (some (.d r.d)) (fun x hx => hL x (.tail _ hx)) (fun _ => rfl)
    refine ⟨y7, hy, ?_⟩
    rw [← e]
    have p : zMeth a.Book (Str.ofString "put") Zp [] (zV 6) (zCons (zD (dV 7)) zNil) [s0, s1, s2, s3, s4, some (.loc 1), some (.loc 2), some (.d r.d), x8, x9, s10, s11, s12, s13, x14, x15] (S7 a b b2 J) = .ok (.d (.bl false)) (S7 a b b2 J) := by
      have q := (z_meth1 (f := zV 6) (g := zD (dV 7)) (ρ := [s0, s1, s2, s3, s4, some (.loc 1), some (.loc 2), some (.d r.d), x8, x9, s10, s11, s12, s13, x14, x15]) (mn := Str.ofString "put") (n := 2) (m := 3) (z := .d r.d) rfl rfl rfl rfl).trans (H.p (S := S7 a b b2 J) (n := 2) (m := 3) (b := b) r rfl rfl (by omega))
      rw [T_step (hL r (.head _))] at q
      rw [q, set_same rfl]
    show turnZ (b4_law a Fc F1 Fi Fm Zi Zlp Zp Zt Zk Zo [s0, s1, s2, s3, s4, some (.loc 1), some (.loc 2), some (.d r.d), x8, x9, s10, s11, s12, s13, x14, x15] (S7 a b b2 J)) (forZ (hV 7) (b4_law a Fc F1 Fi Fm Zi Zlp Zp Zt Zk Zo) (L.map Rr.d)) = _
    have q : b4_law a Fc F1 Fi Fm Zi Zlp Zp Zt Zk Zo [s0, s1, s2, s3, s4, some (.loc 1), some (.loc 2), some (.d r.d), x8, x9, s10, s11, s12, s13, x14, x15] (S7 a b b2 J) = .nx [s0, s1, s2, s3, s4, some (.loc 1), some (.loc 2), some (.d r.d), x8, x9, s10, s11, s12, s13, x14, x15] (S7 a b b2 J) := by
      unfold b4_law
      rw [y_ifF1]
      unfold zTst z2
      rw [p]
      rfl
    rw [q]
    rfl
end
end W12
namespace W12
open PySem L2 P2 WP TM PySem.NumText
variable {a : Ad}
noncomputable abbrev no10 : Ev := [.no, .no, .no, .no, .no, .no, .no, .no, .no, .no, .no, .no]
theorem e_base (x0 x1 : D) (w : Int) : ∃ B : Int, (P2.d2 modD (P2.d2 fdivD (dV 2) (dC (.int 4))) (P2.d2 subD (P2.d2 powD (dC (.int 10)) (dC (.int 9))) (dC (.int 5)))) ([.sh x0, .sh x1, .sh (.int w), .no] ++ no10) = .ok (.int B) := by
  have pw9 : powD (.int 10) (.int 9) = .ok (.int 1000000000) := rfl
  refine ⟨w / 4 % 999999995, ?_⟩
  iterate 3 (walk_at "den"; try simp only [pw9, Int.reduceSub])
theorem e_some {F1 : List D -> P2.R D} {ns : List Int} {h0 B w : Int} (hn : ns.length <= 63) (o : ∀ c : Int, ∃ r : Rr, PyData.strOk r.m = true /\ F1 [.int h0, .int B, .int c] = .ok r.d) :
    ∃ rs : List Rr, (∀ r ∈ rs, PyData.strOk r.m = true) /\ rs.length <= 63 /\ (asN (dComp (fun ρ => ((dSl slWD (dV 0) (fun ρ => ((dC (.int 2)) ρ).bind pI) (fun ρ => ((dC (.int 192)) ρ).bind pI)) ρ).bind asI) 1 [3, 1] (gV 0) (fun _ => .ok true) (dA F1 (aCons (dV 2) (aCons (dV 1) (aCons (dV 0) aNil)))))) ([.sh (.lst (ns.map .int)), .sh (.int h0), .sh (.int w), .sh (.int B)] ++ no10) = .ok (.lst (rs.map Rr.d)) := by
  obtain ⟨ms, hm, ml⟩ := cut_map D.int ns (some 2) (some 192)
  obtain ⟨f, hf⟩ : ∃ f : Int -> Rr, ∀ c, PyData.strOk (f c).m = true /\ F1 [.int h0, .int B, .int c] = .ok (f c).d := ⟨fun c => Classical.choose (o c), fun c => Classical.choose_spec (o c)⟩
  refine ⟨ms.map f, fun r hr => ?_, by rw [List.length_map]; omega, ?_⟩
  · obtain ⟨c, _, rfl⟩ := List.mem_map.mp hr
    exact (hf c).1
  · unfold asN
    rw [q_dComp_a]
    have e1 : ((dSl slWD (dV 0) (fun ρ => ((dC (.int 2)) ρ).bind pI) (fun ρ => ((dC (.int 192)) ρ).bind pI)) ([.sh (.lst (ns.map .int)), .sh (.int h0), .sh (.int w), .sh (.int B)] ++ no10)).bind asI = .ok (ms.map D.int) := by
      rw [← hm]; rfl
    rw [e1]
    show ((if (ms.map D.int).length <= sizeLine then ofO (compO _ _ _ [.no, .sh (.int B), .sh (.int h0)] (ms.map D.int)) else .bad) : P2.R (List D)).bind _ = _
    rw [if_pos (by rw [List.length_map]; exact Nat.le_of_lt (sz_lt (by omega)))]
    have e2 : compO (gV 0) (fun _ => .ok true) (dA F1 (aCons (dV 2) (aCons (dV 1) (aCons (dV 0) aNil)))) [.no, .sh (.int B), .sh (.int h0)] (ms.map D.int) = some ((ms.map f).map Rr.d) := by
      clear e1 hm ml
      induction ms with
      | nil => rfl
      | cons c ms ih =>
        rw [List.map_cons]
        unfold compO
        show (okO (dA F1 (aCons (dV 2) (aCons (dV 1) (aCons (dV 0) aNil))) [.sh (.int c), .sh (.int B), .sh (.int h0)])).bind _ = _
        have e3 : dA F1 (aCons (dV 2) (aCons (dV 1) (aCons (dV 0) aNil))) [.sh (.int c), .sh (.int B), .sh (.int h0)] = .ok (f c).d := (hf c).2
        rw [e3]
        show (compO _ _ _ _ (ms.map D.int)).bind _ = _
        rw [ih]
        rfl
    rw [e2]
    rfl
section
variable {f g : ZEv -> Sto -> RX Z} {c e : ZEv -> Sto -> RX Bool} {A B : ZEv -> Sto -> RTZ} {ρ : ZEv} {S S1 S2 : Sto} {z : Z} {i : Nat}
theorem y_ifS (h : c ρ S = .ok true S1) (hf : f ρ S1 = .ok z S2) (hi : i < ρ.length) : ySeq (yIf c (ySet i f) yNil) B ρ S = B (ρ.set i (some z)) S2 := by
  unfold ySeq yIf
  rw [h]
  show seqZ (ySet i f ρ S1) B = _
  exact y_set hf hi
theorem zB_of {q : Ev -> P2.R Bool} {k : Bool} (h : q (pur ρ) = .ok k) : zB q ρ S = .ok k S := by
  unfold zB
  rw [h]; rfl
theorem z_orF (h1 : c ρ S = .ok false S1) : zOrB c e ρ S = e ρ S1 := by unfold zOrB; rw [h1]; rfl
theorem y_clr {zs : List Z} (h : f ρ S = .ok (.loc S.length) (S ++ [.li zs])) : ySeq (yClear f) B ρ S = B ρ (S ++ [.li []]) := by
  unfold ySeq yClear
  rw [h]
  show seqZ (match (S ++ [Cell.li zs])[S.length]? with
    | some (.li _) => .nx ρ ((S ++ [Cell.li zs]).set S.length (.li []))
    | _ => .bad) B = _
  rw [get_last]
  show seqZ (.nx ρ ((S ++ [Cell.li zs]).set S.length (.li []))) B = _
  rw [set_last]
  rfl
theorem y_app {zs : List Z} (hi : ρ[i]? = some (some (.loc S.length))) (hf : f ρ (S ++ [.li zs]) = .ok z (S ++ [.li zs])) (hl : zs.length < 1000) : ySeq (yApp i f) B ρ (S ++ [.li zs]) = B ρ (S ++ [.li (zs ++ [z])]) := by
  have q : yApp i f ρ (S ++ [.li zs]) = .nx ρ (S ++ [.li (zs ++ [z])]) := by
    unfold yApp
    rw [hi]
    show (match (S ++ [Cell.li zs])[S.length]? with
      | some (.li _) => toZ (f ρ (S ++ [Cell.li zs])) fun z S1 => (match S1[S.length]? with
        | some (.li zs) => if zs.length < sizeLine then RTZ.nx ρ (S1.set S.length (.li (zs ++ [z]))) else .bad
        | _ => .bad)
      | _ => .bad) = _
    rw [get_last]
    show toZ (f ρ (S ++ [Cell.li zs])) _ = _
    rw [hf]
    show (match (S ++ [Cell.li zs])[S.length]? with
        | some (.li zs') => if zs'.length < sizeLine then RTZ.nx ρ ((S ++ [Cell.li zs]).set S.length (.li (zs' ++ [z]))) else .bad
        | _ => .bad) = _
    rw [get_last]
    show (if zs.length < sizeLine then _ else _) = _
    rw [if_pos (sz_lt hl), set_last]
  unfold ySeq
  rw [q]; rfl
end
theorem e_odd (x0 x1 : D) (w : Int) (ρ : Ev) : (P2.b1 tB (P2.d2 eqSD (P2.d2 modD (dV 2) (dC (.int 2))) (dC (.int 1)))) (.sh x0 :: .sh x1 :: .sh (.int w) :: ρ) = .ok (decide (w % 2 = 1)) := by
  iterate 3 (walk_at "den")
theorem e_place (x0 x1 x3 : D) (w : Int) (rs : List Rr) (ρ : Ev) : ∃ p : Nat, p <= rs.length /\ (P2.d2 modD (P2.d2 fdivD (dV 2) (dC (.int 4))) (P2.d2 addD (dA lenD (aCons (dV 4) aNil)) (dC (.int 1)))) (.sh x0 :: .sh x1 :: .sh (.int w) :: .sh x3 :: .sh (.lst (rs.map Rr.d)) :: ρ) = .ok (.int p) := by
  have hp : (0 : Int) < (rs.length : Int) + 1 := by omega
  have h1 := Int.emod_nonneg (w / 4) (show (rs.length : Int) + 1 ≠ 0 by omega)
  have h2 := Int.emod_lt_of_pos (w / 4) hp
  obtain ⟨p, ep⟩ := Int.eq_ofNat_of_zero_le h1
  refine ⟨p, by omega, ?_⟩
  have hl : (rs.map Rr.d).length = rs.length := List.length_map ..
  iterate 4 (walk_at "den"; try simp only [hl, q_mod_p hp, ep])
theorem e_turn {L : List D} {p : Nat} (hp : p <= L.length) (hl : L.length <= 100) : ((slWD (.lst L) (some (p : Int)) none).bind fun x => (slWD (.lst L) none (some (p : Int))).bind fun y => addD x y) = .ok (.lst (L.drop p ++ L.take p)) := by
  show ((P2.R.ok (D.lst (cutD L (some (p : Int)) none))).bind fun x => (P2.R.ok (D.lst (cutD L none (some (p : Int))))).bind fun y => addD x y) = _
  rw [cut_from hp, cut_to]
  show (if (L.drop p).length + (L.take p).length <= sizeLine then P2.R.ok (D.lst (L.drop p ++ L.take p)) else .bad) = _
  rw [if_pos (Nat.le_of_lt (sz_lt (by rw [List.length_drop, List.length_take]; omega)))]
theorem e_iter {Q L : List D} (hq : Q.length <= 100) : (((slWD (.lst L) none (some 3)).bind fun y => addD (.lst Q) y).bind asI) = .ok (Q ++ L.take 3) := by
  show (((P2.R.ok (D.lst (cutD L none (some ((3 : Nat) : Int))))).bind fun y => addD (.lst Q) y).bind asI) = _
  rw [cut_to]
  show ((if Q.length + (L.take 3).length <= sizeLine then P2.R.ok (D.lst (Q ++ L.take 3)) else .bad) : P2.R D).bind asI = _
  rw [if_pos (Nat.le_of_lt (sz_lt (by rw [List.length_take]; omega)))]
  rfl
theorem m_law {Fc F1 Fi Fm : List D -> P2.R D} {Zi Zlp Zp Zt Zk Zo : List Z -> Sto -> RX Z} (H : Fz a Fc F1 Fi Fm Zi Zlp Zp Zt Zk Zo) (ns : List Int) (hn : ns.length <= 63) (bb : Nat) :
    ∃ S', finZ (g_law a Fc F1 Fi Fm Zi Zlp Zp Zt Zk Zo bb (startZ 16 [.d (.lst (ns.map .int))]) [.mk]) = .ok (.d (.bl true)) S' := by
  have c0 : Fc [.lst (ns.map .int), .int 0] = .ok (.int (ns.getD 0 0)) := H.c ns 0
  have c1 : Fc [.lst (ns.map .int), .int 1] = .ok (.int (ns.getD 1 0)) := H.c ns 1
  generalize ns.getD 0 0 = h0 at c0
  generalize ns.getD 1 0 = w at c1
  generalize hX : D.lst (ns.map .int) = X at c0 c1
  unfold g_law
  show ∃ S', finZ (ySeq (ySet 1 _) _ [some (.d X), none, none, none, none, none, none, none, none, none, none, none, none, none, none, none] [.mk]) = _
  rw [y_set (z := .d (.int h0)) (S1 := [.mk]) (zD_of (show Fc [X, .int 0] = _ from c0)) (by show 1 < 16; decide)]
  rw [y_set (z := .d (.int w)) (S1 := [.mk]) (zD_of (show Fc [X, .int 1] = _ from c1)) (by show 2 < 16; decide)]
  obtain ⟨B, eB⟩ := e_base X (.int h0) w
  rw [y_set (z := .d (.int B)) (S1 := [.mk]) (zD_of eB) (by show 3 < 16; decide)]
  obtain ⟨rs, hs, hl, eS⟩ := e_some (w := w) hn (H.o h0 B)
  rw [hX] at eS
  rw [y_set (z := .d (.lst (rs.map Rr.d))) (S1 := [.mk]) (zD_of eS) (by show 4 < 16; decide)]
  rw [y_set (z := .loc 1) (S1 := [.mk, cel []]) rfl (by show 5 < 16; decide)]
  rw [y_set (z := .loc 2) (S1 := [.mk, cel [], obj a 3, cel []]) (H.mak _ [.mk, cel []]) (by show 6 < 16; decide)]
  show ∃ S', finZ (ySeq (yFor _ _ _) _ [some (.d X), some (.d (.int h0)), some (.d (.int w)), some (.d (.int B)), some (.d (.lst (rs.map Rr.d))), some (.loc 1), some (.loc 2), none, none, none, none, none, none, none, none, none] [.mk, cel [], obj a 3, cel []]) = _
  obtain ⟨x7, x8, x9, hx, e1⟩ := loop1 H (some (.d X)) (some (.d (.int h0))) (some (.d (.int w))) (some (.d (.int B))) (some (.d (.lst (rs.map Rr.d)))) rs [] none none none (fun _ => ⟨rfl, rfl, rfl⟩) (by simp; omega)
  rw [y_for (ds := rs.map Rr.d) rfl e1]
  have lb : (runM [] rs).length < 64 := by have := len_run rs []; simp at this; omega
  have hsT : ∀ r ∈ T (runM [] rs), PyData.strOk r.m = true := fun r hr => by
    obtain ⟨q, hq, e⟩ := T_mem hr
    rw [← e]; exact hs q hq
  generalize hb : runM [] rs = b at lb hsT
  have due : zFrz (zZ Zt (zCons (zV 5) zNil)) [some (.d X), some (.d (.int h0)), some (.d (.int w)), some (.d (.int B)), some (.d (.lst (rs.map Rr.d))), some (.loc 1), some (.loc 2), x7, x8, x9, none, none, none, none, none, none] [.mk, cel b, obj a 3, cel b] = .ok (.d (.lst ((T b).map Rr.d))) [.mk, cel b, obj a 3, cel b, .no] := by
    refine frz_new (n := 4) (S' := [.mk, cel b, obj a 3, cel b]) (L := (T b).map Rr.d) ?_ rfl (fun j hj => ?_) (Nat.le_refl _) ?_
    · show Zt [.loc 1] [.mk, cel b, obj a 3, cel b] = _
      rw [H.t (S := [.mk, cel b, obj a 3, cel b]) (m := 1) rfl rfl lb, List.map_map]
      rfl
    · have hj' : 4 <= j := hj
      show (false || (cellHas j (cel b) || ((decide (3 = j) || false) || (cellHas j (cel b) || false)))) = false
      rw [cel_has, decide_eq_false (by omega)]
      rfl
    · obtain ⟨g1, g2, g3⟩ := hx 4
      show (false || (false || (false || (false || (false || (false || (false || (slotHas 4 x7 || (slotHas 4 x8 || (slotHas 4 x9 || false)))))))))) = false
      rw [g1, g2, g3]; rfl
  rw [y_set (z := .d (.lst ((T b).map Rr.d))) (S1 := [.mk, cel b, obj a 3, cel b, .no]) due (by show 10 < 16; decide)]
  rw [y_set (z := .loc 5) (S1 := [.mk, cel b, obj a 3, cel b, .no, obj a 6, cel []]) (H.mak _ [.mk, cel b, obj a 3, cel b, .no]) (by show 11 < 16; decide)]
  obtain ⟨p, hp, ep⟩ := e_place X (.int h0) (.int B) w rs [.no, .no, purS x7, purS x8, purS x9, .sh (.lst ((T b).map Rr.d)), .no, .no, .no, .no, .no]
  rw [y_set (z := .d (.int p)) (S1 := [.mk, cel b, obj a 3, cel b, .no, obj a 6, cel []]) (zD_of ep) (by show 12 < 16; decide)]
  have et := e_turn (L := rs.map Rr.d) (p := p) (by rw [List.length_map]; exact hp) (by rw [List.length_map]; omega)
  rw [← List.map_drop, ← List.map_take, ← List.map_append] at et
  rw [y_set (z := .d (.lst ((rs.drop p ++ rs.take p).map Rr.d))) (S1 := [.mk, cel b, obj a 3, cel b, .no, obj a 6, cel []]) (zD_of et) (by show 13 < 16; decide)]
  have eo := e_odd X (.int h0) w [.sh (.int B), .sh (.lst (rs.map Rr.d)), .no, .no, purS x7, purS x8, purS x9, .sh (.lst ((T b).map Rr.d)), .no, .sh (.int p), .sh (.lst ((rs.drop p ++ rs.take p).map Rr.d)), .no, .no]
  obtain ⟨qs, hq, hql, e13⟩ : ∃ qs : List Rr, (∀ r, r ∈ qs ↔ r ∈ rs) /\ qs.length <= 63 /\ ∀ Bk : ZEv -> Sto -> RTZ, ySeq (yIf (zB (P2.b1 tB (P2.d2 eqSD (P2.d2 modD (dV 2) (dC (.int 2))) (dC (.int 1))))) (ySet 13 (zD (asN (fun ρ => ((dV 4) ρ).bind revL)))) yNil) Bk [some (.d X), some (.d (.int h0)), some (.d (.int w)), some (.d (.int B)), some (.d (.lst (rs.map Rr.d))), some (.loc 1), some (.loc 2), x7, x8, x9, some (.d (.lst ((T b).map Rr.d))), some (.loc 5), some (.d (.int p)), some (.d (.lst ((rs.drop p ++ rs.take p).map Rr.d))), none, none] [.mk, cel b, obj a 3, cel b, .no, obj a 6, cel []]
      = Bk [some (.d X), some (.d (.int h0)), some (.d (.int w)), some (.d (.int B)), some (.d (.lst (rs.map Rr.d))), some (.loc 1), some (.loc 2), x7, x8, x9, some (.d (.lst ((T b).map Rr.d))), some (.loc 5), some (.d (.int p)), some (.d (.lst (qs.map Rr.d))), none, none] [.mk, cel b, obj a 3, cel b, .no, obj a 6, cel []] := by
    by_cases odd : w % 2 = 1
    · refine ⟨rs.reverse, fun r => List.mem_reverse, by rw [List.length_reverse]; exact hl, fun Bk => ?_⟩
      rw [decide_eq_true odd] at eo
      rw [y_ifS (z := .d (.lst (rs.reverse.map Rr.d))) (S1 := [.mk, cel b, obj a 3, cel b, .no, obj a 6, cel []]) (S2 := [.mk, cel b, obj a 3, cel b, .no, obj a 6, cel []]) (zB_of eo) (zD_of (show P2.R.ok (D.lst (rs.map Rr.d).reverse) = _ from by rw [← List.map_reverse])) (by show 13 < 16; decide)]
      rfl
    · refine ⟨rs.drop p ++ rs.take p, fun r => ?_, by rw [List.length_append, List.length_drop, List.length_take]; omega, fun Bk => ?_⟩
      · rw [List.mem_append]
        constructor
        · rintro (h | h)
          · exact List.mem_of_mem_drop h
          · exact List.mem_of_mem_take h
        · intro h
          rw [← List.take_append_drop p rs, List.mem_append] at h
          exact h.symm
      · rw [decide_eq_false odd] at eo
        rw [y_ifF (S1 := [.mk, cel b, obj a 3, cel b, .no, obj a 6, cel []]) (zB_of eo)]
  refine (congrArg (fun x => ∃ S', finZ x = RX.ok (Z.d (.bl true)) S') (e13 _)).mpr ?_
  obtain ⟨y7, hy7, e2⟩ := loop2 H b (some (.d X)) (some (.d (.int h0))) (some (.d (.int w))) (some (.d (.int B))) (some (.d (.lst (rs.map Rr.d)))) x8 x9 (some (.d (.lst ((T b).map Rr.d)))) (some (.d (.int p))) (some (.d (.lst (qs.map Rr.d)))) none none (qs ++ rs.take 3) [] x7 (fun j => (hx j).1) (by rw [List.length_append, List.length_take]; simp; omega)
  have ei := e_iter (Q := qs.map Rr.d) (L := rs.map Rr.d) (by rw [List.length_map]; omega)
  rw [← List.map_take, ← List.map_append] at ei
  rw [y_for (ds := (qs ++ rs.take 3).map Rr.d) ei e2]
  have mem : ∀ r, r ∈ rs ↔ r ∈ qs ++ rs.take 3 := fun r => by
    rw [List.mem_append, hq]
    exact ⟨.inl, fun h => h.elim id List.mem_of_mem_take⟩
  have eT := run_T mem
  have eL := run_len mem
  rw [hb] at eT eL
  generalize hb2 : runM [] (qs ++ rs.take 3) = b2 at eT eL
  have hsT2 : ∀ r ∈ T b2, PyData.strOk r.m = true := by rw [← eT]; exact hsT
  have hx7 : ∀ j, 7 <= j -> slotHas j y7 = false /\ slotHas j x8 = false /\ slotHas j x9 = false := fun j _ => ⟨hy7 j, (hx j).2.1, (hx j).2.2⟩
  -- both tell the same
  have low : ∀ (y14 y15 : Option Z), (∀ j, slotHas j y14 = false /\ slotHas j y15 = false) -> ∀ (z9 : Option Z) (n : Nat), 7 <= n -> (∀ j, n <= j -> slotHas j z9 = false) -> ∀ z7 : Option Z, (∀ j, slotHas j z7 = false) -> Low n [some (.d X), some (.d (.int h0)), some (.d (.int w)), some (.d (.int B)), some (.d (.lst (rs.map Rr.d))), some (.loc 1), some (.loc 2), z7, x8, z9, some (.d (.lst ((T b).map Rr.d))), some (.loc 5), some (.d (.int p)), some (.d (.lst (qs.map Rr.d))), y14, y15] := fun y14 y15 hy z9 n hn h9 z7 h7 j hj => by
    show (false || (false || (false || (false || (false || (decide (1 = j) || (decide (2 = j) || (slotHas j z7 || (slotHas j x8 || (slotHas j z9 || (false || (decide (5 = j) || (false || (false || (slotHas j y14 || (slotHas j y15 || false)))))))))))))))) = false
    rw [h7 j, (hx j).2.1, h9 j hj, (hy j).1, (hy j).2, decide_eq_false (by omega), decide_eq_false (by omega), decide_eq_false (by omega)]
    rfl
  have dead0 : Dead [] := fun c hc => by simp at hc
  show ∃ S', finZ (ySeq (yIf _ _ _) _ [some (.d X), some (.d (.int h0)), some (.d (.int w)), some (.d (.int B)), some (.d (.lst (rs.map Rr.d))), some (.loc 1), some (.loc 2), y7, x8, x9, some (.d (.lst ((T b).map Rr.d))), some (.loc 5), some (.d (.int p)), some (.d (.lst (qs.map Rr.d))), none, none] (S7 a b b2 [])) = _
  have l0 := low none none (fun _ => ⟨rfl, rfl⟩) x9 7 (Nat.le_refl _) (fun j _ => (hx j).2.2) y7 hy7
  rw [y_ifF (S1 := S7 a b b2 [.no, .no]) ((z_orF (t_kept H (J := []) (n := 2) (m := 3) (bb := b) dead0 l0 rfl rfl rfl lb rfl hsT)).trans (t_kept H (J := [.no]) (n := 5) (m := 6) (bb := b2) dead0.no (fun j hj => l0 j (by have : 8 <= j := hj; omega)) rfl rfl rfl (by omega) (by rw [← eT]; rfl) hsT2))]
  obtain ⟨J3, y14, y15, dJ3, hy14, e3⟩ := loop3 H (b2 := b2) lb hsT X (.int w) (.int B) (.lst (rs.map Rr.d)) (.int p) (.lst (qs.map Rr.d)) h0 y7 x8 x9 hx7 [0, 1, 2] [.no, .no] none none dead0.no.no (fun _ => ⟨rfl, rfl⟩)
  rw [y_for (ds := ([0, 1, 2] : List Int).map D.int) rfl e3]
  -- what was told is changed
  have lT : (T b).length < 64 := by unfold T; rw [List.length_map, (srt_perm _).length_eq, List.length_map]; exact lb
  rw [y_clr (zs := (T b).map fun r => Z.d r.d) ((z_meth0 (n := 2) (m := 3) rfl rfl rfl).trans (H.k (S := S7 a b b2 J3) rfl rfl rfl lb)), show (Cell.li []) = .li (([] : List D).map Z.d) from rfl, app7]
  have dJ4 := dJ3.li []
  generalize hJ4 : J3 ++ [Cell.li (([] : List D).map Z.d)] = J4 at dJ4
  rw [y_set (z := .loc (S7 a b b2 J4).length) (S1 := S7 a b b2 J4 ++ [.li ((T b2).map fun r => Z.d r.d)]) ((z_meth0 (n := 5) (m := 6) rfl rfl rfl).trans (H.k (S := S7 a b b2 J4) rfl rfl rfl (by omega))) (by show 9 < 16; decide)]
  obtain ⟨w0, hw0, em⟩ := H.m h0 0
  rw [y_app (S := S7 a b b2 J4) (zs := (T b2).map fun r => Z.d r.d) (z := .d (.tup [.str w0, .int 0, .int 0, .int 0])) rfl (zD_of (by
    show ((Fm [.int h0, .int 0]).bind fun x => _).bind mkT = _
    rw [em]; rfl)) (by rw [List.length_map, ← eT]; omega)]
  have eA : ((T b2).map fun r => Z.d r.d) ++ [Z.d (.tup [.str w0, .int 0, .int 0, .int 0])] = ((T b2).map Rr.d ++ [D.tup [.str w0, .int 0, .int 0, .int 0]]).map Z.d := by rw [List.map_append, List.map_map]; rfl
  rw [eA, app7]
  have dJ5 := dJ4.li ((T b2).map Rr.d ++ [D.tup [.str w0, .int 0, .int 0, .int 0]])
  have l5 : (J4 ++ [Cell.li (((T b2).map Rr.d ++ [D.tup [.str w0, .int 0, .int 0, .int 0]]).map Z.d)]).length = J4.length + 1 := by rw [List.length_append]; rfl
  generalize J4 ++ [Cell.li (((T b2).map Rr.d ++ [D.tup [.str w0, .int 0, .int 0, .int 0]]).map Z.d)] = J5 at dJ5 l5
  obtain ⟨z7, hz7, e4⟩ := loop4 H (b2 := b2) lb J5 (some (.d X)) (some (.d (.int h0))) (some (.d (.int w))) (some (.d (.int B))) (some (.d (.lst (rs.map Rr.d)))) x8 (some (.loc (S7 a b b2 J4).length)) (some (.d (.lst ((T b).map Rr.d)))) (some (.loc 5)) (some (.d (.int p))) (some (.d (.lst (qs.map Rr.d)))) y14 y15 (T b) y7 (fun _ h => h) hy7
  show ∃ S', finZ (ySeq (yFor _ _ _) _ [some (.d X), some (.d (.int h0)), some (.d (.int w)), some (.d (.int B)), some (.d (.lst (rs.map Rr.d))), some (.loc 1), some (.loc 2), y7, x8, some (.loc (S7 a b b2 J4).length), some (.d (.lst ((T b).map Rr.d))), some (.loc 5), some (.d (.int p)), some (.d (.lst (qs.map Rr.d))), y14, y15] (S7 a b b2 J5)) = _
  rw [y_for (ds := (T b).map Rr.d) rfl e4]
  have l9 := low y14 y15 hy14 (some (.loc (S7 a b b2 J4).length)) (7 + J5.length) (by omega) (fun j hj => by
    show decide ((S7 a b b2 J4).length = j) = false
    rw [len7]
    exact decide_eq_false (by omega)) z7 hz7
  have k1 := is_kept H (b2 := b2) (J := J5) (i := 6) (n := 2) (m := 3) (bb := b) dJ5 l9 rfl rfl rfl lb rfl hsT
  have k2 := is_kept H (b := b) (b2 := b2) (J := J5 ++ [.no]) (i := 11) (n := 5) (m := 6) (bb := b2) dJ5.no (fun j hj => l9 j (by rw [List.length_append] at hj; have : 7 + (J5.length + 1) <= j := hj; omega)) rfl rfl rfl (by omega) (by rw [← eT]; rfl) hsT2
  refine ⟨S7 a b b2 (J5 ++ [.no] ++ [.no]), ?_⟩
  rw [y_ret (z := .d (.bl true)) (S1 := S7 a b b2 (J5 ++ [.no] ++ [.no]))]
  · rfl
  unfold zAndV
  rw [k1]
  exact k2
theorem top_Z {K : PySem.W.Frag} {F : List Z -> Sto -> RX Z} {vs : List V} {H : Hp} {Q : VK} {E : XK} {ns : List Int} {al : Addr -> Prop} {S' : Sto} (hl : vs.length = 1) (rv : Reps K al H vs [.lst (ns.map D.int)]) (tt : TbOk K H) (e : F [.d (.lst (ns.map .int))] [.mk] = .ok (.d (.bl true)) S') (q : ∀ H', Same K H H' -> Q (.bl true) H') : spZ 1 K F vs H Q E := by
  refine ⟨hl, tt, fun _ => True, fun _ => none, [.d (.lst (ns.map .int))], [.mk], fun _ _ => trivial, ⟨fun _ _ h => (by cases h), fun n c h _ hm => ?_, fun _ _ h => (by cases h), fun _ _ _ h => (by cases h), fun _ _ _ _ _ => trivial⟩, .ofD (ds := [.lst (ns.map .int)]) (Reps.mv (.sub fun _ _ => trivial) rv), ?_⟩
  · cases n with
    | zero => cases h; exact absurd rfl hm
    | succ n => simp at h
  · rw [e]
    intro al' lo' H' v ez r2
    have ev : v = .bl true := by cases r2; rfl
    rw [ev]
    exact q H' ⟨fun b o no hb => ez.fr b o no hb fun _ => nofun, ez.hf, fun _ => ez.tt⟩
end W12
namespace W12
open PySem L2 P2 WP TM PySem.NumText
noncomputable abbrev fo (x q : Str) (st : Stmt) (dV kV doc pm : Value) (an : Option Addr) (cdv ct : Value) : FuncData := PySem.W.fnOf x q (defArgs st) (defBody st) (defScope st) dV kV doc pm an cdv ct
noncomputable def spLaw (K : PySem.W.Frag) : Sp := fun vs H Q E => ∃ (al : Addr -> Prop) (ns : List Int), vs.length = 1 /\ (∀ a, H a = none -> al a) /\ ns.length <= 63 /\ Reps K al H vs [.lst (ns.map D.int)] /\ TbOk K H /\ ∀ H', Same K H H' -> Q (.bl true) H'
theorem reps_ints {K : PySem.W.Frag} {al : Addr -> Prop} {H : Hp} : ∀ ns : List Int, Reps K al H (ns.map V.int) (ns.map D.int)
  | [] => .nil
  | _ :: ns => .cons (.int _) (reps_ints ns)
theorem spLaw_of {K : PySem.W.Frag} {H : Hp} {a : Addr} {ns : List Int} (hl : ns.length <= 63) (tt : TbOk K H) (r : Rep K (fun _ => True) H (.ref a) (.lst (ns.map D.int))) : spLaw K [.ref a] H (fun v _ => v = .bl true) fun _ _ _ => False :=
  ⟨fun _ => True, ns, rfl, fun _ _ => trivial, hl, .cons r .nil, tt, fun _ _ => rfl⟩
noncomputable def isF (K : PySem.W.Frag) (cs : List Addr) (c : Addr) (u : Value) : Option Bool := if c ∈ cs then PySem.W.kitOne K (.ref c) u else none
theorem isF_ok {K : PySem.W.Frag} {cs : List Addr} (h : ∀ c ∈ cs, YCls K c) : IsOk K (isF K cs) := fun c u b e => by
  unfold isF at e
  split at e
  · rename_i z; exact ⟨h c z, e⟩
  · cases e
section
variable (a : Ad)
noncomputable abbrev M_Book___init : List Z -> Sto -> RX Z := fun zs S => finZ (g_Book___init a S.length (startZ 1 zs) S)
noncomputable abbrev M_Book_put : List Z -> Sto -> RX Z := fun zs S => finZ (g_Book_put a S.length (startZ 4 zs) S)
noncomputable abbrev M_Book_kept : List Z -> Sto -> RX Z := fun zs S => finZ (g_Book_kept a S.length (startZ 1 zs) S)
noncomputable abbrev M_Book_of_mast : List Z -> Sto -> RX Z := fun zs S => finZ (g_Book_of_mast a (M_Book_kept a) S.length (startZ 2 zs) S)
noncomputable abbrev Ml_cell_at : List D -> R D := fun ds => finT (gl_cell_at a (startD 2 ds))
noncomputable abbrev Ml_mast : List D -> R D := fun ds => finT (gl_mast a (startD 4 ds))
noncomputable abbrev Ml_one : List D -> R D := fun ds => finT (gl_one a (Ml_mast a) (startD 7 ds))
noncomputable abbrev Ml_told : List Z -> Sto -> RX Z := fun zs S => finZ (gl_told a S.length (startZ 1 zs) S)
noncomputable abbrev Ml_put : List Z -> Sto -> RX Z := fun zs S => finZ (gl_put a S.length (startZ 3 zs) S)
noncomputable abbrev Ml_is : List D -> R D := fun ds => finT (gl_is a (startD 3 ds))
theorem fzM : Fz a (Ml_cell_at a) (Ml_one a) (Ml_is a) (Ml_mast a) (M_Book___init a) (Ml_put a) (M_Book_put a) (Ml_told a) (M_Book_kept a) (M_Book_of_mast a) where
  c := fun ns k => m_cell ns k
  o := fun h b c => m_one (fun c k => m_mast c k) h b c
  i := fun h => m_is h
  m := fun c k => m_mast c k
  mak := fun ρ S => m_make ρ S
  lp := fun r h hb => m_lput r h hb
  p := fun r h1 h2 hb => m_put r h1 h2 hb
  t := fun h0 h2 hb => m_told h0 h2 hb
  k := fun h0 h1 h2 hb => m_kept h0 h1 h2 hb
  of := fun w h0 h1 h2 hb hS => m_of (fun h0 h1 h2 hb => m_kept h0 h1 h2 hb) w h0 h1 h2 hb hS
end
theorem all_mk {l : PySem.W.OpenLaw} {w : World} {K : PySem.W.Frag} {h : Heap} {mg : Str -> Option Value} {fa : Addr} {f1 f2 f3 f4 f5 f6 f7 f8 f9 f10 f11 C_Book : Addr} (X : K.In h) (G : h.Ns mainGlobals mg) (hfa : mg "law" = some (.ref fa))
    {od1 an1 od2 an2 od3 an3 od4 an4 od5 an5 od6 an6 od7 an7 od8 an8 od9 an9 od10 an10 od11 an11 : Option Addr} {sl1 sl2 sl3 sl4 sl5 sl6 sl7 sl8 sl9 sl10 sl11 : Array (Option Value)} {oc1 kV1 dc1 pm1 cd1 ct1 oc2 kV2 dc2 pm2 cd2 ct2 oc3 kV3 dc3 pm3 cd3 ct3 oc4 kV4 dc4 pm4 cd4 ct4 oc5 kV5 dc5 pm5 cd5 ct5 oc6 kV6 dc6 pm6 cd6 ct6 oc7 kV7 dc7 pm7 cd7 ct7 oc8 kV8 dc8 pm8 cd8 ct8 oc9 kV9 dc9 pm9 cd9 ct9 oc10 kV10 dc10 pm10 cd10 ct10 oc11 kV11 dc11 pm11 cd11 ct11 : Value}
    (a5 : PySem.W.nsIn K mainGlobals "_law_cell_at" = some (some (.ref f5)))
    (l5 : K.lookup f5 = some ⟨oc5, od5, .func (fo "_law_cell_at" "_law_cell_at" sl_cell_at .none kV5 dc5 pm5 an5 cd5 ct5), sl5⟩) (c5 : PySem.W.codeIn K cd5 "_law_cell_at" = true) (k5 : PySem.W.keepIn K (.ref f5) = true)
    (a6 : PySem.W.nsIn K mainGlobals "_law_mast" = some (some (.ref f6)))
    (l6 : K.lookup f6 = some ⟨oc6, od6, .func (fo "_law_mast" "_law_mast" sl_mast .none kV6 dc6 pm6 an6 cd6 ct6), sl6⟩) (c6 : PySem.W.codeIn K cd6 "_law_mast" = true) (k6 : PySem.W.keepIn K (.ref f6) = true)
    (a7 : PySem.W.nsIn K mainGlobals "_law_one" = some (some (.ref f7)))
    (l7 : K.lookup f7 = some ⟨oc7, od7, .func (fo "_law_one" "_law_one" sl_one .none kV7 dc7 pm7 an7 cd7 ct7), sl7⟩) (c7 : PySem.W.codeIn K cd7 "_law_one" = true) (k7 : PySem.W.keepIn K (.ref f7) = true)
    (a8 : PySem.W.nsIn K mainGlobals "_law_told" = some (some (.ref f8)))
    (l8 : K.lookup f8 = some ⟨oc8, od8, .func (fo "_law_told" "_law_told" sl_told .none kV8 dc8 pm8 an8 cd8 ct8), sl8⟩) (c8 : PySem.W.codeIn K cd8 "_law_told" = true) (k8 : PySem.W.keepIn K (.ref f8) = true)
    (a9 : PySem.W.nsIn K mainGlobals "_law_put" = some (some (.ref f9)))
    (l9 : K.lookup f9 = some ⟨oc9, od9, .func (fo "_law_put" "_law_put" sl_put .none kV9 dc9 pm9 an9 cd9 ct9), sl9⟩) (c9 : PySem.W.codeIn K cd9 "_law_put" = true) (k9 : PySem.W.keepIn K (.ref f9) = true)
    (a10 : PySem.W.nsIn K mainGlobals "_law_is" = some (some (.ref f10)))
    (l10 : K.lookup f10 = some ⟨oc10, od10, .func (fo "_law_is" "_law_is" sl_is .none kV10 dc10 pm10 an10 cd10 ct10), sl10⟩) (c10 : PySem.W.codeIn K cd10 "_law_is" = true) (k10 : PySem.W.keepIn K (.ref f10) = true)
    (a11 : PySem.W.nsIn K mainGlobals "law" = some (some (.ref f11)))
    (l11 : K.lookup f11 = some ⟨oc11, od11, .func (fo "law" "law" s_law .none kV11 dc11 pm11 an11 cd11 ct11), sl11⟩) (c11 : PySem.W.codeIn K cd11 "law" = true) (k11 : PySem.W.keepIn K (.ref f11) = true)
    (aC_Book : PySem.W.nsIn K mainGlobals "Book" = some (some (.ref C_Book)))
    (ck1_Book : PySem.W.plainGet K C_Book Str.empty = true) (ck2_Book : PySem.W.hasDictIn K C_Book = true) (ck3_Book : PySem.W.plainOver K C_Book = true) (ck4_Book : PySem.W.findIn K (.ref C_Book) "__setattr__" = some (some (.builtin "object.__setattr__"))) (ck5_Book : PySem.W.makesIn K C_Book = true) (ck6_Book : PySem.W.keepIn K (.ref C_Book) = true)
    (cn_Book_latest : PySem.W.findIn K (.ref C_Book) "latest" = some none)
    (a1 : PySem.W.findIn K (.ref C_Book) "__init__" = some (some (.ref f1))) (n1 : PySem.W.isFn K (.ref f1) = true)
    (l1 : K.lookup f1 = some ⟨oc1, od1, .func (fo "__init__" "Book.__init__" s_Book___init .none kV1 dc1 pm1 an1 cd1 ct1), sl1⟩) (c1 : PySem.W.codeIn K cd1 "Book.__init__" = true) (k1 : PySem.W.keepIn K (.ref f1) = true)
    (a2 : PySem.W.findIn K (.ref C_Book) "put" = some (some (.ref f2))) (n2 : PySem.W.isFn K (.ref f2) = true)
    (l2 : K.lookup f2 = some ⟨oc2, od2, .func (fo "put" "Book.put" s_Book_put .none kV2 dc2 pm2 an2 cd2 ct2), sl2⟩) (c2 : PySem.W.codeIn K cd2 "Book.put" = true) (k2 : PySem.W.keepIn K (.ref f2) = true)
    (a3 : PySem.W.findIn K (.ref C_Book) "kept" = some (some (.ref f3))) (n3 : PySem.W.isFn K (.ref f3) = true)
    (l3 : K.lookup f3 = some ⟨oc3, od3, .func (fo "kept" "Book.kept" s_Book_kept .none kV3 dc3 pm3 an3 cd3 ct3), sl3⟩) (c3 : PySem.W.codeIn K cd3 "Book.kept" = true) (k3 : PySem.W.keepIn K (.ref f3) = true)
    (a4 : PySem.W.findIn K (.ref C_Book) "of_mast" = some (some (.ref f4))) (n4 : PySem.W.isFn K (.ref f4) = true)
    (l4 : K.lookup f4 = some ⟨oc4, od4, .func (fo "of_mast" "Book.of_mast" s_Book_of_mast .none kV4 dc4 pm4 an4 cd4 ct4), sl4⟩) (c4 : PySem.W.codeIn K cd4 "Book.of_mast" = true) (k4 : PySem.W.keepIn K (.ref f4) = true)
    (z_all : PySem.W.nsIn K mainGlobals "all" = some none) (z_any : PySem.W.nsIn K mainGlobals "any" = some none) (z_bool : PySem.W.nsIn K mainGlobals "bool" = some none) (z_int : PySem.W.nsIn K mainGlobals "int" = some none) (z_isinstance : PySem.W.nsIn K mainGlobals "isinstance" = some none) (z_len : PySem.W.nsIn K mainGlobals "len" = some none) (z_list : PySem.W.nsIn K mainGlobals "list" = some none) (z_range : PySem.W.nsIn K mainGlobals "range" = some none) (z_reversed : PySem.W.nsIn K mainGlobals "reversed" = some none) (z_sorted : PySem.W.nsIn K mainGlobals "sorted" = some none) (z_tuple : PySem.W.nsIn K mainGlobals "tuple" = some none) :
    ∃ fd : FuncData, (∀ (s : Shared) (v : Value), BindsTo s fd ⟨[v], []⟩ [("_law_script", v)]) /\ ∀ base : Heap, K.In base -> base.Ns mainGlobals mg -> BM mg base -> FnOk l.prog w K mg base (CXx l.prog w) 3 fa fd ["_law_script"] (spLaw K) := by
  have e := hfa.symm.trans (PySem.W.mg_of X G a11)
  cases e
  have IS : IsOk K (isF K []) := isF_ok fun c hc => by
    simp only [List.mem_cons, List.not_mem_nil, or_false] at hc
  have T : Tx K mg ({Book := C_Book, isx := isF K []} : Ad) := {b_all := PySem.W.mg_none_of X G z_all, b_any := PySem.W.mg_none_of X G z_any, b_bool := PySem.W.mg_none_of X G z_bool, b_int := PySem.W.mg_none_of X G z_int, b_isinstance := PySem.W.mg_none_of X G z_isinstance, b_len := PySem.W.mg_none_of X G z_len, b_list := PySem.W.mg_none_of X G z_list, b_range := PySem.W.mg_none_of X G z_range, b_reversed := PySem.W.mg_none_of X G z_reversed, b_sorted := PySem.W.mg_none_of X G z_sorted, b_tuple := PySem.W.mg_none_of X G z_tuple, c_Book := PySem.W.mg_of X G aC_Book, k_Book := ⟨ck1_Book, ck2_Book, ck3_Book, ck4_Book⟩, n_Book_latest := cn_Book_latest, isok := IS}
  have F1 := fund_mk (st := s_Book___init) l1 c1 k1
  have b1 := F1.binds (ps := ["self"]) fun _ _ _ _ _ _ us hl => match us, hl with | [_], _ => rfl
  have F2 := fund_mk (st := s_Book_put) l2 c2 k2
  have b2 := F2.binds (ps := ["self", "reading"]) fun _ _ _ _ _ _ us hl => match us, hl with | [_, _], _ => rfl
  have F3 := fund_mk (st := s_Book_kept) l3 c3 k3
  have b3 := F3.binds (ps := ["self"]) fun _ _ _ _ _ _ us hl => match us, hl with | [_], _ => rfl
  have F4 := fund_mk (st := s_Book_of_mast) l4 c4 k4
  have b4 := F4.binds (ps := ["self", "mast"]) fun _ _ _ _ _ _ us hl => match us, hl with | [_, _], _ => rfl
  have F5 := fun_mk (st := sl_cell_at) l5 c5 k5
  have b5 := F5.binds (ps := ["_law_script", "_law_k"]) fun _ _ _ _ _ _ us hl => match us, hl with | [_, _], _ => rfl
  have m5 := PySem.W.mg_of X G a5
  have F6 := fun_mk (st := sl_mast) l6 c6 k6
  have b6 := F6.binds (ps := ["_law_cell", "_law_k"]) fun _ _ _ _ _ _ us hl => match us, hl with | [_, _], _ => rfl
  have m6 := PySem.W.mg_of X G a6
  have F7 := fun_mk (st := sl_one) l7 c7 k7
  have b7 := F7.binds (ps := ["_law_head", "_law_base", "_law_cell"]) fun _ _ _ _ _ _ us hl => match us, hl with | [_, _, _], _ => rfl
  have m7 := PySem.W.mg_of X G a7
  have F8 := fun_mk (st := sl_told) l8 c8 k8
  have b8 := F8.binds (ps := ["_law_best"]) fun _ _ _ _ _ _ us hl => match us, hl with | [_], _ => rfl
  have m8 := PySem.W.mg_of X G a8
  have F9 := fun_mk (st := sl_put) l9 c9 k9
  have b9 := F9.binds (ps := ["_law_best", "_law_one_here"]) fun _ _ _ _ _ _ us hl => match us, hl with | [_, _], _ => rfl
  have m9 := PySem.W.mg_of X G a9
  have F10 := fun_mk (st := sl_is) l10 c10 k10
  have b10 := F10.binds (ps := ["_law_found", "_law_due"]) fun _ _ _ _ _ _ us hl => match us, hl with | [_, _], _ => rfl
  have m10 := PySem.W.mg_of X G a10
  have F11 := fun_mk (st := s_law) l11 c11 k11
  refine ⟨PySem.W.fnOf "law" "law" (defArgs s_law) (defBody s_law) (defScope s_law) .none kV11 dc11 pm11 an11 cd11 ct11, fun s v => .of_eq rfl, fun base _ _ bm => ?_⟩
  have o1 := ok_Book___init (P := l.prog) (w := w) (base := base) T F1
  have HI1 : HasI _ _ _ _ _ _ _ _ _ := ⟨f1, _, o1, b1, ⟨ck5_Book, a1, n1, ck6_Book⟩⟩
  have o2 := ok_Book_put (P := l.prog) (w := w) (base := base) T F2
  have HM2 : HasM _ _ _ _ _ _ _ _ _ [] _ := ⟨f2, _, [], [], o2, b2, .nil, fun _ _ => .nil, ⟨a2, n2, k2⟩⟩
  have o3 := ok_Book_kept (P := l.prog) (w := w) (base := base) T F3
  have HM3 : HasM _ _ _ _ _ _ _ _ _ [] _ := ⟨f3, _, [], [], o3, b3, .nil, fun _ _ => .nil, ⟨a3, n3, k3⟩⟩
  have o4 := ok_Book_of_mast (P := l.prog) (w := w) (base := base) T F4 (HasM.up HM3 (by decide))
  have HM4 : HasM _ _ _ _ _ _ _ _ _ [] _ := ⟨f4, _, [], [], o4, b4, .nil, fun _ _ => .nil, ⟨a4, n4, k4⟩⟩
  have o5 := okl_cell_at (P := l.prog) (w := w) (base := base) T F5
  have H5 : Has _ _ _ _ _ _ _ _ _ _ := ⟨_, _, o5, b5, k5, m5⟩
  have o6 := okl_mast (P := l.prog) (w := w) (base := base) T F6
  have H6 : Has _ _ _ _ _ _ _ _ _ _ := ⟨_, _, o6, b6, k6, m6⟩
  have o7 := okl_one (P := l.prog) (w := w) (base := base) T F7 (Has.up H6 (by decide))
  have H7 : Has _ _ _ _ _ _ _ _ _ _ := ⟨_, _, o7, b7, k7, m7⟩
  have o8 := okl_told (P := l.prog) (w := w) (base := base) T F8
  have H8 : Has _ _ _ _ _ _ _ _ _ _ := ⟨_, _, o8, b8, k8, m8⟩
  have o9 := okl_put (P := l.prog) (w := w) (base := base) T F9
  have H9 : Has _ _ _ _ _ _ _ _ _ _ := ⟨_, _, o9, b9, k9, m9⟩
  have o10 := okl_is (P := l.prog) (w := w) (base := base) T F10
  have H10 : Has _ _ _ _ _ _ _ _ _ _ := ⟨_, _, o10, b10, k10, m10⟩
  have o11 := ok_law (P := l.prog) (w := w) (base := base) T F11 (Has.up H5 (by decide)) (Has.up H7 (by decide)) (Has.up H10 (by decide)) (Has.up H6 (by decide)) (Has.up H9 (by decide)) (Has.up H8 (by decide)) (HasI.up HI1 (by decide)) (HasM.up HM2 (by decide)) (HasM.up HM3 (by decide)) (HasM.up HM4 (by decide))
  refine o11.imp fun vs H Q E q => ?_
  obtain ⟨al, ns, hl, fr, hn, rv, tt, q⟩ := q
  obtain ⟨S', e⟩ := m_law (fzM {Book := C_Book, isx := isF K []}) ns hn 1
  exact top_Z hl rv tt e q
theorem walk {l : PySem.W.OpenLaw} {q : Program} {loose : List Str} {XP : (Str -> Option Value) -> Heap -> Prop} {YP : World -> Heap -> Prop} {d : DefRec} {K : Params -> PySem.W.Frag} (hn : l.most = some 63) (hdf : d.params.defaults = [])
    (hY : ∀ (w : World) (h : Heap), YP w h -> (K w.params).In h) (hT : ∀ w : World, (tabsOf (K w.params)).all (fun t => ((PyProof.Rows.recsOf q).find? fun e => e.name == t.1).isSome) = true) (hN : ∀ w : World, PySem.W.noTabs (K w.params) = true)
    (F : ∀ (w : World) (mg : Str -> Option Value) (fa : Addr) (h : Heap), (K w.params).In h -> h.Ns mainGlobals mg -> mg d.name = some (.ref fa) ->
      ∃ fd : FuncData, (∀ (s : Shared) (u : Value), BindsTo s fd ⟨[u], []⟩ [("_law_script", u)]) /\ ∀ base : Heap, (K w.params).In base -> base.Ns mainGlobals mg -> BM mg base -> FnOk l.prog w (K w.params) mg base (CXx l.prog w) 3 fa fd ["_law_script"] (spLaw (K w.params))) :
    PySem.W.WalkO q loose XP YP l.row.toRowW d [] (fun f vs => PySem.call f vs) := by
  refine Att.attach_call hn hdf fun w s₀ s₁ mg mb fa o pm cd doc a vs ns G Y ho hd hcd hmg hobj hints hlen hg => ?_
  have KX := hY w _ Y
  obtain ⟨fd, hb, hF⟩ := F w mg fa _ KX G.T.g hmg
  refine law_callT KX G.T.g G.T.b G.T.builtins G.T.nolimit hg hobj hints (Nat.le_trans hlen (by decide)) ⟨rfl, by decide, by decide⟩ (tabs_of G.T KX (hT w)) (hN w) G.T.bmain hF hb (fun H tt hS => spLaw_of hlen tt ?_) fun H e s' h => ?_
  · rcases hS with h | ⟨o, its, n, h1, h2, h3, h4, h5, h6⟩
    · exact .lst (.inl ⟨trivial, h⟩) (reps_ints _)
    · have e := KX a o h1
      rw [hobj] at e
      cases e
      cases h4
      exact .lst (.inr ⟨vs, _, h1, by simpa using h5, by simpa using h6⟩) (reps_ints _)
  · obtain ⟨_, _, _, _, _, _, _, _, _, _, _, _, z⟩ := h
    exact z
end W12
open PySem PySem.W PyProof.Rows
set_option maxRecDepth 100000 in
set_option maxHeartbeats 0 in
theorem PySem.Challenge.cw_weather_k12_whole_book_in_any_order_holds : PySem.Challenge.rw_weather_k12_whole_book_in_any_order.Holds := by
  w_on; o_law; k_head; (case hw => w_witness2)
  k_fill
  refine W12.walk (l := PySem.Challenge.rw_weather_k12_whole_book_in_any_order) rfl rfl (fun w h Y => by first | exact PySem.W.km_in_of Y | exact PySem.W.kIn_of Y) ?hT ?hN ?F
  case hT => exact fun w => by kernel_rfl
  case hN => exact fun w => by kernel_rfl
  case F =>
    intro w mg fa h KX G hmg
    refine' W12.all_mk KX G hmg ?a5 ?l5 ?c5 ?k5 ?a6 ?l6 ?c6 ?k6 ?a7 ?l7 ?c7 ?k7 ?a8 ?l8 ?c8 ?k8 ?a9 ?l9 ?c9 ?k9 ?a10 ?l10 ?c10 ?k10 ?a11 ?l11 ?c11 ?k11 ?aC_Book ?ck1_Book ?ck2_Book ?ck3_Book ?ck4_Book ?ck5_Book ?ck6_Book ?cn_Book_latest ?a1 ?n1 ?l1 ?c1 ?k1 ?a2 ?n2 ?l2 ?c2 ?k2 ?a3 ?n3 ?l3 ?c3 ?k3 ?a4 ?n4 ?l4 ?c4 ?k4 ?z_all ?z_any ?z_bool ?z_int ?z_isinstance ?z_len ?z_list ?z_range ?z_reversed ?z_sorted ?z_tuple
    case a5 | l5 | c5 | k5 | a6 | l6 | c6 | k6 | a7 | l7 | c7 | k7 | a8 | l8 | c8 | k8 | a9 | l9 | c9 | k9 | a10 | l10 | c10 | k10 | a11 | l11 | c11 | k11 | aC_Book => k_is
    case ck1_Book | ck2_Book | ck3_Book => kernel_rfl
    case ck4_Book => k_is
    case ck5_Book => kernel_rfl
    case ck6_Book | cn_Book_latest | a1 | n1 | l1 | c1 | k1 | a2 | n2 | l2 | c2 | k2 | a3 | n3 | l3 | c3 | k3 | a4 | n4 | l4 | c4 | k4 | z_all | z_any | z_bool | z_int | z_isinstance | z_len | z_list | z_range | z_reversed | z_sorted | z_tuple => k_is
#print axioms PySem.Challenge.cw_weather_k12_whole_book_in_any_order_holds
