import PyProof.Rows.All
import Wide.All
import OpenK.AllK
import Wide.FinOn
import Lean
import PyProof.EqAt
import PyProof.EqKinds
import PyProof.TupleCall
import PyProof.StationsW
import PyProof.ExcClass2
import PyProof.ExcInit
import PyProof.InstStoreFacts
import PyProof.ExcArgsOwn
import PyProof.ExcAttrAll.ValueError
import KE.IntBitsLaws
import KE.KIsAll
import PyProof.Rows.EqDataRows
import KE.KNestM
import KE.IntTextLaws
import PyProof.StrCalls2
import PyProof.Rows.StrSplitJoin
import KE.KIntText
import PyProof.StrBlockI
import PyProof.StrLawsIn
import PyProof.StrLawsIdx
import PyProof.StrLawsChain
import PyProof.StrLawsTight
import KE.KRevIter
import KE.KLam
import PyProof.Rows.SortWalk
import KE.KSortTup
import PyProof.Conv_int_bool
import PySem.Challenge.RW_weather_k32_conditions_written
set_option Elab.async false
set_option linter.all false
set_option maxRecDepth 100000
namespace L2
open PySem PySem.Spec PyProof.Rows
noncomputable abbrev Key := Sum Int Str
noncomputable def keyIs : Key → Value → Bool
  | .inl k, v => Value.isInt k v
  | .inr x, v => Value.isStrOf x v
noncomputable def keyH (w : World) : Key → Int
  | .inl k => hashInt k
  | .inr x => hashStr w x
theorem keyIs_shape : ∀ {k : Key} {v : Value}, keyIs k v = true → (∃ i t, k = Sum.inl i ∧ v = Value.int i t) ∨ (∃ x t, k = Sum.inr x ∧ v = Value.str x t)
  | .inl i, v, h => by
    obtain ⟨t, e⟩ := Value.isInt_shape (k := i) (v := v) h
    exact .inl ⟨i, t, rfl, e⟩
  | .inr x, v, h => by
    obtain ⟨t, e⟩ := Value.isStrOf_shape (x := x) (v := v) h
    exact .inr ⟨x, t, rfl, e⟩
theorem keyIs_int (i : Int) (t : Tok) : keyIs (.inl i) (.int i t) = true := by simp [keyIs, Value.isInt]
theorem keyIs_str (x : Str) (t : Tok) : keyIs (.inr x) (.str x t) = true := by simp [keyIs, Value.isStrOf]
theorem key_ll (a b : Int) : decide ((Sum.inl a : Key) = Sum.inl b) = (a == b) := by
  by_cases e : a = b
  · subst e; simp
  · have h : ¬ (Sum.inl a : Key) = Sum.inl b := fun q => e (Sum.inl.inj q)
    rw [decide_eq_false h]
    exact (beq_eq_false_iff_ne.mpr e).symm
theorem key_rr (a b : Str) : decide ((Sum.inr a : Key) = Sum.inr b) = decide (a = b) := by
  by_cases e : a = b
  · subst e; simp
  · have h : ¬ (Sum.inr a : Key) = Sum.inr b := fun q => e (Sum.inr.inj q)
    rw [decide_eq_false h, decide_eq_false e]
theorem key_lr (a : Int) (b : Str) : decide ((Sum.inl a : Key) = Sum.inr b) = false := decide_eq_false (fun q => nomatch q)
theorem key_rl (a : Str) (b : Int) : decide ((Sum.inr a : Key) = Sum.inl b) = false := decide_eq_false (fun q => nomatch q)
noncomputable def mixKind (prog : Program) (w : World) : PySem.KeyKind prog w Key where
  is := keyIs
  hash := keyH w
  inj := fun v a b ha hb => by
    rcases keyIs_shape ha with ⟨i, t, rfl, rfl⟩ | ⟨x, t, rfl, rfl⟩
    · rcases keyIs_shape hb with ⟨j, u, rfl, e⟩ | ⟨y, u, rfl, e⟩
      · injection e with e1 _; rw [e1]
      · exact nomatch e
    · rcases keyIs_shape hb with ⟨j, u, rfl, e⟩ | ⟨y, u, rfl, e⟩
      · exact nomatch e
      · injection e with e1 _; rw [e1]
  byValue := fun k v h => by
    rcases keyIs_shape h with ⟨i, t, rfl, rfl⟩ | ⟨x, t, rfl, rfl⟩ <;> rfl
  pyHash := fun hv h => by
    rcases keyIs_shape hv with ⟨i, t, rfl, rfl⟩ | ⟨x, t, rfl, rfl⟩
    · exact wpAny_pyHash_int h
    · exact wpAny_pyHash_str h
  eqBool := fun hu hv h => by
    rcases keyIs_shape hu with ⟨i, t, rfl, rfl⟩ | ⟨x, t, rfl, rfl⟩
    · rcases keyIs_shape hv with ⟨j, u, rfl, rfl⟩ | ⟨y, u, rfl, rfl⟩
      · rw [key_ll] at h; exact wpAny_eqBool_int h
      · rw [key_lr] at h; exact SeqAt.EqAt.int_str i t y u _ _ _ _ h
    · rcases keyIs_shape hv with ⟨j, u, rfl, rfl⟩ | ⟨y, u, rfl, rfl⟩
      · rw [key_rl] at h; exact SeqAt.EqAt.str_int x t j u _ _ _ _ h
      · rw [key_rr] at h; exact wpAny_eqBool_str h
  «strs» := fun k x t v h => by
    rcases keyIs_shape h with ⟨i, u, rfl, e⟩ | ⟨y, u, rfl, e⟩
    · exact nomatch e
    · injection e with e1 _
      subst e1
      cases v <;> rfl
theorem mixKind_int (prog : Program) (w : World) (i : Int) (t : Tok) : (mixKind prog w).is (.inl i) (.int i t) = true := keyIs_int i t
theorem mixKind_str (prog : Program) (w : World) (x : Str) (t : Tok) : (mixKind prog w).is (.inr x) (.str x t) = true := keyIs_str x t
end L2
namespace L2
open PySem PySem.Spec PyProof.Rows
inductive V where
  | non | bl (b : Bool) | int (i : Int) | str (x : Str) | byt (b : Array UInt8) | flt (b : UInt64) | ref (a : Addr) | ty (n : String)
  deriving DecidableEq
noncomputable def RelV : V → Value → Prop
  | .non, u => u = Value.none
  | .bl b, u => u = Value.bool b
  | .int i, u => ∃ t, u = Value.int i t
  | .str x, u => ∃ t, u = Value.str x t
  | .byt b, u => ∃ t, u = Value.bytes b t
  | .flt b, u => ∃ t, u = Value.float b t
  | .ref a, u => u = Value.ref a
  | .ty n, u => u = Value.type n
noncomputable abbrev Vals : List V → List Value → Prop := Paired RelV
theorem Vals.length {xs : List V} {us : List Value} (r : Vals xs us) : xs.length = us.length := Paired.length r
theorem Vals.get : ∀ {xs : List V} {us : List Value} {i : Nat} {x : V}, Vals xs us → xs[i]? = some x → ∃ u, us[i]? = some u ∧ RelV x u
  | _, _, _, _, .nil, e => by simp at e
  | _, _, 0, _, .cons r _, e => by simp at e; subst e; exact ⟨_, rfl, r⟩
  | _, _, i + 1, x, .cons _ t, e => by
    obtain ⟨u, h1, h2⟩ := Vals.get (i := i) (x := x) t (by simpa using e)
    exact ⟨u, by simpa using h1, h2⟩
theorem Vals.set {x : V} {u : Value} (r : RelV x u) : ∀ {xs : List V} {us : List Value} (i : Nat), Vals xs us → Vals (xs.set i x) (us.set i u)
  | _, _, _, .nil => .nil
  | _, _, 0, .cons _ t => .cons r t
  | _, _, i + 1, .cons q t => .cons q (Vals.set r i t)
theorem Vals.append : ∀ {xs ys : List V} {us ws : List Value}, Vals xs us → Vals ys ws → Vals (xs ++ ys) (us ++ ws)
  | _, _, _, _, .nil, s => s
  | _, _, _, _, .cons r t, s => .cons r (Vals.append t s)
theorem Vals.take : ∀ {xs : List V} {us : List Value} (n : Nat), Vals xs us → Vals (xs.take n) (us.take n)
  | _, _, 0, _ => .nil
  | _, _, _ + 1, .nil => .nil
  | _, _, n + 1, .cons r t => .cons r (Vals.take n t)
theorem Vals.drop : ∀ {xs : List V} {us : List Value} (n : Nat), Vals xs us → Vals (xs.drop n) (us.drop n)
  | _, _, 0, r => r
  | _, _, _ + 1, .nil => .nil
  | _, _, n + 1, .cons _ t => Vals.drop n t
noncomputable def RelO : Option V → Option Value → Prop
  | some v, some u => RelV v u
  | none, none => True
  | _, _ => False
noncomputable def KV {κ : Type} : List (κ × V) → List (κ × Value) → Prop := Paired fun (p : κ × V) (q : κ × Value) => p.1 = q.1 ∧ RelV p.2 q.2
noncomputable def kV : Key → V
  | .inl i => .int i
  | .inr x => .str x
inductive HO where
  /-- a list -/
  | lst (xs : List V)
  /-- a tuple (never changes) -/
  | tup (xs : List V)
  /-- a dict whose keys are ints and texts; one whose keys are tuples of ints and texts (the empty one is both) -/
  | dK (kvs : List (Key × V)) | dT (kvs : List (List Key × V))
  /-- a set of ints: its members, its size -/
  | set (S : Int → Bool) (n : Nat)
  /-- an instance of the class at C, its dict at dx, its attributes -/
  | ins (C dx : Addr) (fs : List (Str × V))
  /-- the dict of the instance at x -/
  | own (x : Addr)
  /-- the dict of an exception -/
  | xd (fs : List (Str × V))
  /-- a bound method, f of x -/
  | met (f x : Addr)
  /-- a range object lo, lo + 1, .. below hi -/
  | rng (lo hi : Int)
  /-- a thing that is known to the object (the script; a dict while a loop walks it): read, never written while it is so -/
  | frz (o : Obj) (u : HO)
  /-- a code object's table -/
  | tbl (ps : Array Value)
  /-- any other thing, by what is true of its one object (a def of one's own: SetO a S n := HO.ext fun h => ..) -/
  | ext (φ : Heap → Prop)
noncomputable abbrev Hp := Addr → Option HO
noncomputable def upd (H : Hp) (a : Addr) (o : HO) : Hp := fun b => if b = a then some o else H b
theorem upd_same {H : Hp} {a : Addr} {o : HO} : upd H a o a = some o := by unfold upd; rw [if_pos rfl]
theorem upd_ne {H : Hp} {a b : Addr} {o : HO} (h : b ≠ a) : upd H a o b = H b := by unfold upd; rw [if_neg h]
theorem ne_of {H : Hp} {a b : Addr} {o u : HO} (h : H a = some o) (h' : H b = some u) (d : o ≠ u) : a ≠ b := by
  intro e; subst e; rw [h] at h'; exact d (Option.some.inj h')
theorem ne_of_none {H : Hp} {a b : Addr} {o : HO} (h : H a = some o) (h' : H b = none) : a ≠ b := by
  intro e; subst e; rw [h] at h'; cases h'
section
variable (P : Program) (w : World)
noncomputable def ObjOk (H : Hp) (h : Heap) (a : Addr) : HO → Prop
  | .lst xs => xs.length ≤ sizeLine ∧ ∃ (its : List Value) (n : Nat), Vals xs its ∧ h.get? a = some { cls := .type "list", data := .seq its.toArray n }
  | .tup xs => xs.length ≤ sizeLine ∧ ∃ its : List Value, Vals xs its ∧ IsTup h a its.toArray
  | .dK kvs => kvs.length ≤ sizeLine ∧ (a == sysModules) = false ∧ ∃ vs, KV kvs vs ∧ h.DictOf (mixKind P w) a vs
  | .dT kvs => kvs.length ≤ sizeLine ∧ (a == sysModules) = false ∧ ∃ xs : List (List Key × Addr × Value),
      Paired (fun (p : List Key × V) (q : List Key × Addr × Value) => p.1 = q.1 ∧ H q.2.1 = some (.tup (p.1.map kV)) ∧ RelV p.2 q.2.2) kvs xs ∧
      ∃ o es ep, h.get? a = some o ∧ o.ExactDict ∧ o.data = .dict es ep ∧ es.toList = xs.map (entryOfKey (tupleKind (mixKind P w))) ∧ (xs.map (·.1)).Nodup
  | .set S n => h.SetOf (intKind P w) a S n
  | .ins C dx fs => H dx = some (.own a) ∧ fs.length ≤ 1000 ∧ dx ≠ a ∧ h.get? a = some (PySem.W.instObj C dx) ∧
      ∃ mA, h.Ns1 dx mA ∧ (∀ f, RelO (fs.lookup f) (mA f)) ∧ PySem.Within mA (fs.map (·.1))
  | .own _ => ∃ o, h.get? a = some o
  | .xd fs => ∃ mA, h.Ns1 a mA ∧ ∀ f, RelO (fs.lookup f) (mA f)
  | .rng lo hi => ∃ t u v, h.get? a = some { cls := .type "range", data := .fields #[.int lo t, .int hi u, .int 1 v] }
  | .frz o u => h.get? a = some o ∧ ObjOk H h a u
  | .tbl ps => h.get? a = some { cls := .none, data := .fields ps }
  | .met f x => h.get? a = some (PySem.W.methodObj (.ref f) (.ref x))
  | .ext φ => φ h ∧ (∃ o, h.get? a = some o) ∧ ∀ h1 h2 : Heap, φ h1 → (∀ o, h1.get? a = some o → h2.get? a = some o) → φ h2
noncomputable def HOk (H : Hp) (h : Heap) : Prop := ∀ a o, H a = some o → ObjOk P w H h a o
end
section
variable {P : Program} {w : World} {H H' : Hp} {h h' : Heap} {a : Addr} {o : HO}
theorem ObjOk.lt (x : ObjOk P w H h a o) : a < h.objs.size := by
  cases o with
  | lst xs => obtain ⟨_, _, _, _, e⟩ := x; exact Heap.lt_size e
  | tup xs => obtain ⟨_, _, _, p⟩ := x; exact p.lt
  | dK kvs => obtain ⟨_, _, _, _, o, _, _, e, _⟩ := x; exact Heap.lt_size e
  | dT kvs => obtain ⟨_, _, _, _, o, _, _, e, _⟩ := x; exact Heap.lt_size e
  | set S n => obtain ⟨o, _, _, _, e, _⟩ := x; exact Heap.lt_size e
  | ins C dx fs => obtain ⟨_, _, _, e, _⟩ := x; exact Heap.lt_size e
  | own y => obtain ⟨_, e⟩ := x; exact Heap.lt_size e
  | xd fs => obtain ⟨_, ⟨_, _, _, e, _⟩, _⟩ := x; exact Heap.lt_size e
  | rng lo hi => obtain ⟨_, _, _, e⟩ := x; exact Heap.lt_size e
  | frz ob u => obtain ⟨e, _⟩ := x; exact Heap.lt_size e
  | tbl ps => exact Heap.lt_size (show h.get? a = some _ from x)
  | met f y => exact Heap.lt_size (show h.get? a = some _ from x)
  | ext φ => obtain ⟨_, ⟨_, e⟩, _⟩ := x; exact Heap.lt_size e
theorem Paired.mapP {α β : Type} {F G : α → β → Prop} : ∀ {l₁ : List α} {l₂ : List β}, Paired F l₁ l₂ → (∀ a b, F a b → G a b) → Paired G l₁ l₂
  | _, _, .nil, _ => .nil
  | _, _, .cons r t, f => .cons (f _ _ r) (Paired.mapP t f)
theorem ObjOk.stay (x : ObjOk P w H h a o) (k : ∀ b u, (b = a ∨ H b = some (.own a)) → h.get? b = some u → h'.get? b = some u)
    (ho : ∀ b, H b = some (.own a) → H' b = some (.own a)) (ht : ∀ b xs, H b = some (.tup xs) → H' b = some (.tup xs)) : ObjOk P w H' h' a o := by
  induction o with
  | lst xs => obtain ⟨z, its, n, r, e⟩ := x; exact ⟨z, its, n, r, k _ _ (.inl rfl) e⟩
  | tup xs => obtain ⟨z, its, r, ob, e, c⟩ := x; exact ⟨z, its, r, ob, k _ _ (.inl rfl) e, c⟩
  | dK kvs => obtain ⟨z, y, vs, r, ob, es, ep, e, c⟩ := x; exact ⟨z, y, vs, r, ob, es, ep, k _ _ (.inl rfl) e, c⟩
  | dT kvs =>
    obtain ⟨z, y, xs, r, ob, es, ep, e, c⟩ := x
    exact ⟨z, y, xs, Paired.mapP r fun p q z => ⟨z.1, ht _ _ z.2.1, z.2.2⟩, ob, es, ep, k _ _ (.inl rfl) e, c⟩
  | set S n => obtain ⟨ob, es, ep, t, e, c⟩ := x; exact ⟨ob, es, ep, t, k _ _ (.inl rfl) e, c⟩
  | ins C dx fs =>
    obtain ⟨d, z, ne, e, mA, ⟨od, es, ep, e2, c⟩, r⟩ := x
    exact ⟨ho _ d, z, ne, k _ _ (.inl rfl) e, mA, ⟨od, es, ep, k _ _ (.inr d) e2, c⟩, r⟩
  | own y => obtain ⟨ob, e⟩ := x; exact ⟨ob, k _ _ (.inl rfl) e⟩
  | xd fs => obtain ⟨mA, ⟨od, es, ep, e, c⟩, r⟩ := x; exact ⟨mA, ⟨od, es, ep, k _ _ (.inl rfl) e, c⟩, r⟩
  | rng lo hi => obtain ⟨t, u, v, e⟩ := x; exact ⟨t, u, v, k _ _ (.inl rfl) e⟩
  | frz ob u ih => obtain ⟨e, q⟩ := x; exact ⟨k _ _ (.inl rfl) e, ih q⟩
  | tbl ps =>
    have e : h.get? a = some { cls := .none, data := .fields ps } := x
    show h'.get? a = some { cls := .none, data := .fields ps }
    exact k a _ (.inl rfl) e
  | met f y =>
    have e : h.get? a = some (PySem.W.methodObj (.ref f) (.ref y)) := x
    show h'.get? a = some (PySem.W.methodObj (.ref f) (.ref y))
    exact k a _ (.inl rfl) e
  | ext φ => obtain ⟨p, ⟨o, e⟩, st⟩ := x; exact ⟨st _ _ p fun o q => k _ _ (.inl rfl) q, ⟨o, k _ _ (.inl rfl) e⟩, st⟩
theorem HOk.lt (x : HOk P w H h) (e : H a = some o) : a < h.objs.size := (x a o e).lt
theorem HOk.fresh (x : HOk P w H h) (e : h.objs.size ≤ a) : H a = none := by
  cases q : H a with
  | none => rfl
  | some u => exact absurd (Nat.lt_of_lt_of_le (x.lt q) e) (Nat.lt_irrefl _)
theorem HOk.kept (x : HOk P w H h) (k : ∀ b u, h.get? b = some u → h'.get? b = some u) : HOk P w H h' := fun a o e =>
  (x a o e).stay (fun b u _ q => k b u q) (fun _ q => q) fun _ _ q => q
theorem HOk.laid (x : HOk P w H h) (k : ∀ b u, h.get? b = some u → h'.get? b = some u) (hp : h.objs.size ≤ a) (new : ObjOk P w (upd H a o) h' a o) : HOk P w (upd H a o) h' := fun b u e => by
  have hn := x.fresh hp
  by_cases hb : b = a
  · subst hb; rw [upd_same] at e; cases e; exact new
  · rw [upd_ne hb] at e
    exact (x b u e).stay (fun c v _ q => k c v q) (fun c q => by rw [upd_ne (ne_of_none q hn)]; exact q) fun c xs q => by rw [upd_ne (ne_of_none q hn)]; exact q
end
noncomputable def Rd (H : Hp) (a : Addr) (u : HO) : Prop := H a = some u ∨ ∃ o, H a = some (.frz o u)
theorem Rd.of {H : Hp} {a : Addr} {u : HO} (h : H a = some u) : Rd H a u := .inl h
theorem Rd.ok {P : Program} {w : World} {H : Hp} {h : Heap} {a : Addr} {u : HO} (r : Rd H a u) (x : HOk P w H h) : ObjOk P w H h a u := by
  rcases r with r | ⟨o, r⟩
  · exact x a u r
  · obtain ⟨_, q⟩ := x a _ r
    exact q
noncomputable def Mut : Option HO → Prop
  | some (.lst _) => True
  | some (.dK _) => True
  | some (.dT _) => True
  | some (.set _ _) => True
  | some (.ins _ _ _) => True
  | some (.ext _) => True
  | _ => False
section
variable {P : Program} {w : World} {H : Hp} {h h' : Heap} {x e : Addr} {o' : HO}
theorem HOk.write (ok : HOk P w H h) (mu : Mut (H x)) (he : e = x ∨ H e = some (.own x)) (k : ∀ b u, b ≠ e → h.get? b = some u → h'.get? b = some u) (heo : ∃ u, h'.get? e = some u)
    (new : ObjOk P w (upd H x o') h' x o') : HOk P w (upd H x o') h' := fun b u q => by
  have nown : ∀ c y, H c = some (.own y) → c ≠ x := fun c y r z => by subst z; rw [r] at mu; exact mu
  have ntup : ∀ c xs, H c = some (.tup xs) → c ≠ x := fun c xs r z => by subst z; rw [r] at mu; exact mu
  by_cases hb : b = x
  · subst hb; rw [upd_same] at q; cases q; exact new
  · rw [upd_ne hb] at q
    by_cases hbe : b = e
    · have q' : H b = some (.own x) := by
        rcases he with z | z
        · exact absurd (hbe.trans z) hb
        · rw [hbe]; exact z
      rw [q] at q'; cases q'
      obtain ⟨v, hv⟩ := heo
      exact ⟨v, by rw [hbe]; exact hv⟩
    · refine (ok b u q).stay (fun c v hc r => k c v ?_ r) (fun c r => by rw [upd_ne (nown c b r)]; exact r) fun c xs r => by rw [upd_ne (ntup c xs r)]; exact r
      rcases hc with rfl | hc
      · exact hbe
      · rintro rfl
        rcases he with z | z
        · exact nown c b hc z
        · rw [hc] at z; cases z; exact hb rfl
end
structure Un (fs ex : List Addr) (H H' : Hp) (h h' : Heap) : Prop where
  keep : ∀ b o, h.get? b = some o → H b = none → b ∉ fs → b ∉ ex → h'.get? b = some o
  slot : ∀ b o, h.get? b = some o → H b = none → b ∈ fs → b ∉ ex → ∃ sl, h'.get? b = some { o with slots := sl }
  free : ∀ b o, h.get? b = some o → H b = none → b ∉ ex → H' b = none
  there : ∀ b o, h.get? b = some o → b ∉ ex → ∃ o', h'.get? b = some o'
  tups : ∀ b xs, H b = some (.tup xs) → H' b = some (.tup xs)
  frzs : ∀ b o u, H b = some (.frz o u) → H' b = some (.frz o u)
  tbls : ∀ b ps, H b = some (.tbl ps) → ∃ more, H' b = some (.tbl (ps ++ more))
section
variable {fs fs' ex ex' : List Addr} {H H1 H2 : Hp} {h h1 h2 h' : Heap} {a x e : Addr} {o : HO}
theorem Un.any (u : Un fs ex H H1 h h1) {b : Addr} {ob : Obj} (q : h.get? b = some ob) (n : H b = none) (hx : b ∉ ex) : ∃ sl, h1.get? b = some { ob with slots := sl } := by
  by_cases hb : b ∈ fs
  · exact u.slot b ob q n hb hx
  · exact ⟨ob.slots, u.keep b ob q n hb hx⟩
theorem Un.trans (a : Un fs ex H H1 h h1) (b : Un fs ex H1 H2 h1 h2) : Un fs ex H H2 h h2 where
  keep := fun c ob q n hc hx => b.keep c ob (a.keep c ob q n hc hx) (a.free c ob q n hx) hc hx
  slot := fun c ob q n hc hx => by
    obtain ⟨sl, e1⟩ := a.slot c ob q n hc hx
    obtain ⟨sl', e2⟩ := b.slot c _ e1 (a.free c ob q n hx) hc hx
    exact ⟨sl', e2⟩
  free := fun c ob q n hx => by
    obtain ⟨o', e1⟩ := a.there c ob q hx
    exact b.free c o' e1 (a.free c ob q n hx) hx
  there := fun c ob q hx => by
    obtain ⟨o', e1⟩ := a.there c ob q hx
    exact b.there c o' e1 hx
  tups := fun c xs q => b.tups c xs (a.tups c xs q)
  frzs := fun c ob xs q => b.frzs c ob xs (a.frzs c ob xs q)
  tbls := fun c ps q => by
    obtain ⟨m1, e1⟩ := a.tbls c ps q
    obtain ⟨m2, e2⟩ := b.tbls c _ e1
    exact ⟨m1 ++ m2, by rw [e2, Array.append_assoc]⟩
theorem Un.kept (k : ∀ b u, h.get? b = some u → h'.get? b = some u) : Un fs ex H H h h' :=
  ⟨fun b ob q _ _ _ => k b ob q, fun b ob q _ _ _ => ⟨ob.slots, k b ob q⟩, fun _ _ _ n _ => n, fun b ob q _ => ⟨ob, k b ob q⟩, fun _ _ q => q, fun _ _ _ q => q, fun _ ps q => ⟨#[], by rw [q]; simp⟩⟩
theorem Un.refl : Un fs ex H H h h := Un.kept fun _ _ q => q
theorem Un.laid (k : ∀ b u, h.get? b = some u → h'.get? b = some u) (hp : h.objs.size ≤ a) (hn : H a = none) : Un fs ex H (upd H a o) h h' where
  keep := fun b u q _ _ _ => k b u q
  slot := fun b u q _ _ _ => ⟨u.slots, k b u q⟩
  free := fun b u q n _ => by rw [upd_ne (Nat.ne_of_lt (Nat.lt_of_lt_of_le (Heap.lt_size q) hp))]; exact n
  there := fun b u q _ => ⟨u, k b u q⟩
  tups := fun b xs q => by rw [upd_ne (ne_of_none q hn)]; exact q
  frzs := fun b u xs q => by rw [upd_ne (ne_of_none q hn)]; exact q
  tbls := fun b ps q => ⟨#[], by rw [upd_ne (ne_of_none q hn), q]; simp⟩
theorem Un.write (mu : Mut (H x)) (he : e = x ∨ H e = some (.own x)) (k : ∀ b u, b ≠ e → h.get? b = some u → h'.get? b = some u) (heo : ∃ u, h'.get? e = some u) : Un fs ex H (upd H x o) h h' := by
  have hx : ∀ b, H b = none → b ≠ x := fun b n z => by subst z; rw [n] at mu; exact mu
  have hb : ∀ b, H b = none → b ≠ e := fun b n z => by
    subst z
    rcases he with r | r
    · exact hx b n r
    · rw [n] at r; cases r
  have hm : ∀ b u, H b = some u → ¬ Mut (some u) → b ≠ x := fun b u q nm z => by subst z; rw [q] at mu; exact nm mu
  refine ⟨fun b u q n _ _ => k b u (hb b n) q, fun b u q n _ _ => ⟨u.slots, k b u (hb b n) q⟩, fun b u q n _ => by rw [upd_ne (hx b n)]; exact n, fun b u q _ => ?_,
    fun b xs q => by rw [upd_ne (hm b _ q fun z => z)]; exact q, fun b u xs q => by rw [upd_ne (hm b _ q fun z => z)]; exact q, fun b ps q => ⟨#[], by rw [upd_ne (hm b _ q fun z => z), q]; simp⟩⟩
  by_cases hbe : b = e
  · subst hbe; exact heo
  · exact ⟨u, k b u hbe q⟩
theorem Un.mono (u : Un fs ex H H1 h h1) (hs : ∀ b ∈ fs, b ∈ fs') (hx : ∀ b ∈ ex, b ∈ ex') : Un fs' ex' H H1 h h1 :=
  ⟨fun b ob q n hb he => u.keep b ob q n (fun z => hb (hs b z)) fun z => he (hx b z), fun _ _ q n _ he => u.any q n fun z => he (hx _ z), fun b ob q n he => u.free b ob q n fun z => he (hx b z), fun b ob q he => u.there b ob q fun z => he (hx b z), u.tups, u.frzs, u.tbls⟩
end
noncomputable def trk (h : Heap) (H : Hp) : List Addr := (List.range h.objs.size).filter fun a => (H a).isSome
noncomputable def hidT (h : Heap) (H : Hp) : Heap := PySem.W.hideAll h (trk h H)
theorem hidT_size (h : Heap) (H : Hp) : (hidT h H).objs.size = h.objs.size := PySem.W.hideAll_size _ _
theorem hidT_get {h : Heap} {H : Hp} {b : Addr} {o : Obj} (e : h.get? b = some o) (n : H b = none) : (hidT h H).get? b = some o :=
  PySem.W.hideAll_get _ e fun hm => by
    have q : (H b).isSome = true := (List.mem_filter.mp hm).2
    rw [n] at q; simp at q
theorem of_hidT {h : Heap} {H : Hp} {b : Addr} {o : Obj} (e : (hidT h H).get? b = some o) : h.get? b = some o ∧ H b = none := by
  have e' : h.get? b = some o := PySem.W.of_hideAll (trk h H) e
  refine ⟨e', ?_⟩
  cases q : H b with
  | none => rfl
  | some x =>
    have hm : b ∈ trk h H := List.mem_filter.mpr ⟨List.mem_range.mpr (Heap.lt_size e'), by simp [q]⟩
    have z : (hidT h H).get? b = none := PySem.W.hideAll_none (trk h H) hm
    rw [z] at e; cases e
noncomputable def allNews (g h : Heap) (L : Addr) : List (Addr × Obj) := (List.range h.objs.size).filterMap fun a => if a = L ∨ (g.get? a).isSome = true then none else (h.get? a).map fun o => (a, o)
noncomputable def rest (g h : Heap) (L d : Addr) : List (Addr × Obj) := (allNews g h L).filter fun p => decide (p.1 ≠ d)
end L2
namespace L2
open PySem PySem.Spec PyProof.Rows
structure Mod (K : PySem.W.Frag) (mg : Str → Option Value) (base : Heap) : Prop where
  kin : K.In base
  glob : base.Ns mainGlobals mg
  blt : ∃ mb, base.Ns builtinsNs mb ∧ ∀ x : Str, x ≠ "__name__" → mb x = bootBuiltins x
  nolimit : base.NoLimit
structure Cx where
  prog : Program
  w : World
  K : PySem.W.Frag
  mg : Str → Option Value
  base : Heap
  A : Around
  N : List Str
  s₀ : Shared
  H₀ : Hp
  env : Env
  outer : List Env
  stack : List Env
  ex : List Addr
  fn : Str → Bool
  calm : Bool
  pn : List (Addr × Obj)
  xe : Value → Shared → Prop
noncomputable def frs (l : List Env) : List Addr := l.filterMap (·.frame)
noncomputable abbrev Cx.fs (X : Cx) : List Addr := frs X.outer
noncomputable def Vis (sc : Scope) (x : Str) : Prop := sc.names.lookup x = some .local ∨ sc.names.lookup x = some .cell ∨ sc.names.lookup x = some .free
noncomputable def Loc (sc : Scope) (x : Str) : Prop := sc.names.lookup x = some .local ∨ sc.names.lookup x = some .cell
noncomputable def Look (env : Env) (h : Heap) (m : Str → Option Value) (x : Str) (u : Value) : Prop :=
  (env.kindOf x = some .local ∧ m x = some u) ∨ ((env.kindOf x = some .cell ∨ env.kindOf x = some .free) ∧ ∃ c, env.cells.lookup x = some c ∧ h.IsCell c (some u))
structure Cx.Ok (X : Cx) : Prop where
  mod : Mod X.K X.mg X.base
  kind : X.env.scope.kind = .function
  glob : X.env.globals = mainGlobals
  blt : X.env.builtins = builtinsNs
  above : X.s₀.heap.objs.size ≤ X.env.locals
  inj : ∀ x y c, X.env.cells.lookup x = some c → X.env.cells.lookup y = some c → x = y
  has : ∀ x, (X.env.kindOf x = some .cell ∨ X.env.kindOf x = some .free) → ∃ c, X.env.cells.lookup x = some c
  cab : ∀ x c, X.fn x = true → X.env.cells.lookup x = some c → X.s₀.heap.objs.size ≤ c
  hd : X.calm = true → X.A.handled = none
  frames : X.A.frames = some X.stack
  stk : X.stack = X.outer ∨ (X.stack = X.env :: X.outer ∧ X.env.frame = some X.env.locals)
  exf : ∀ b ∈ X.ex, b ≠ X.env.locals ∧ ∀ x c, X.env.cells.lookup x = some c → c ≠ b
  bs : ∀ b o, X.base.get? b = some o → X.s₀.heap.get? b = some o ∧ X.H₀ b = none
  bsz : X.base.objs.size ≤ X.s₀.heap.objs.size
  noex : ∀ b o, X.base.get? b = some o → b ∉ X.ex
  exfs : ∀ b ∈ X.ex, b ∉ X.fs
  funs : X.s₀.heap.FunFrames X.base X.outer
  frf : ∀ b ∈ X.fs, X.H₀ b = none
structure Inv (X : Cx) (pins : List (Addr × Obj)) (σ : List (Option V)) (H : Hp) (s : Shared) : Prop where
  ok : X.Ok
  os : s.os = X.s₀.os
  bare : AllBare s.gens
  base : Un X.fs X.ex X.H₀ H X.s₀.heap s.heap
  loc : ∃ m, s.heap.Ns X.env.locals m ∧ ∀ (i : Nat) (x : Str) (v : V), X.N[i]? = some x → σ[i]? = some (some v) → Vis X.env.scope x → ∃ u, RelV v u ∧ Look X.env s.heap m x u
  cell : ∀ x c, X.env.cells.lookup x = some c → ∃ v, s.heap.IsCell c v
  free : H X.env.locals = none
  freeC : ∀ x c, X.env.cells.lookup x = some c → H c = none
  pin : ∀ p ∈ X.pn ++ pins, s.heap.get? p.1 = some p.2 ∧ H p.1 = none ∧ p.1 ≠ X.env.locals ∧ p.1 ∉ X.fs ∧ ∀ v, p.2.data ≠ .cell v
  hok : HOk X.prog X.w H s.heap
  len : σ.length = X.N.length
section
variable {X : Cx} {pins : List (Addr × Obj)} {σ : List (Option V)} {H H' : Hp} {s : Shared} {h' : Heap}
theorem Cx.Ok.nofr (ok : X.Ok) {b : Addr} {o : Obj} (e : X.base.get? b = some o) : b ∉ X.fs := fun hb => by
  have := (ok.funs.mem hb).1
  rw [e] at this; cases this
theorem Inv.bs (I : Inv X pins σ H s) : ∀ b o, X.base.get? b = some o → s.heap.get? b = some o ∧ H b = none := fun b o e =>
  ⟨I.base.keep b o (I.ok.bs b o e).1 (I.ok.bs b o e).2 (I.ok.nofr e) (I.ok.noex b o e), I.base.free b o (I.ok.bs b o e).1 (I.ok.bs b o e).2 (I.ok.noex b o e)⟩
theorem Inv.bk (I : Inv X pins σ H s) : ∀ b o, X.base.get? b = some o → s.heap.get? b = some o := fun b o e => (I.bs b o e).1
theorem Inv.mod (I : Inv X pins σ H s) : Mod X.K X.mg X.base := I.ok.mod
theorem Inv.kIn (I : Inv X pins σ H s) : X.K.In s.heap := I.ok.mod.kin.keeps I.bk
theorem Inv.nolimit (I : Inv X pins σ H s) : s.heap.NoLimit := I.ok.mod.nolimit.keeps I.bk
theorem Inv.fr (I : Inv X pins σ H s) : ∃ m, Fr X.base X.env.locals s.heap m :=
  let ⟨m, hn, _⟩ := I.loc
  ⟨m, hn, I.bk, Nat.le_trans I.ok.bsz I.ok.above⟩
theorem Inv.lt (I : Inv X pins σ H s) : X.env.locals < s.heap.objs.size := let ⟨_, hn, _⟩ := I.loc; hn.lt
theorem Inv.sz (I : Inv X pins σ H s) : X.s₀.heap.objs.size ≤ s.heap.objs.size := Nat.le_trans I.ok.above (Nat.le_of_lt I.lt)
theorem Inv.nofs (I : Inv X pins σ H s) {a : Addr} (h : s.heap.objs.size ≤ a) : a ∉ X.fs := fun hb => by
  obtain ⟨_, o, ho, _⟩ := I.ok.funs.mem hb
  exact absurd (Nat.lt_of_lt_of_le (Heap.lt_size ho) (Nat.le_trans I.sz h)) (Nat.lt_irrefl _)
theorem Inv.cne (I : Inv X pins σ H s) : ∀ x c, X.env.cells.lookup x = some c → c ≠ X.env.locals := fun x c e z => by
  obtain ⟨v, o, ho, hd⟩ := I.cell x c e
  obtain ⟨m, ⟨o', es, ep, ho', hd', _⟩, _⟩ := I.loc
  rw [z, ho'] at ho; cases ho; rw [hd'] at hd; cases hd
theorem Inv.funs (I : Inv X pins σ H s) : s.heap.FunFrames X.base X.outer := by
  have all : ∀ (l : List Env), (∀ b ∈ frs l, b ∈ X.fs) → X.s₀.heap.FunFrames X.base l → s.heap.FunFrames X.base l := by
    intro l
    induction l with
    | nil => intro _ _; trivial
    | cons env r ih =>
      intro hs hl
      obtain ⟨hk, ⟨L, o, hf, hn, ho, hd⟩, hr⟩ := hl
      have hL : L ∈ X.fs := hs L (by unfold frs; rw [List.filterMap_cons, hf]; exact List.mem_cons_self)
      obtain ⟨sl, e⟩ := I.base.slot L o ho (I.ok.frf L hL) hL fun z => I.ok.exfs L z hL
      exact ⟨hk, ⟨L, _, hf, hn, e, hd⟩, ih (fun b hb => hs b (by unfold frs; rw [List.filterMap_cons, hf]; exact List.mem_cons_of_mem _ hb)) hr⟩
  exact all X.outer (fun _ hb => hb) I.ok.funs
theorem Inv.stack (I : Inv X pins σ H s) : s.heap.FunFrames X.base X.stack := by
  rcases I.ok.stk with e | ⟨e, hf⟩
  · rw [e]; exact I.funs
  · rw [e]
    obtain ⟨m, hn, _⟩ := I.loc
    refine .cons (by rw [I.ok.kind]; decide) hf hn ?_ I.funs
    exact Heap.get?_none_of_le (Nat.le_trans I.ok.bsz I.ok.above)
theorem Inv.stkSub (I : Inv X pins σ H s) : ∀ b ∈ frs X.stack, b ∈ X.env.locals :: X.fs := fun b hb => by
  rcases I.ok.stk with e | ⟨e, hf⟩
  · rw [e] at hb; exact List.mem_cons_of_mem _ hb
  · rw [e] at hb
    unfold frs at hb
    rw [List.filterMap_cons, hf] at hb
    exact hb
theorem Inv.stkFree (I : Inv X pins σ H s) : ∀ b ∈ frs X.stack, H b = none := fun b hb => by
  rcases List.mem_cons.mp (I.stkSub b hb) with e | hb
  · rw [e]; exact I.free
  · obtain ⟨_, o, ho, _⟩ := I.ok.funs.mem hb
    exact I.base.free b o ho (I.ok.frf b hb) fun z => I.ok.exfs b z hb
theorem Inv.step {g' : Array GenState} {t' : Nat} {d' : Drawn} {ch : List Addr} (I : Inv X pins σ H s)
    (hch : ∀ b ∈ ch, (b ∈ X.ex ∨ X.s₀.heap.objs.size ≤ b) ∧ b ≠ X.env.locals ∧ (∀ x c, X.env.cells.lookup x = some c → c ≠ b) ∧ ∀ p ∈ X.pn ++ pins, p.1 ≠ b)
    (keep : ∀ b o, b ≠ X.env.locals → b ∉ X.fs → b ∉ ch → s.heap.get? b = some o → H b = none → h'.get? b = some o)
    (slot : ∀ b o, b ≠ X.env.locals → b ∈ X.fs → b ∉ ch → s.heap.get? b = some o → H b = none → ∃ sl, h'.get? b = some { o with slots := sl }) (free : ∀ b o, b ∉ ch → s.heap.get? b = some o → H b = none → H' b = none)
    (there : ∀ b o, b ∉ ch → s.heap.get? b = some o → ∃ o', h'.get? b = some o')
    (tups : ∀ b xs, H b = some (.tup xs) → H' b = some (.tup xs)) (frzs : ∀ b o u, H b = some (.frz o u) → H' b = some (.frz o u)) (tbls : ∀ b ps, H b = some (.tbl ps) → ∃ more, H' b = some (.tbl (ps ++ more)))
    (ns : ∀ m, s.heap.Ns X.env.locals m → h'.Ns X.env.locals m) (hok : HOk X.prog X.w H' h') (hg : AllBare g') :
    Inv X pins σ H' { s with heap := h', gens := g', drawn := d', toks := t' } := by
  have neL : ∀ b o, X.s₀.heap.get? b = some o → b ≠ X.env.locals := fun b o e => Nat.ne_of_lt (Nat.lt_of_lt_of_le (Heap.lt_size e) I.ok.above)
  have neC : ∀ b o, X.s₀.heap.get? b = some o → b ∉ X.ex → b ∉ ch := fun b o e hx hb => by
    rcases (hch b hb).1 with z | z
    · exact hx z
    · exact absurd (Nat.lt_of_lt_of_le (Heap.lt_size e) z) (Nat.lt_irrefl _)
  have cellK : ∀ x c, X.env.cells.lookup x = some c → ∀ v, s.heap.IsCell c v → h'.IsCell c v := fun x c e v ⟨o, ho, hd⟩ => by
    have nch : c ∉ ch := fun z => (hch c z).2.2.1 x c e rfl
    by_cases hc : c ∈ X.fs
    · obtain ⟨sl, q⟩ := slot c o (I.cne x c e) hc nch ho (I.freeC x c e)
      exact ⟨_, q, hd⟩
    · exact ⟨o, keep c o (I.cne x c e) hc nch ho (I.freeC x c e), hd⟩
  refine ⟨I.ok, I.os, hg, ⟨fun b o e n hb hx => ?_, fun b o e n hb hx => ?_, fun b o e n hx => ?_, fun b o e hx => ?_, fun b xs e => tups b xs (I.base.tups b xs e), fun b o xs e => frzs b o xs (I.base.frzs b o xs e), fun b ps e => ?_⟩, ?_, fun x c e => ?_, ?_, fun x c e => ?_, fun p hp => ?_, hok, I.len⟩
  · exact keep b o (neL b o e) hb (neC b o e hx) (I.base.keep b o e n hb hx) (I.base.free b o e n hx)
  · obtain ⟨sl, e1⟩ := I.base.slot b o e n hb hx
    obtain ⟨sl', e2⟩ := slot b _ (neL b o e) hb (neC b o e hx) e1 (I.base.free b o e n hx)
    exact ⟨sl', e2⟩
  · obtain ⟨o', e1⟩ := I.base.there b o e hx
    exact free b o' (neC b o e hx) e1 (I.base.free b o e n hx)
  · obtain ⟨o', e1⟩ := I.base.there b o e hx
    exact there b o' (neC b o e hx) e1
  · obtain ⟨m1, e1⟩ := I.base.tbls b ps e
    obtain ⟨m2, e2⟩ := tbls b _ e1
    exact ⟨m1 ++ m2, by rw [e2, Array.append_assoc]⟩
  · obtain ⟨m, hn, hl⟩ := I.loc
    refine ⟨m, ns m hn, fun i x v e1 e2 e3 => ?_⟩
    obtain ⟨u, r, l⟩ := hl i x v e1 e2 e3
    refine ⟨u, r, ?_⟩
    rcases l with l | ⟨k, c, e, z⟩
    · exact .inl l
    · exact .inr ⟨k, c, e, cellK x c e _ z⟩
  · obtain ⟨v, z⟩ := I.cell x c e
    exact ⟨v, cellK x c e v z⟩
  · obtain ⟨m, ⟨o, _, _, ho, _⟩, _⟩ := I.loc
    exact free _ o (fun z => (hch _ z).2.1 rfl) ho I.free
  · obtain ⟨v, o, ho, hd⟩ := I.cell x c e
    exact free c o (fun z => (hch c z).2.2.1 x c e rfl) ho (I.freeC x c e)
  · obtain ⟨e, n, ne, nf, d⟩ := I.pin p hp
    have nch : p.1 ∉ ch := fun z => (hch p.1 z).2.2.2 p hp rfl
    exact ⟨keep p.1 p.2 ne nf nch e n, free p.1 p.2 nch e n, ne, nf, d⟩
theorem Inv.un {t' : Nat} (I : Inv X pins σ H s) (u : Un X.fs [] H H' s.heap h') (hok : HOk X.prog X.w H' h') : Inv X pins σ H' { s with heap := h', toks := t' } := by
  obtain ⟨m, ⟨o, es, ep, ho, r⟩, _⟩ := id I.loc
  obtain ⟨sl, hL⟩ := u.any ho I.free (by simp)
  exact I.step (g' := s.gens) (d' := s.drawn) (ch := []) (fun _ z => nomatch z) (fun b o _ hb _ e n => u.keep b o e n hb (by simp)) (fun b o _ hb _ e n => u.slot b o e n hb (by simp)) (fun b o _ e n => u.free b o e n (by simp)) (fun b o _ e => u.there b o e (by simp)) u.tups u.frzs u.tbls (fun m' hm => by
    obtain ⟨o', es', ep', ho', r'⟩ := hm
    rw [ho] at ho'; cases ho'
    exact ⟨_, es', ep', hL, r'⟩) hok I.bare
theorem Inv.call {g' : Array GenState} {t' : Nat} {d' : Drawn} {ch : List Addr} (I : Inv X pins σ H s) (u : Un (frs X.stack) ch H H' s.heap h') (hok : HOk X.prog X.w H' h') (hg : AllBare g')
    (hch : ∀ b ∈ ch, (b ∈ X.ex ∨ X.s₀.heap.objs.size ≤ b) ∧ b ≠ X.env.locals ∧ (∀ x c, X.env.cells.lookup x = some c → c ≠ b) ∧ ∀ p ∈ X.pn ++ pins, p.1 ≠ b) :
    Inv X pins σ H' { s with heap := h', gens := g', drawn := d', toks := t' } := by
  obtain ⟨m, ⟨o, es, ep, ho, r⟩, _⟩ := id I.loc
  obtain ⟨sl, hL⟩ := u.any ho I.free fun z => (hch _ z).2.1 rfl
  exact I.step (ch := ch) hch (fun b o hL hb hc e n => u.keep b o e n (fun z => (List.mem_cons.mp (I.stkSub b z)).elim hL hb) hc) (fun b o _ _ hc e n => u.any e n hc) (fun b o hc e n => u.free b o e n hc) (fun b o hc e => u.there b o e hc) u.tups u.frzs u.tbls (fun m' hm => by
    obtain ⟨o', es', ep', ho', r'⟩ := hm
    rw [ho] at ho'; cases ho'
    exact ⟨_, es', ep', hL, r'⟩) hok hg
theorem Inv.turned {t' : Nat} {it : Addr} (I : Inv X pins σ H s) (k : ∀ b o, b ≠ it → s.heap.get? b = some o → h'.get? b = some o) (hn : H it = none) (hL : it ≠ X.env.locals)
    (h1 : it ∈ X.ex ∨ X.s₀.heap.objs.size ≤ it) (h2 : ∀ x c, X.env.cells.lookup x = some c → c ≠ it) (h3 : ∀ p ∈ X.pn ++ pins, p.1 ≠ it) : Inv X pins σ H { s with heap := h', toks := t' } := by
  have nit : ∀ b u, H b = some u → b ≠ it := fun b u e z => by rw [z, hn] at e; cases e
  refine I.step (g' := s.gens) (d' := s.drawn) (ch := [it]) (fun b hb => ?_) (fun b o _ _ hc e _ => k b o (fun z => hc (by simp [z])) e) (fun b o _ _ hc e _ => ⟨o.slots, k b o (fun z => hc (by simp [z])) e⟩) (fun _ _ _ _ n => n)
    (fun b o hc e => ⟨o, k b o (fun z => hc (by simp [z])) e⟩) (fun _ _ e => e) (fun _ _ _ e => e) (fun b ps e => ⟨#[], by rw [e]; simp⟩) (fun m hm => ?_) (fun b u e => ?_) I.bare
  · have e : b = it := by simpa using hb
    subst e
    exact ⟨h1, hL, h2, h3⟩
  · obtain ⟨o, es, ep, ho, r⟩ := hm
    exact ⟨o, es, ep, k _ o (Ne.symm hL) ho, r⟩
  · refine (I.hok b u e).stay (fun c v hc q => k c v ?_ q) (fun _ q => q) fun _ _ q => q
    rcases hc with z | z
    · rw [z]; exact nit b u e
    · exact nit c _ z
theorem Inv.tok (I : Inv X pins σ H s) (t : Nat) : Inv X pins σ H { s with toks := t } := I.un (h' := s.heap) (t' := t) Un.refl I.hok
theorem Inv.kept {t' : Nat} (I : Inv X pins σ H s) (k : ∀ b u, s.heap.get? b = some u → h'.get? b = some u) : Inv X pins σ H { s with heap := h', toks := t' } := I.un (Un.kept k) (I.hok.kept k)
theorem Inv.laid {a : Addr} {o : HO} {t' : Nat} (I : Inv X pins σ H s) (k : ∀ b u, s.heap.get? b = some u → h'.get? b = some u) (hp : s.heap.objs.size ≤ a) (new : ObjOk X.prog X.w (upd H a o) h' a o) :
    Inv X pins σ (upd H a o) { s with heap := h', toks := t' } := I.un (Un.laid k hp (I.hok.fresh hp)) (I.hok.laid k hp new)
theorem Inv.write {x e : Addr} {o : HO} {t' : Nat} (I : Inv X pins σ H s) (mu : Mut (H x)) (he : e = x ∨ H e = some (.own x)) (k : ∀ b u, b ≠ e → s.heap.get? b = some u → h'.get? b = some u) (heo : ∃ u, h'.get? e = some u)
    (new : ObjOk X.prog X.w (upd H x o) h' x o) : Inv X pins σ (upd H x o) { s with heap := h', toks := t' } := I.un (Un.write mu he k heo) (I.hok.write mu he k heo new)
theorem Inv.pins_of {pins' : List (Addr × Obj)} (I : Inv X pins σ H s) (h : ∀ p ∈ pins', s.heap.get? p.1 = some p.2 ∧ H p.1 = none ∧ p.1 ≠ X.env.locals ∧ p.1 ∉ X.fs ∧ ∀ v, p.2.data ≠ .cell v) : Inv X pins' σ H s :=
  ⟨I.ok, I.os, I.bare, I.base, I.loc, I.cell, I.free, I.freeC, fun p hp => (List.mem_append.mp hp).elim (fun z => I.pin p (List.mem_append_left _ z)) (h p), I.hok, I.len⟩
theorem nodup_ix {N : List Str} (hN : N.Nodup) {i j : Nat} {x : Str} (a : N[i]? = some x) (b : N[j]? = some x) : i = j := by
  obtain ⟨h1, e1⟩ := List.getElem?_eq_some_iff.mp a
  obtain ⟨h2, e2⟩ := List.getElem?_eq_some_iff.mp b
  exact (List.getElem_inj hN).mp (e1.trans e2.symm)
theorem store_ok2 {M : Model} {A : Around} {E : Value → Shared → Prop} {i : Nat} {x : Str} {v : V} {u : Value} {Q : Unit → Shared → Prop} (I : Inv X pins σ H s) (hN : X.N.Nodup) (hi : X.N[i]? = some x) (hx : Loc X.env.scope x) (r : RelV v u)
    (h : ∀ s', Inv X pins (σ.set i (some v)) H s' → (∃ a, Heap.SameBut a s.heap s'.heap ∧ (a = X.env.locals ∨ X.env.cells.lookup x = some a)) → Q () s') (hf : X.fn x = true ∨ X.env.scope.names.lookup x = some .local := by first | exact .inl rfl | exact .inr rfl | assumption) : wpAny M A (storeName X.env x u) Q E s := by
  obtain ⟨m, hn, hl⟩ := id I.loc
  have hcls : (X.env.scope.kind == .class || (X.env.scope.kind == .module && X.env.locals != X.env.globals)) = false := by rw [I.ok.kind]; rfl
  have hiσ : i < σ.length := by rw [I.len]; exact (List.getElem?_eq_some_iff.mp hi).1
  have cne := I.cne
  have tracked : ∀ {a : Addr} {h' : Heap}, (∃ o, s.heap.get? a = some o ∧ H a = none) → Heap.SameBut a s.heap h' → HOk X.prog X.w H h' := fun {a h'} ha hs b ob e => by
    obtain ⟨_, _, hfree⟩ := ha
    refine (I.hok b ob e).stay (fun c w' hc q => (hs.2 c ?_).trans q) (fun _ q => q) fun _ _ q => q
    rintro rfl
    rcases hc with rfl | hc
    · rw [hfree] at e; cases e
    · rw [hfree] at hc; cases hc
  rcases hx with hk | hk
  · refine wpAny_storeName_local hk hn (fun h' hn' hs => ?_) hcls
    obtain ⟨oL, _, _, hoL, _⟩ := id hn
    refine h _ ⟨I.ok, I.os, I.bare, ⟨fun b o e n hb hx => ?_, fun b o e n hb hx => ?_, I.base.free, fun b o e hx => ?_, I.base.tups, I.base.frzs, I.base.tbls⟩, ⟨_, hn', fun j y v' e1 e2 e3 => ?_⟩, fun y c e => ?_, I.free, I.freeC, fun p hp => ?_, tracked ⟨oL, hoL, I.free⟩ hs, by simpa using I.len⟩ ⟨_, hs, .inl rfl⟩
    · exact (hs.2 b (Nat.ne_of_lt (Nat.lt_of_lt_of_le (Heap.lt_size e) I.ok.above))).trans (I.base.keep b o e n hb hx)
    · obtain ⟨sl, e1⟩ := I.base.slot b o e n hb hx
      exact ⟨sl, (hs.2 b (Nat.ne_of_lt (Nat.lt_of_lt_of_le (Heap.lt_size e) I.ok.above))).trans e1⟩
    · obtain ⟨o', e1⟩ := I.base.there b o e hx
      exact ⟨o', (hs.2 b (Nat.ne_of_lt (Nat.lt_of_lt_of_le (Heap.lt_size e) I.ok.above))).trans e1⟩
    · by_cases hj : j = i
      · subst hj
        rw [hi] at e1; cases e1
        rw [List.getElem?_set_self hiσ] at e2
        cases e2
        exact ⟨u, r, .inl ⟨hk, by simp⟩⟩
      · rw [List.getElem?_set_ne (Ne.symm hj)] at e2
        obtain ⟨u', r', q⟩ := hl j y v' e1 e2 e3
        refine ⟨u', r', ?_⟩
        rcases q with ⟨k, e⟩ | ⟨k, c, e, z⟩
        · refine .inl ⟨k, ?_⟩
          have : y ≠ x := fun e => hj (nodup_ix hN e1 (e ▸ hi))
          simp [this, e]
        · exact .inr ⟨k, c, e, z.sameBut hs (cne y c e)⟩
    · obtain ⟨w', z⟩ := I.cell y c e
      exact ⟨w', z.sameBut hs (cne y c e)⟩
    · obtain ⟨e, n, ne, nf, d⟩ := I.pin p hp
      exact ⟨(hs.2 p.1 ne).trans e, n, ne, nf, d⟩
  · have hfn : X.fn x = true := by
      rcases hf with z | z
      · exact z
      · rw [z] at hk; cases hk
    obtain ⟨c, hc⟩ := I.ok.has x (.inl hk)
    obtain ⟨w', z⟩ := I.cell x c hc
    refine wpAny_storeName_cell I.ok.kind hk hc z (fun h' hc' hs => ?_)
    obtain ⟨oc, hoc, hocd⟩ := id z
    refine h { s with heap := h' } ⟨I.ok, I.os, I.bare, ⟨fun b o e n hb hx => ?_, fun b o e n hb hx => ?_, I.base.free, fun b o e hx => ?_, I.base.tups, I.base.frzs, I.base.tbls⟩, ⟨m, hn.sameBut hs (Ne.symm (cne x c hc)), fun j y v' e1 e2 e3 => ?_⟩, fun y c' e => ?_, I.free, I.freeC, fun p hp => ?_, tracked ⟨oc, hoc, I.freeC x c hc⟩ hs, by simpa using I.len⟩ ⟨c, hs, .inr hc⟩
    · exact (hs.2 b (Nat.ne_of_lt (Nat.lt_of_lt_of_le (Heap.lt_size e) (I.ok.cab x c hfn hc)))).trans (I.base.keep b o e n hb hx)
    · obtain ⟨sl, e1⟩ := I.base.slot b o e n hb hx
      exact ⟨sl, (hs.2 b (Nat.ne_of_lt (Nat.lt_of_lt_of_le (Heap.lt_size e) (I.ok.cab x c hfn hc)))).trans e1⟩
    · obtain ⟨o', e1⟩ := I.base.there b o e hx
      exact ⟨o', (hs.2 b (Nat.ne_of_lt (Nat.lt_of_lt_of_le (Heap.lt_size e) (I.ok.cab x c hfn hc)))).trans e1⟩
    · by_cases hj : j = i
      · subst hj
        rw [hi] at e1; cases e1
        rw [List.getElem?_set_self hiσ] at e2
        cases e2
        exact ⟨u, r, .inr ⟨.inl hk, c, hc, hc'⟩⟩
      · rw [List.getElem?_set_ne (Ne.symm hj)] at e2
        obtain ⟨u', r', q⟩ := hl j y v' e1 e2 e3
        refine ⟨u', r', ?_⟩
        rcases q with q | ⟨k, c', e, z'⟩
        · exact .inl q
        · refine .inr ⟨k, c', e, z'.sameBut hs ?_⟩
          rintro rfl
          exact hj (nodup_ix hN e1 (I.ok.inj _ _ _ e hc ▸ hi))
    · by_cases hcc : c' = c
      · subst hcc; exact ⟨_, hc'⟩
      · obtain ⟨w2, z2⟩ := I.cell y c' e
        exact ⟨w2, z2.sameBut hs hcc⟩
    · obtain ⟨e, n, ne, nf, d⟩ := I.pin p hp
      refine ⟨(hs.2 p.1 ?_).trans e, n, ne, nf, d⟩
      intro q
      rw [q, hoc] at e
      have q' : oc = p.2 := Option.some.inj e
      exact d w' (by rw [← q']; exact hocd)
theorem store_ok {M : Model} {A : Around} {E : Value → Shared → Prop} {i : Nat} {x : Str} {v : V} {u : Value} {Q : Unit → Shared → Prop} (I : Inv X pins σ H s) (hN : X.N.Nodup) (hi : X.N[i]? = some x) (hx : Loc X.env.scope x) (r : RelV v u)
    (h : ∀ s', Inv X pins (σ.set i (some v)) H s' → Q () s') (hf : X.fn x = true ∨ X.env.scope.names.lookup x = some .local := by first | exact .inl rfl | exact .inr rfl | assumption) : wpAny M A (storeName X.env x u) Q E s :=
  store_ok2 I hN hi hx r (fun s' I' _ => h s' I') hf
theorem Inv.call' {s' : Shared} {ch : List Addr} (I : Inv X pins σ H s) (ho : s'.os = s.os) (u : Un (frs X.stack) ch H H' s.heap s'.heap) (hok : HOk X.prog X.w H' s'.heap) (hg : AllBare s'.gens)
    (hch : ∀ b ∈ ch, (b ∈ X.ex ∨ X.s₀.heap.objs.size ≤ b) ∧ b ≠ X.env.locals ∧ (∀ x c, X.env.cells.lookup x = some c → c ≠ b) ∧ ∀ p ∈ X.pn ++ pins, p.1 ≠ b) : Inv X pins σ H' s' := by
  obtain ⟨h', g', d', t', o'⟩ := s'
  have e : o' = s.os := ho
  subst e
  exact I.call (g' := g') (t' := t') (d' := d') u hok hg hch
end
noncomputable abbrev XK := Value → Option Addr → Hp → Prop
noncomputable abbrev St := List (Option V)
noncomputable abbrev VK := V → Hp → Prop
noncomputable abbrev TE := St → Hp → VK → Prop
noncomputable abbrev TT := St → Hp → (Bool → Hp → Prop) → Prop
noncomputable abbrev TA := St → Hp → (List V → Hp → Prop) → Prop
structure Ends where
  nx : St → Hp → Prop
  rt : VK
  bk : St → Hp → Prop := fun _ _ => False
  ct : St → Hp → Prop := fun _ _ => False
noncomputable abbrev TS := Ends → St → Hp → Prop
noncomputable def EP (X : Cx) (pins : List (Addr × Obj)) (σ : St) (Q : VK) (u : Value) (s' : Shared) : Prop := ∃ v H', Inv X pins σ H' s' ∧ RelV v u ∧ Q v H'
noncomputable def TP (X : Cx) (pins : List (Addr × Obj)) (σ : St) (Q : Bool → Hp → Prop) (b : Bool) (s' : Shared) : Prop := ∃ H', Inv X pins σ H' s' ∧ Q b H'
noncomputable def AP (X : Cx) (pins : List (Addr × Obj)) (σ : St) (Q : List V → Hp → Prop) (us : List Value) (s' : Shared) : Prop := ∃ vs H', Inv X pins σ H' s' ∧ Vals vs us ∧ Q vs H'
noncomputable def SP (X : Cx) (pins : List (Addr × Obj)) (D : Ends) (f : Flow) (s' : Shared) : Prop :=
  match f with
  | .next => ∃ σ' H', Inv X pins σ' H' s' ∧ D.nx σ' H'
  | .brk => ∃ σ' H', Inv X pins σ' H' s' ∧ D.bk σ' H'
  | .cont => ∃ σ' H', Inv X pins σ' H' s' ∧ D.ct σ' H'
  | .ret u => ∃ v σ' H', Inv X pins σ' H' s' ∧ RelV v u ∧ D.rt v H'
noncomputable def PE (X : Cx) (e : Expr) (t : TE) : Prop :=
  ∀ (pins : List (Addr × Obj)) (s : Shared) (σ : St) (H : Hp) (Q : VK), Inv X pins σ H s → t σ H Q → wpAny (model X.prog X.w) X.A (eval e X.env) (EP X pins σ Q) X.xe s
noncomputable def PT (X : Cx) (e : Expr) (t : TT) : Prop :=
  ∀ (pins : List (Addr × Obj)) (s : Shared) (σ : St) (H : Hp) (Q : Bool → Hp → Prop), Inv X pins σ H s → t σ H Q → wpAny (model X.prog X.w) X.A (isTrue e X.env (eval e X.env)) (TP X pins σ Q) X.xe s
noncomputable def PW (X : Cx) (e : Expr) (t : TT) : Prop :=
  ∀ (whole : Sem Value) (pins : List (Addr × Obj)) (s : Shared) (σ : St) (H : Hp) (Q : Bool → Hp → Prop), Inv X pins σ H s → t σ H Q → wpAny (model X.prog X.w) X.A (isTrue e X.env whole) (TP X pins σ Q) X.xe s
theorem PW.pt {X : Cx} {e : Expr} {t : TT} (h : PW X e t) : PT X e t := h _
noncomputable def PA (X : Cx) (es : List Expr) (t : TA) : Prop :=
  ∀ (pos : Pos) (pins : List (Addr × Obj)) (s : Shared) (σ : St) (H : Hp) (Q : List V → Hp → Prop), Inv X pins σ H s → t σ H Q → wpAny (model X.prog X.w) X.A (spliced (backTo pos (starEach es X.env))) (AP X pins σ Q) X.xe s
noncomputable def PS (X : Cx) (st : Stmt) (t : TS) : Prop :=
  ∀ (pins : List (Addr × Obj)) (s : Shared) (σ : St) (H : Hp) (D : Ends), Inv X pins σ H s → t D σ H → wpAny (model X.prog X.w) X.A (exec st X.env) (SP X pins D) X.xe s
noncomputable def PSs (X : Cx) (st : List Stmt) (t : TS) : Prop :=
  ∀ (pins : List (Addr × Obj)) (s : Shared) (σ : St) (H : Hp) (D : Ends), Inv X pins σ H s → t D σ H → wpAny (model X.prog X.w) X.A (execs st X.env) (SP X pins D) X.xe s
theorem thn {α : Type} {t : Sem α} {Q Q' : α → Shared → Prop} {M : Model} {A : Around} {E : Value → Shared → Prop} {s : Shared} (h : wpAny M A t Q E s) (hQ : ∀ a s, Q a s → Q' a s) : wpAny M A t Q' E s := wpAny_mono h hQ fun _ _ x => x
end L2
namespace L2
open PySem PySem.Spec PyProof.Rows
section
variable {X : Cx}
theorem bin {a b : Expr} {ta tb : TE} (ha : PE X a ta) (hb : PE X b tb) {pins : List (Addr × Obj)} {s : Shared} {σ : St} {H : Hp} {R : V → V → Hp → Prop} (I : Inv X pins σ H s) (h : ta σ H fun x H1 => tb σ H1 fun y H2 => R x y H2)
    {α : Type} {Q : α → Shared → Prop} {f : Value → Value → Sem α}
    (hf : ∀ v u s2 x y H2, Inv X pins σ H2 s2 → RelV x v → RelV y u → R x y H2 → wpAny (model X.prog X.w) X.A (f v u) Q X.xe s2) :
    wpAny (model X.prog X.w) X.A (eval a X.env) (fun v s₁ => wpAny (model X.prog X.w) X.A (eval b X.env) (fun u s₂ => wpAny (model X.prog X.w) X.A (f v u) Q X.xe s₂) X.xe s₁) X.xe s := by
  refine thn (ha pins s σ H _ I h) fun v s1 ⟨x, H1, I1, r1, q1⟩ => ?_
  refine thn (hb pins s1 σ H1 _ I1 q1) fun u s2 ⟨y, H2, I2, r2, q2⟩ => ?_
  exact hf v u s2 x y H2 I2 r1 r2 q2
noncomputable def tVar (i : Nat) : TE := fun σ H Q => ∃ v, σ[i]? = some (some v) ∧ Q v H
noncomputable def tC (v : V) : TE := fun _ H Q => Q v H
theorem pe_var {i : Nat} {x : Str} {pos : Pos} (hN : X.N[i]? = some x) (hv : Vis X.env.scope x) (hd : (x == ("__debug__" : Str)) = false := by decide) (hcd : (x == ("__classdict__" : Str)) = false := by decide) : PE X (.Name x pos) (tVar i) := by
  intro pins s σ H Q I h
  obtain ⟨v, e, h⟩ := h
  obtain ⟨m, hn, hl⟩ := I.loc
  obtain ⟨u, r, l⟩ := hl i x v hN e hv
  have fin : EP X pins σ Q u s := ⟨v, H, I, r, h⟩
  rcases l with ⟨hk, hm⟩ | ⟨hk, c, hc, hcell⟩
  · exact wpAny_Name (wpAny_loadName_local I.ok.kind hk hn hm fin) hd
  · rcases hk with hk | hk
    · exact wpAny_Name (wpAny_loadName_cell I.ok.kind hk hc hcell fin) hd
    · exact wpAny_Name (wpAny_loadName_free I.ok.kind hk hc hcell fin hcd) hd
theorem pe_int {i j pos} : PE X (.Constant (.int i) j pos) (tC (.int i)) := fun _ _ _ H _ I h => wpAny_Constant_int ⟨.int i, H, I.tok _, ⟨_, rfl⟩, h⟩
theorem pe_str {x j pos} : PE X (.Constant (.str x) j pos) (tC (.str x)) := fun _ _ _ H _ I h => Calls.Constant_str ⟨.str x, H, I.tok _, ⟨_, rfl⟩, h⟩
noncomputable def Gl (X : Cx) (x : Str) : Prop := X.env.kindOf x = some .globalImplicit
theorem ld_glob {E : Value → Shared → Prop} {pins : List (Addr × Obj)} {s : Shared} {σ : St} {H : Hp} {x : Str} {u : Value} {pos : Pos} {Q : Value → Shared → Prop} (I : Inv X pins σ H s) (hg : Gl X x) (hm : X.mg x = some u) (h : Q u s)
    (hd : (x == ("__debug__" : Str)) = false := by decide) : wpAny (model X.prog X.w) X.A (eval (.Name x pos) X.env) Q E s :=
  Calls.Name_function_global I.ok.kind hg (Calls.loadGlobal_global (by rw [I.ok.glob]; exact I.mod.glob.keeps I.bk) hm h) hd
theorem ld_blt {E : Value → Shared → Prop} {pins : List (Addr × Obj)} {s : Shared} {σ : St} {H : Hp} {x : Str} {u : Value} {pos : Pos} {Q : Value → Shared → Prop} (I : Inv X pins σ H s) (hg : Gl X x) (hm : X.mg x = none) (hv : bootBuiltins x = some u) (h : Q u s)
    (hn : x ≠ "__name__" := by decide) (hd : (x == ("__debug__" : Str)) = false := by decide) : wpAny (model X.prog X.w) X.A (eval (.Name x pos) X.env) Q E s := by
  obtain ⟨mb, h1, h2⟩ := I.mod.blt
  exact Calls.Name_function_global I.ok.kind hg (Calls.loadGlobal_builtin (by rw [I.ok.glob]; exact I.mod.glob.keeps I.bk) hm (by rw [I.ok.blt]; exact h1.keeps I.bk) ((h2 x hn).trans hv) h) hd
theorem pe_bltn {x : Str} {v : V} {u : Value} {pos : Pos} (hg : Gl X x) (hm : X.mg x = none) (hv : bootBuiltins x = some u) (r : RelV v u) (hn : x ≠ "__name__" := by decide) (hd : (x == ("__debug__" : Str)) = false := by decide) : PE X (.Name x pos) (tC v) :=
  fun _ _ _ H _ I h => ld_blt I hg hm hv ⟨v, H, I, r, h⟩ hn hd
variable {a b : Expr} {ta tb : TE} {pos : Pos}
noncomputable def tB (t : TE) : TT := fun σ H Q => t σ H fun x H1 => ∃ c, x = .bl c ∧ Q c H1
variable {tA tB' : TT} {rest : List Expr}
noncomputable def tAnd (t u : TT) : TT := fun σ H Q => t σ H fun c H1 => if c = true then u σ H1 Q else Q false H1
theorem pw_and1 (ha : PT X a tA) : PW X (.BoolOp .And [a] pos) tA := by
  intro wh pins s σ H Q I h
  refine isTrue_and (thn (ha pins s σ H Q I h) fun c s1 e => ?_)
  cases c with
  | true => exact isTrue_and_nil e
  | false => exact e
theorem pw_and (ha : PT X a tA) (hb : PW X (.BoolOp .And (b :: rest) pos) tB') : PW X (.BoolOp .And (a :: b :: rest) pos) (tAnd tA tB') := by
  intro wh pins s σ H Q I h
  refine isTrue_and (thn (ha pins s σ H _ I h) fun c s1 ⟨H1, I1, q1⟩ => ?_)
  cases c with
  | true => exact hb wh pins s1 σ H1 Q I1 q1
  | false => exact ⟨H1, I1, q1⟩
noncomputable def tAndV (ta tb : TE) : TE := fun σ H Q => ta σ H fun x H1 => ∃ c, x = .bl c ∧ if c = true then tb σ H1 Q else Q (.bl false) H1
theorem pe_one {op} {t : TE} (h : PE X a t) : PE X (.BoolOp op [a] pos) t := fun pins s σ H Q I hw => BoolOp_one (h pins s σ H Q I hw)
theorem pe_and (ha : PE X a ta) (hb : PE X (.BoolOp .And (b :: rest) pos) tb) : PE X (.BoolOp .And (a :: b :: rest) pos) (tAndV ta tb) := by
  intro pins s σ H Q I h
  refine BoolOp_and (thn (ha pins s σ H _ I h) fun v s1 ⟨x, H1, I1, r1, q1⟩ => ?_)
  obtain ⟨c, rfl, q1⟩ := q1
  cases r1
  refine wpAny_truthy_bool ?_
  cases c with
  | true => exact hb pins s1 σ H1 Q I1 q1
  | false => exact ⟨.bl false, H1, I1, rfl, q1⟩
noncomputable def tIf (t : TT) (ta tb : TE) : TE := fun σ H Q => t σ H fun c H1 => if c = true then ta σ H1 Q else tb σ H1 Q
theorem pe_ifExp {c : Expr} (hc : PT X c tA) (ha : PE X a ta) (hb : PE X b tb) : PE X (.IfExp c a b pos) (tIf tA ta tb) := by
  intro pins s σ H Q I h
  refine wpAny_IfExp (thn (hc pins s σ H _ I h) fun d s1 ⟨H1, I1, q1⟩ => ?_)
  cases d with
  | true => exact ha pins s1 σ H1 Q I1 q1
  | false => exact hb pins s1 σ H1 Q I1 q1
end
end L2
namespace L2
open PySem PySem.Spec PyProof.Rows
noncomputable def SqL (K : PySem.W.Frag) (H : Hp) (a : Addr) (xs : List V) : Prop :=
  Rd H a (.lst xs) ∨
    ∃ (o : Obj) (its : Array Value) (n : Nat), K.lookup a = some o ∧ o.cls = .type "list" ∧ o.dict = none ∧ o.data = .seq its n ∧ its.size ≤ sizeLine ∧ Vals xs its.toList
noncomputable def SqT (K : PySem.W.Frag) (H : Hp) (a : Addr) (xs : List V) : Prop :=
  Rd H a (.tup xs) ∨
    ∃ (o : Obj) (its : Array Value) (n : Nat), K.lookup a = some o ∧ o.cls = .type "tuple" ∧ o.data = .seq its n ∧ its.size ≤ sizeLine ∧ Vals xs its.toList
noncomputable def absV : Value → Option V
  | .none => some .non
  | .bool b => some (.bl b)
  | .int i _ => some (.int i)
  | .str x _ => some (.str x)
  | .bytes b _ => some (.byt b)
  | .float b _ => some (.flt b)
  | .ref a => some (.ref a)
  | .type n => some (.ty n)
  | _ => none
theorem RelV.abs {x : V} {u : Value} (r : RelV x u) : absV u = some x := by
  cases x with
  | non => cases r; rfl
  | bl _ => cases r; rfl
  | int _ => obtain ⟨t, rfl⟩ := r; rfl
  | str _ => obtain ⟨t, rfl⟩ := r; rfl
  | byt _ => obtain ⟨t, rfl⟩ := r; rfl
  | flt _ => obtain ⟨t, rfl⟩ := r; rfl
  | ref _ => cases r; rfl
  | ty _ => cases r; rfl
theorem RelV.inj {x y : V} {u : Value} (r : RelV x u) (q : RelV y u) : x = y := Option.some.inj (r.abs.symm.trans q.abs)
theorem Vals.inj : ∀ {xs ys : List V} {us : List Value}, Vals xs us → Vals ys us → xs = ys
  | _, _, _, .nil, .nil => rfl
  | _, _, _, .cons r t, .cons r' t' => by rw [r.inj r', Vals.inj t t']
section
variable {X : Cx} {pins : List (Addr × Obj)} {σ : St} {H : Hp} {s : Shared} {a : Addr} {xs ys : List V}
theorem SqL.of {K : PySem.W.Frag} (h : H a = some (.lst xs)) : SqL K H a xs := .inl (.inl h)
theorem SqT.of {K : PySem.W.Frag} (h : H a = some (.tup xs)) : SqT K H a xs := .inl (.inl h)
theorem Inv.list (I : Inv X pins σ H s) (h : SqL X.K H a xs) : ∃ its : List Value, Vals xs its ∧ PlainL s.heap a its.toArray ∧ xs.length ≤ sizeLine := by
  rcases h with h | ⟨o, its, n, hk, hc, hd, hs, hz, r⟩
  · obtain ⟨z, its, n, r, e⟩ := h.ok I.hok
    exact ⟨its, r, ⟨_, n, e, rfl, rfl, rfl⟩, z⟩
  · refine ⟨its.toList, r, ⟨o, n, I.kIn a o hk, hc, hd, by simpa using hs⟩, ?_⟩
    have e := r.length
    simp only [Array.length_toList] at e
    omega
theorem Inv.tuple (I : Inv X pins σ H s) (h : SqT X.K H a xs) : ∃ its : List Value, Vals xs its ∧ IsTup s.heap a its.toArray ∧ xs.length ≤ sizeLine := by
  rcases h with h | ⟨o, its, n, hk, hc, hs, hz, r⟩
  · obtain ⟨z, its, r, p⟩ := h.ok I.hok
    exact ⟨its, r, p, z⟩
  · refine ⟨its.toList, r, ⟨o, I.kIn a o hk, hc, n, by simpa using hs⟩, ?_⟩
    have e := r.length
    simp only [Array.length_toList] at e
    omega
theorem Inv.list_inj (I : Inv X pins σ H s) (h : SqL X.K H a xs) (h' : SqL X.K H a ys) : xs = ys := by
  obtain ⟨its, r, ⟨o, n, e, _, _, d⟩, _⟩ := I.list h
  obtain ⟨its', r', ⟨o', n', e', _, _, d'⟩, _⟩ := I.list h'
  rw [e] at e'; cases e'
  rw [d] at d'
  injection d' with d1 _
  have : its = its' := by simpa using congrArg Array.toList d1
  subst this
  exact r.inj r'
theorem Inv.tuple_inj (I : Inv X pins σ H s) (h : SqT X.K H a xs) (h' : SqT X.K H a ys) : xs = ys := by
  obtain ⟨its, r, ⟨o, e, _, n, d⟩, _⟩ := I.tuple h
  obtain ⟨its', r', ⟨o', e', _, n', d'⟩, _⟩ := I.tuple h'
  rw [e] at e'; cases e'
  rw [d] at d'
  injection d' with d1 _
  have : its = its' := by simpa using congrArg Array.toList d1
  subst this
  exact r.inj r'
end
noncomputable abbrev Cx.wish (X : Cx) (E : Value → Shared → Prop) : Cx := { X with xe := E }
noncomputable abbrev Cx.nox (X : Cx) : Cx := X.wish fun _ _ => False
theorem Cx.Ok.wish {X : Cx} (ok : X.Ok) (E : Value → Shared → Prop) : (X.wish E).Ok :=
  ⟨ok.mod, ok.kind, ok.glob, ok.blt, ok.above, ok.inj, ok.has, ok.cab, ok.hd, ok.frames, ok.stk, ok.exf, ok.bs, ok.bsz, ok.noex, ok.exfs, ok.funs, ok.frf⟩
theorem Cx.Ok.unwish {X : Cx} {E : Value → Shared → Prop} (ok : (X.wish E).Ok) : X.Ok :=
  ⟨ok.mod, ok.kind, ok.glob, ok.blt, ok.above, ok.inj, ok.has, ok.cab, ok.hd, ok.frames, ok.stk, ok.exf, ok.bs, ok.bsz, ok.noex, ok.exfs, ok.funs, ok.frf⟩
section
variable {X : Cx} {pins : List (Addr × Obj)} {σ : St} {H : Hp} {s : Shared} {E : Value → Shared → Prop}
theorem Inv.wish (I : Inv X pins σ H s) (E : Value → Shared → Prop) : Inv (X.wish E) pins σ H s := ⟨I.ok.wish E, I.os, I.bare, I.base, I.loc, I.cell, I.free, I.freeC, I.pin, I.hok, I.len⟩
theorem Inv.unwish (I : Inv (X.wish E) pins σ H s) : Inv X pins σ H s := ⟨I.ok.unwish, I.os, I.bare, I.base, I.loc, I.cell, I.free, I.freeC, I.pin, I.hok, I.len⟩
theorem SP.unwish {D : Ends} {f : Flow} {s' : Shared} (h : SP (X.wish E) pins D f s') : SP X pins D f s' := by
  cases f with
  | next => obtain ⟨σ', H', I, q⟩ := h; exact ⟨σ', H', I.unwish, q⟩
  | brk => obtain ⟨σ', H', I, q⟩ := h; exact ⟨σ', H', I.unwish, q⟩
  | cont => obtain ⟨σ', H', I, q⟩ := h; exact ⟨σ', H', I.unwish, q⟩
  | ret u => obtain ⟨v, σ', H', I, r, q⟩ := h; exact ⟨v, σ', H', I.unwish, r, q⟩
theorem PE.nox {e : Expr} {t : TE} (h : PE X.nox e t) : PE X e t := fun pins s σ H Q I hw =>
  wpAny_mono (h pins s σ H Q (I.wish _) hw) (fun _ _ ⟨v, H', I', r, q⟩ => ⟨v, H', I'.unwish, r, q⟩) fun _ _ z => False.elim z
theorem PT.nox {e : Expr} {t : TT} (h : PT X.nox e t) : PT X e t := fun pins s σ H Q I hw =>
  wpAny_mono (h pins s σ H Q (I.wish _) hw) (fun _ _ ⟨H', I', q⟩ => ⟨H', I'.unwish, q⟩) fun _ _ z => False.elim z
theorem PSs.nox {st : List Stmt} {t : TS} (h : PSs X.nox st t) : PSs X st t := fun pins s σ H D I hw =>
  wpAny_mono (h pins s σ H D (I.wish _) hw) (fun _ _ q => q.unwish) fun _ _ z => False.elim z
end
section
variable {X : Cx} {st : Stmt} {rest : List Stmt} {t u : TS} {e : Expr} {te : TE} {pos : Pos}
noncomputable def tNext : TS := fun D σ H => D.nx σ H
noncomputable def tSeq (t u : TS) : TS := fun D σ H => t { D with nx := u D } σ H
theorem pss_nil : PSs X [] tNext := fun _ _ σ H _ I h => wpAny_execs_nil ⟨σ, H, I, h⟩
theorem pss_cons (h1 : PS X st t) (h2 : PSs X rest u) : PSs X (st :: rest) (tSeq t u) := by
  intro pins s σ H D I h
  refine wpAny_execs_cons (thn (h1 pins s σ H { D with nx := u D } I h) fun f s1 q => ?_)
  cases f with
  | next =>
    obtain ⟨σ', H', I', q⟩ := q
    exact h2 pins s1 σ' H' D I' q
  | ret v => exact q
  | brk => exact q
  | cont => exact q
theorem pss_one (h1 : PS X st t) : PSs X [st] t := by
  intro pins s σ H D I h
  refine wpAny_execs_cons (thn (h1 pins s σ H D I h) fun f s1 q => ?_)
  cases f with
  | next => exact wpAny_execs_nil q
  | ret v => exact q
  | brk => exact q
  | cont => exact q
noncomputable def tBreak : TS := fun D σ H => D.bk σ H
theorem ps_break : PS X (.Break pos) tBreak := fun _ _ σ H _ I h => wpAny_Break ⟨σ, H, I, h⟩
theorem Inv.quiet {pins : List (Addr × Obj)} {σ : St} {H : Hp} {s : Shared} (I : Inv X pins σ H s) : interactive X.env = false := by simp [interactive, I.ok.kind]
noncomputable def tDrop (te : TE) : TS := fun D σ H => te σ H fun _ H1 => D.nx σ H1
theorem ps_expr (he : PE X e te) (hs : swapsWith e none pos.line X.env = pure false := by rfl) : PS X (.Expr e pos) (tDrop te) := by
  intro pins s σ H D I h
  exact wpAny_Expr_any (thn (he pins s σ H _ I h) fun v s1 ⟨x, H1, I1, r1, q1⟩ => ⟨σ, H1, I1, q1⟩) I.quiet hs
noncomputable def tRet (te : TE) : TS := fun D σ H => te σ H D.rt
theorem ps_ret (he : PE X e te) : PS X (.Return (some e) pos) (tRet te) := by
  intro pins s σ H D I h
  exact wpAny_Return_some (thn (he pins s σ H _ I h) fun v s1 ⟨x, H1, I1, r1, q1⟩ => ⟨x, σ, H1, I1, r1, q1⟩)
noncomputable def tIfS (c : TT) (t u : TS) : TS := fun D σ H => c σ H fun b H1 => if b = true then t D σ H1 else u D σ H1
theorem ps_if {c : Expr} {a b : List Stmt} {tc : TT} (hc : PT X c tc) (ha : PSs X a t) (hb : PSs X b u) : PS X (.If c a b pos) (tIfS tc t u) := by
  intro pins s σ H D I h
  refine wpAny_If (thn (hc pins s σ H _ I h) fun d s1 ⟨H1, I1, q1⟩ => ?_)
  cases d with
  | true => exact ha pins s1 σ H1 D I1 q1
  | false => exact hb pins s1 σ H1 D I1 q1
end
noncomputable abbrev TG := V → St → Hp → (St → Hp → Prop) → Prop
noncomputable def PG (X : Cx) (target : Expr) (t : TG) : Prop :=
  ∀ (pins : List (Addr × Obj)) (s : Shared) (σ : St) (H : Hp) (v : V) (u : Value) (Q : St → Hp → Prop), Inv X pins σ H s → RelV v u → t v σ H Q →
    wpAny (model X.prog X.w) X.A (assign target X.env u) (fun _ s' => ∃ σ' H', Inv X pins σ' H' s' ∧ Q σ' H') X.xe s
section
variable {X : Cx} {pos : Pos}
noncomputable def gName (i : Nat) : TG := fun v σ H Q => Q (σ.set i (some v)) H
theorem pg_name {i : Nat} {x : Str} (hN : X.N.Nodup) (hi : X.N[i]? = some x) (hx : Loc X.env.scope x) (hf : X.fn x = true ∨ X.env.scope.names.lookup x = some .local := by first | exact .inl rfl | exact .inr rfl | assumption) : PG X (.Name x pos) (gName i) := by
  intro pins s σ H v u Q I r h
  exact wpAny_assign_Name (store_ok I hN hi hx r (fun s' I' => ⟨_, H, I', h⟩) hf)
noncomputable def tAsg (te : TE) (g : TG) : TS := fun D σ H => te σ H fun x H1 => g x σ H1 D.nx
theorem ps_set {i : Nat} {x : Str} {e : Expr} {te : TE} {pos' : Pos} (hN : X.N.Nodup) (hi : X.N[i]? = some x) (hx : Loc X.env.scope x) (he : PE X e te) (hs : swapsWith e (some (.Name x pos')) pos.line X.env = pure false := by rfl) (hf : X.fn x = true ∨ X.env.scope.names.lookup x = some .local := by first | exact .inl rfl | exact .inr rfl | assumption) :
    PS X (.Assign [.Name x pos'] e pos) (tAsg te (gName i)) := by
  intro pins s σ H D I h
  refine wpAny_Assign_Name (thn (he pins s σ H _ I h) fun v s1 ⟨y, H1, I1, r1, q1⟩ => ?_) hs
  exact store_ok I1 hN hi hx r1 (fun s2 I2 => ⟨_, H1, I2, q1⟩) hf
end
section
variable {X : Cx} {pos : Pos}
noncomputable def tWhile (c : TT) (tb : TS) : TS := fun D σ H => ∃ W : Nat → St → Hp → Prop, (∃ m, W m σ H) ∧ ∀ m σ H, W m σ H →
  c σ H fun b H1 => if b = true then ∃ N : St → Hp → Prop, (∀ σ' H', N σ' H' → ∃ m', m' < m ∧ W m' σ' H') ∧ tb { D with nx := N, ct := N, bk := D.nx } σ H1 else D.nx σ H1
theorem ps_while {c : Expr} {body : List Stmt} {tc : TT} {tb : TS} (hp : PassesOwn (model X.prog X.w) X.A X.env X.xe) (hc : PT X c tc) (hb : PSs X body tb) : PS X (.While c body [] pos) (tWhile tc tb) := by
  intro pins s σ H D I h
  obtain ⟨W, ⟨m0, w0⟩, turn⟩ := h
  refine wpAny_While (codeAny_whileLoop (fun n s' => ∃ σ' H', Inv X pins σ' H' s' ∧ W n σ' H') ?_ m0 ⟨σ, H, I, w0⟩)
  rintro n s1 ⟨σ1, H1, I1, w1⟩
  refine wpAny_passesOwn hp (thn (hc pins s1 σ1 H1 _ I1 (turn n σ1 H1 w1)) fun b s2 ⟨H2, I2, q2⟩ => ?_)
  cases b with
  | true =>
    obtain ⟨N, hN, q2⟩ := q2
    rw [if_pos rfl]
    refine wpAny_passesOwn hp (thn (hb pins s2 σ1 H2 _ I2 q2) fun f s3 q3 => ?_)
    cases f with
    | next =>
      obtain ⟨σ3, H3, I3, n3⟩ := q3
      obtain ⟨m', hm, w3⟩ := hN σ3 H3 n3
      exact ⟨m', hm, σ3, H3, I3, w3⟩
    | cont =>
      obtain ⟨σ3, H3, I3, n3⟩ := q3
      obtain ⟨m', hm, w3⟩ := hN σ3 H3 n3
      exact ⟨m', hm, σ3, H3, I3, w3⟩
    | brk => exact q3
    | ret v => exact q3
  | false =>
    rw [if_neg Bool.false_ne_true]
    exact wpAny_execs_nil ⟨σ1, H2, I2, q2⟩
end
structure It where
  go : Nat → Hp → Prop
  yld : Nat → Hp → V → Hp → Prop
  stop : Nat → Hp → Prop
noncomputable def FpOk (X : Cx) (pins : List (Addr × Obj)) (H : Hp) (b : Addr) : Prop :=
  H b = none ∧ b ≠ X.env.locals ∧ b ∉ X.fs ∧ (b ∈ X.ex ∨ X.s₀.heap.objs.size ≤ b) ∧ (∀ x c, X.env.cells.lookup x = some c → c ≠ b) ∧ ∀ p ∈ X.pn ++ pins, p.1 ≠ b
theorem Inv.fpOk {X : Cx} {pins : List (Addr × Obj)} {σ : St} {H H' : Hp} {s : Shared} {b : Addr} (I : Inv X pins σ H s) (hb : s.heap.objs.size ≤ b) (hn : H' b = none) : FpOk X pins H' b := by
  refine ⟨hn, Nat.ne_of_gt (Nat.lt_of_lt_of_le I.lt hb), I.nofs hb, .inr (Nat.le_trans I.sz hb), fun x c e z => ?_, fun p hp z => ?_⟩
  · obtain ⟨v, q⟩ := I.cell x c e
    exact absurd (Nat.lt_of_lt_of_le q.lt (by rw [z]; exact hb)) (Nat.lt_irrefl _)
  · exact absurd (Nat.lt_of_lt_of_le (Heap.lt_size (I.pin p hp).1) (by rw [z]; exact hb)) (Nat.lt_irrefl _)
structure Turn (P : Program) (w : World) (K : PySem.W.Frag) (tg : Expr) (J : It) (fp : List Addr) (it : Addr) (tn : Nat → Heap → Prop) : Prop where
  mem : it ∈ fp
  obj : ∀ i h, tn i h → ∀ b ∈ fp, ∃ o, h.get? b = some o ∧ ∀ v, o.data ≠ .cell v
  keep : ∀ i h h', tn i h → (∀ b ∈ fp, ∀ o, h.get? b = some o → h'.get? b = some o) → tn i h'
  item : ∀ (X : Cx), X.prog = P → X.w = w → X.K = K → X.calm = true → ∀ (i : Nat) (pins : List (Addr × Obj)) (s : Shared) (σ : St) (H : Hp) (E : Value → Shared → Prop), Inv X pins σ H s → (∀ b ∈ fp, FpOk X pins H b) → tn i s.heap → J.go i H →
    wpAny (model P w) X.A (pyNext (.ref it)) (fun r s1 => ∃ u, r = some u ∧
      wpAny (model P w) X.A (letOwnedTupleGo tg (.ref it) u) (fun _ s2 => ∃ x H', Inv X pins σ H' s2 ∧ RelV x u ∧ J.yld i H x H' ∧ tn (i + 1) s2.heap ∧ ∀ b ∈ fp, H' b = none) E s1) E s
  done : ∀ (X : Cx), X.prog = P → X.w = w → X.K = K → X.calm = true → ∀ (i : Nat) (pins : List (Addr × Obj)) (s : Shared) (σ : St) (H : Hp) (E : Value → Shared → Prop), Inv X pins σ H s → (∀ b ∈ fp, FpOk X pins H b) → tn i s.heap → J.stop i H →
    wpAny (model P w) X.A (pyNext (.ref it)) (fun r s1 => r = none ∧ Inv X pins σ H s1) E s
  self : ∀ (A : Around) (i : Nat) (s : Shared) (Q : Value → Shared → Prop) (E : Value → Shared → Prop), tn i s.heap → Q (.ref it) s → wpAny (model P w) A (pyIter (.ref it)) Q E s
noncomputable abbrev TI := St → Hp → (It → Hp → Prop) → Prop
noncomputable def PIE (X : Cx) (pins : List (Addr × Obj)) (σ : St) (tg : Expr) (R : It → Hp → Prop) (itv : Value) (s2 : Shared) : Prop :=
  ∃ (it : Addr) (fp : List Addr) (tn : Nat → Heap → Prop) (J : It) (H' : Hp), itv = .ref it ∧ Inv X pins σ H' s2 ∧ Turn X.prog X.w X.K tg J fp it tn ∧ tn 0 s2.heap ∧ (∀ b ∈ fp, FpOk X pins H' b) ∧ R J H'
noncomputable def PI (X : Cx) (tg iter : Expr) (wi : TI) : Prop :=
  ∀ (pins : List (Addr × Obj)) (s : Shared) (σ : St) (H : Hp) (R : It → Hp → Prop), Inv X pins σ H s → wi σ H R →
    wpAny (model X.prog X.w) X.A (eval iter X.env) (fun v s1 => wpAny (model X.prog X.w) X.A (pyIter v) (PIE X pins σ tg R) X.xe s1) X.xe s
theorem go_of {M : Model} {A : Around} {E : Value → Shared → Prop} {s : Shared} {tg : Expr} {it : Addr} {u : Value} {o : Obj} {n : String} {vs : Array Value} {Q : Unit → Shared → Prop} (ho : s.heap.get? it = some o) (hc : o.cls = .type n) (hd : o.data = .fields vs)
    (hn : ["enumerate", "zip", "dict_itemiterator", "dict_reverseitemiterator", "odict_iterator", "itertools.zip_longest", "itertools.pairwise"].contains n = false) (hQ : Q () s) : wpAny M A (letOwnedTupleGo tg (.ref it) u) Q E s := by
  unfold letOwnedTupleGo
  cases tg <;> first
    | exact wpAny_pure hQ
    | (cases u <;> first
        | exact wpAny_pure hQ
        | (refine wpAny_bind (wpAny_load ho ?_)
           rw [hc, hd]
           show wpAny M A (if (["enumerate", "zip", "dict_itemiterator", "dict_reverseitemiterator", "odict_iterator", "itertools.zip_longest", "itertools.pairwise"].contains n && vs[0]? == some (rawInt _)) = true then _ else _) Q E s
           rw [if_neg (by intro h; rw [hn, Bool.false_and] at h; cases h)]
           exact wpAny_pure hQ))
noncomputable def Itl (K : PySem.W.Frag) (a : Addr) : It :=
  ⟨fun i H => ∃ xs x, SqL K H a xs ∧ xs[i]? = some x, fun i H x H' => H' = H ∧ ∀ xs, SqL K H a xs → xs[i]? = some x, fun i H => ∃ xs, SqL K H a xs ∧ xs.length ≤ i⟩
noncomputable def Itt (K : PySem.W.Frag) (a : Addr) : It :=
  ⟨fun i H => ∃ xs x, SqT K H a xs ∧ xs[i]? = some x, fun i H x H' => H' = H ∧ ∀ xs, SqT K H a xs → xs[i]? = some x, fun i H => ∃ xs, SqT K H a xs ∧ xs.length ≤ i⟩
theorem turn_list {P : Program} {w : World} {K : PySem.W.Frag} {tg : Expr} (a it : Addr) : Turn P w K tg (Itl K a) [it] it (fun i h => h.IsListIter it a i) where
  mem := by simp
  obj := fun i h st b hb => by
    have e : b = it := by simpa using hb
    subst e
    obtain ⟨o, e, c, d⟩ := st
    exact ⟨o, e, fun v z => by rw [d] at z; cases z⟩
  keep := fun i h h' st k => st.at fun o e => k it (by simp) o e
  item := by
    intro X hP hw hK hc i pins s σ H E I hf st hg
    subst hP hw hK
    obtain ⟨xs, x, hq, hx⟩ := hg
    obtain ⟨its, rv, p, hz⟩ := I.list hq
    obtain ⟨u, hu, ru⟩ := rv.get hx
    obtain ⟨f0, f1, f2, f3, f4, f5⟩ := hf it (by simp)
    refine wpAny_pyNext_list_item st p.isList (x := u) (by simpa using hu) fun h' st' sb => ?_
    have I1 : Inv X pins σ H { s with heap := h' } := I.turned (t' := s.toks) (fun b o hb e => (sb.2 b hb).trans e) f0 f1 f3 f4 f5
    obtain ⟨o, e, c, d⟩ := id st'
    exact ⟨u, rfl, go_of (s := { s with heap := h' }) e c d (by decide) ⟨x, H, I1, ru, ⟨rfl, fun ys hy => by rw [I.list_inj hy hq]; exact hx⟩, st', fun b hb => (hf b hb).1⟩⟩
  done := by
    intro X hP hw hK hc i pins s σ H E I hf st hg
    subst hP hw hK
    obtain ⟨xs, hq, hx⟩ := hg
    obtain ⟨its, rv, p, hz⟩ := I.list hq
    obtain ⟨f0, f1, f2, f3, f4, f5⟩ := hf it (by simp)
    have hl := rv.length
    exact wpAny_pyNext_list_end (I.ok.hd hc) st p.isList (by simp; omega) fun h' eb => ⟨rfl, I.turned (t' := s.toks) (fun b o hb e => eb b o hb e) f0 f1 f3 f4 f5⟩
  self := fun _ _ _ _ _ st h => wpAny_pyIter_listiter st h
theorem turn_tuple {P : Program} {w : World} {K : PySem.W.Frag} {tg : Expr} (a it : Addr) : Turn P w K tg (Itt K a) [it] it (fun i h => h.IsTupleIter it a i) where
  mem := by simp
  obj := fun i h st b hb => by
    have e : b = it := by simpa using hb
    subst e
    obtain ⟨o, e, c, d⟩ := st
    exact ⟨o, e, fun v z => by rw [d] at z; cases z⟩
  keep := fun i h h' st k => st.at fun o e => k it (by simp) o e
  item := by
    intro X hP hw hK hc i pins s σ H E I hf st hg
    subst hP hw hK
    obtain ⟨xs, x, hq, hx⟩ := hg
    obtain ⟨its, rv, p, hz⟩ := I.tuple hq
    obtain ⟨u, hu, ru⟩ := rv.get hx
    obtain ⟨f0, f1, f2, f3, f4, f5⟩ := hf it (by simp)
    refine wpAny_pyNext_tuple_item st (show s.heap.IsTuple a its.toArray from p) (x := u) (by simpa using hu) fun h' st' sb => ?_
    have I1 : Inv X pins σ H { s with heap := h' } := I.turned (t' := s.toks) (fun b o hb e => (sb.2 b hb).trans e) f0 f1 f3 f4 f5
    obtain ⟨o, e, c, d⟩ := id st'
    exact ⟨u, rfl, go_of (s := { s with heap := h' }) e c d (by decide) ⟨x, H, I1, ru, ⟨rfl, fun ys hy => by rw [I.tuple_inj hy hq]; exact hx⟩, st', fun b hb => (hf b hb).1⟩⟩
  done := by
    intro X hP hw hK hc i pins s σ H E I hf st hg
    subst hP hw hK
    obtain ⟨xs, hq, hx⟩ := hg
    obtain ⟨its, rv, p, hz⟩ := I.tuple hq
    obtain ⟨f0, f1, f2, f3, f4, f5⟩ := hf it (by simp)
    have hl := rv.length
    exact wpAny_pyNext_tuple_end (I.ok.hd hc) st (show s.heap.IsTuple a its.toArray from p) (by simp; omega) fun h' eb => ⟨rfl, I.turned (t' := s.toks) (fun b o hb e => eb b o hb e) f0 f1 f3 f4 f5⟩
  self := fun _ _ _ _ _ st h => wpAny_pyIter_tupleiter st h
end L2
namespace L2
open PySem PySem.Spec PyProof.Rows
section
variable {X : Cx} {tg : Expr}
noncomputable def iList (K : PySem.W.Frag) (tl : TE) : TI := fun σ H R => tl σ H fun x H1 => ∃ a, x = .ref a ∧ (∃ xs, SqL K H1 a xs) ∧ R (Itl K a) H1
noncomputable def iTup (K : PySem.W.Frag) (tl : TE) : TI := fun σ H R => tl σ H fun x H1 => ∃ a, x = .ref a ∧ (∃ xs, SqT K H1 a xs) ∧ R (Itt K a) H1
theorem pi_list {l : Expr} {tl : TE} (hl : PE X l tl) : PI X tg l (iList X.K tl) := by
  intro pins s σ H R I h
  refine thn (hl pins s σ H _ I h) fun v s1 ⟨x, H1, I1, r1, q1⟩ => ?_
  obtain ⟨a, e, ⟨xs, hq⟩, q⟩ := q1
  subst e
  cases r1
  obtain ⟨its, rv, p, hz⟩ := I1.list hq
  refine wpAny_pyIter_list p.isList ?_
  refine ⟨s1.heap.objs.size, [s1.heap.objs.size], _, _, H1, rfl, I1.kept (t' := s1.toks) fun b o e => Heap.get?_push_of_some _ e, turn_list a _, ⟨_, Heap.get?_push_size _ rfl, rfl, rfl⟩, fun b hb => ?_, q⟩
  have e : b = s1.heap.objs.size := by simpa using hb
  subst e
  exact I1.fpOk (Nat.le_refl _) (I1.hok.fresh (Nat.le_refl _))
theorem pi_tup {l : Expr} {tl : TE} (hl : PE X l tl) : PI X tg l (iTup X.K tl) := by
  intro pins s σ H R I h
  refine thn (hl pins s σ H _ I h) fun v s1 ⟨x, H1, I1, r1, q1⟩ => ?_
  obtain ⟨a, e, ⟨xs, hq⟩, q⟩ := q1
  subst e
  cases r1
  obtain ⟨its, rv, p, hz⟩ := I1.tuple hq
  refine wpAny_pyIter_tuple (show s1.heap.IsTuple a its.toArray from p) ?_
  refine ⟨s1.heap.objs.size, [s1.heap.objs.size], _, _, H1, rfl, I1.kept (t' := s1.toks) fun b o e => Heap.get?_push_of_some _ e, turn_tuple a _, ⟨_, Heap.get?_push_size _ rfl, rfl, rfl⟩, fun b hb => ?_, q⟩
  have e : b = s1.heap.objs.size := by simpa using hb
  subst e
  exact I1.fpOk (Nat.le_refl _) (I1.hok.fresh (Nat.le_refl _))
noncomputable def tFor (wi : TI) (g : TG) (tb : TS) : TS := fun D σ H => wi σ H fun J H1 => ∃ W : Nat → Nat → St → Hp → Prop, (∃ m, W 0 m σ H1) ∧ ∀ i m σ H, W i m σ H →
  (J.stop i H ∧ D.nx σ H) ∨ (J.go i H ∧ ∃ N : St → Hp → Prop, (∀ σ' H', N σ' H' → ∃ m', m' < m ∧ W (i + 1) m' σ' H') ∧ ∀ x H', J.yld i H x H' → g x σ H' fun σ2 H2 => tb { D with nx := N, ct := N, bk := D.nx } σ2 H2)
noncomputable def pinsAt (fp : List Addr) (h : Heap) : List (Addr × Obj) := fp.filterMap fun b => (h.get? b).map fun o => (b, o)
theorem mem_pinsAt {fp : List Addr} {h : Heap} {b : Addr} {o : Obj} (hb : b ∈ fp) (e : h.get? b = some o) : (b, o) ∈ pinsAt fp h := List.mem_filterMap.mpr ⟨b, hb, by rw [e]; rfl⟩
theorem of_pinsAt {fp : List Addr} {h : Heap} {p : Addr × Obj} (hp : p ∈ pinsAt fp h) : p.1 ∈ fp ∧ h.get? p.1 = some p.2 := by
  obtain ⟨b, hb, e⟩ := List.mem_filterMap.mp hp
  cases q : h.get? b with
  | none => rw [q] at e; cases e
  | some o =>
    rw [q] at e
    have e' : (b, o) = p := Option.some.inj e
    subst e'
    exact ⟨hb, q⟩
theorem Inv.pinned {pins : List (Addr × Obj)} {σ : St} {H : Hp} {s : Shared} {fp : List Addr} (I : Inv X pins σ H s) (hf : ∀ b ∈ fp, FpOk X pins H b) (ho : ∀ b ∈ fp, ∃ o, s.heap.get? b = some o ∧ ∀ v, o.data ≠ .cell v) : Inv X (pins ++ pinsAt fp s.heap) σ H s :=
  I.pins_of fun p hp => (List.mem_append.mp hp).elim (fun z => I.pin p (List.mem_append_right _ z)) fun z => by
    obtain ⟨hb, e⟩ := of_pinsAt z
    obtain ⟨f0, f1, f2, _⟩ := hf p.1 hb
    obtain ⟨o, e', d⟩ := ho p.1 hb
    rw [e] at e'; cases e'
    exact ⟨e, f0, f1, f2, d⟩
theorem Inv.unpinned {pins pl : List (Addr × Obj)} {σ : St} {H : Hp} {s : Shared} (I : Inv X (pins ++ pl) σ H s) : Inv X pins σ H s := I.pins_of fun p hp => I.pin p (List.mem_append_right _ (List.mem_append_left _ hp))
theorem ps_for {iter : Expr} {body : List Stmt} {wi : TI} {g : TG} {tb : TS} {pos : Pos} (hp : PassesOwn (model X.prog X.w) X.A X.env X.xe) (hc : X.calm = true) (hi : PI X tg iter wi) (hg : PG X tg g) (hb : PSs X body tb)
    (hs : ∀ x, foldedSetIterable iter X.env x = pure x := by intro _; rfl) : PS X (.For tg iter body [] pos) (tFor wi g tb) := by
  intro pins s σ H D I h
  refine wpAny_For (thn (hi pins s σ H _ I h) fun v s1 h1 => thn h1 fun itv s2 h2 => ?_) hs
  obtain ⟨it, fp, tn, J, H2, e, I2, T, st2, f2, W, ⟨m0, w0⟩, turn⟩ := h2
  subst e
  -- what stays true of the iterator's objects through the loop
  have stat : ∀ {H' : Hp}, (∀ b ∈ fp, H' b = none) → ∀ b ∈ fp, FpOk X pins H' b := fun hn b hb => ⟨hn b hb, (f2 b hb).2⟩
  refine codeAny_forLoop_any (fun n s' => ∃ i σ' H', Inv X pins σ' H' s' ∧ tn i s'.heap ∧ (∀ b ∈ fp, H' b = none) ∧ W i n σ' H') ?_ m0 ⟨0, σ, H2, I2, st2, fun b hb => (f2 b hb).1, w0⟩
  rintro n s3 ⟨i, σ3, H3, I3, st3, fr3, w3⟩
  rcases turn i n σ3 H3 w3 with ⟨stop, qn⟩ | ⟨go, N, hN, step⟩
  · refine wpAny_passesOwn hp (thn (T.done X rfl rfl rfl hc i pins s3 σ3 H3 X.xe I3 (stat fr3) st3 stop) fun r s4 ⟨hr, I4⟩ => ?_)
    subst hr
    exact wpAny_execs_nil ⟨σ3, H3, I4, qn⟩
  · refine wpAny_passesOwn hp (thn (T.item X rfl rfl rfl hc i pins s3 σ3 H3 X.xe I3 (stat fr3) st3 go) fun r s4 ⟨u, hr, h4⟩ => ?_)
    subst hr
    refine wpAny_passesOwn hp (thn h4 fun _ s5 ⟨x, H5, I5, r5, y5, st5, fr5⟩ => ?_)
    have I5' := I5.pinned (stat fr5) (T.obj _ _ st5)
    refine wpAny_passesOwn hp (thn (hg _ s5 σ3 H5 x u _ I5' r5 (step x H5 y5)) fun _ s6 ⟨σ6, H6, I6, q6⟩ => ?_)
    refine wpAny_passesOwn hp (thn (hb _ s6 σ6 H6 _ I6 q6) fun f s7 q7 => ?_)
    have again : ∀ {σ7 : St} {H7 : Hp}, Inv X (pins ++ pinsAt fp s5.heap) σ7 H7 s7 → N σ7 H7 → ∃ m, m < n ∧ ∃ i σ' H', Inv X pins σ' H' s7 ∧ tn i s7.heap ∧ (∀ b ∈ fp, H' b = none) ∧ W i m σ' H' := fun {σ7 H7} I7 n7 => by
      obtain ⟨m', hm, w7⟩ := hN σ7 H7 n7
      refine ⟨m', hm, i + 1, σ7, H7, I7.unpinned, T.keep _ _ _ st5 fun b hb o e => (I7.pin (b, o) (List.mem_append_right _ (List.mem_append_right _ (mem_pinsAt hb e)))).1, fun b hb => ?_, w7⟩
      obtain ⟨o, e, d⟩ := T.obj _ _ st5 b hb
      exact (I7.pin (b, o) (List.mem_append_right _ (List.mem_append_right _ (mem_pinsAt hb e)))).2.1
    cases f with
    | next => obtain ⟨σ7, H7, I7, n7⟩ := q7; exact again I7 n7
    | cont => obtain ⟨σ7, H7, I7, n7⟩ := q7; exact again I7 n7
    | brk => obtain ⟨σ7, H7, I7, q7⟩ := q7; exact ⟨σ7, H7, I7.unpinned, q7⟩
    | ret v => obtain ⟨x7, σ7, H7, I7, r7, q7⟩ := q7; exact ⟨x7, σ7, H7, I7.unpinned, r7, q7⟩
end
end L2
namespace L2
open PySem PySem.Spec PyProof.Rows
noncomputable abbrev R2 := V → V → Hp → VK → Prop
noncomputable def OpR (X : Cx) (f : Value → Value → Sem Value) (r : R2) : Prop :=
  ∀ (pins : List (Addr × Obj)) (s : Shared) (σ : St) (H : Hp) (x y : V) (v u : Value) (Q : VK), Inv X pins σ H s → RelV x v → RelV y u → r x y H Q →
    wpAny (model X.prog X.w) X.A (f v u) (EP X pins σ Q) X.xe s
noncomputable def CallR (X : Cx) (f : Value) (r : List V → Hp → VK → Prop) : Prop :=
  ∀ (pins : List (Addr × Obj)) (s : Shared) (σ : St) (H : Hp) (xs : List V) (us : List Value) (Q : VK), Inv X pins σ H s → Vals xs us → r xs H Q →
    wpAny (model X.prog X.w) X.A (call f us) (EP X pins σ Q) X.xe s
noncomputable def tOp (r : R2) (ta tb : TE) : TE := fun σ H Q => ta σ H fun x H1 => tb σ H1 fun y H2 => r x y H2 Q
noncomputable def rI (C : Int → Int → Prop) (g : Int → Int → V) : R2 := fun x y H Q => ∃ i j, x = .int i ∧ y = .int j ∧ C i j ∧ Q (g i j) H
noncomputable def rI0 (g : Int → Int → V) : R2 := fun x y H Q => ∃ i j, x = .int i ∧ y = .int j ∧ Q (g i j) H
section
variable {X : Cx} {a b c : Expr} {ta tb tc : TE} {pos : Pos}
theorem binT (ha : PE X a ta) (hb : PE X b tb) {pins : List (Addr × Obj)} {s : Shared} {σ : St} {H : Hp} {R : V → V → Hp → Prop} (I : Inv X pins σ H s)
    (h : ta σ H fun x H1 => tb σ H1 fun y H2 => R x y H2) {Q : Value → Shared → Prop} {f : Value → Value → Sem Value}
    (hf : ∀ v u s2 x y H2, Inv X pins σ H2 s2 → RelV x v → RelV y u → R x y H2 → wpAny (model X.prog X.w) X.A (f v u) Q X.xe s2) :
    wpAny (model X.prog X.w) X.A (eval a X.env) (fun v s₁ => wpAny (model X.prog X.w) X.A (eval b X.env) (fun u s₂ => wpAny (model X.prog X.w) X.A (f v u) Q X.xe s₂) X.xe s₁) X.xe s := by
  refine thn (ha pins s σ H _ I h) fun v s1 ⟨x, H1, I1, r1, q1⟩ => ?_
  refine thn (hb pins s1 σ H1 _ I1 q1) fun u s2 ⟨y, H2, I2, r2, q2⟩ => ?_
  exact hf v u s2 x y H2 I2 r1 r2 q2
theorem pe_op {op : Operator} {r : R2} (ho : OpR X (binaryOp op) r) (ha : PE X a ta) (hb : PE X b tb) : PE X (.BinOp a op b pos) (tOp r ta tb) := by
  intro pins s σ H Q I h
  exact wpAny_BinOp (binT ha hb I h fun v u s2 x y H2 I2 rx ry q => ho pins s2 σ H2 x y v u Q I2 rx ry q)
theorem opI {f : Value → Value → Sem Value} {C : Int → Int → Prop} {g : Int → Int → Int}
    (rule : ∀ (i j : Int) (t u : Tok) (s : Shared) (Q : Value → Shared → Prop) (E : Value → Shared → Prop), C i j → Q (.int (g i j) s.toks) { s with toks := s.toks + 1 } → wpAny (model X.prog X.w) X.A (f (.int i t) (.int j u)) Q E s) :
    OpR X f (rI C fun i j => .int (g i j)) := by
  intro pins s σ H x y v u Q I rx ry h
  obtain ⟨i, j, rfl, rfl, hc, q⟩ := h
  obtain ⟨t, rfl⟩ := rx
  obtain ⟨t', rfl⟩ := ry
  exact rule i j t t' s _ _ hc ⟨.int (g i j), H, I.tok _, ⟨_, rfl⟩, q⟩
theorem opI0 {f : Value → Value → Sem Value} {g : Int → Int → Int}
    (rule : ∀ (i j : Int) (t u : Tok) (s : Shared) (Q : Value → Shared → Prop) (E : Value → Shared → Prop), Q (.int (g i j) s.toks) { s with toks := s.toks + 1 } → wpAny (model X.prog X.w) X.A (f (.int i t) (.int j u)) Q E s) :
    OpR X f (rI0 fun i j => .int (g i j)) := by
  intro pins s σ H x y v u Q I rx ry h
  obtain ⟨i, j, rfl, rfl, q⟩ := h
  obtain ⟨t, rfl⟩ := rx
  obtain ⟨t', rfl⟩ := ry
  exact rule i j t t' s _ _ ⟨.int (g i j), H, I.tok _, ⟨_, rfl⟩, q⟩
theorem opB0 {f : Value → Value → Sem Value} {g : Int → Int → Bool}
    (rule : ∀ (i j : Int) (t u : Tok) (s : Shared) (Q : Value → Shared → Prop) (E : Value → Shared → Prop), Q (.bool (g i j)) s → wpAny (model X.prog X.w) X.A (f (.int i t) (.int j u)) Q E s) :
    OpR X f (rI0 fun i j => .bl (g i j)) := by
  intro pins s σ H x y v u Q I rx ry h
  obtain ⟨i, j, rfl, rfl, q⟩ := h
  obtain ⟨t, rfl⟩ := rx
  obtain ⟨t', rfl⟩ := ry
  exact rule i j t t' s _ _ ⟨.bl (g i j), H, I, rfl, q⟩
noncomputable def CPow (i j : Int) : Prop := 0 ≤ j ∧ j ≤ 1000000 ∧ i.natAbs < 2 ^ 64
noncomputable def CMul (i j : Int) : Prop := (-(2 ^ 64) < i ∧ i < 2 ^ 64) ∨ (-(2 ^ 64) < j ∧ j < 2 ^ 64)
theorem CMul.ok {i j : Int} (h : CMul i j) : IntMulOk i j := by
  rcases h with ⟨h1, h2⟩ | ⟨h1, h2⟩
  · exact .of_left (intBits_le_64 h1 h2)
  · exact .of_right (intBits_le_64 h1 h2)
theorem op_add : OpR X (binaryOp .Add) (rI0 fun i j => .int (i + j)) := opI0 fun _ _ _ _ _ _ _ q => add_int q
theorem op_sub : OpR X (binaryOp .Sub) (rI0 fun i j => .int (i - j)) := opI0 fun _ _ _ _ _ _ _ q => sub_int q
theorem op_mul : OpR X (binaryOp .Mult) (rI CMul fun i j => .int (i * j)) := opI fun _ _ _ _ _ _ _ hc q => mul_int q hc.ok
theorem op_modN : OpR X (binaryOp .Mod) (rI (fun _ j => j ≠ 0) fun i j => .int (i.fmod j)) := opI fun _ _ _ _ _ _ _ hc q => mod_int' hc q
theorem op_pow : OpR X (binaryOp .Pow) (rI CPow fun i j => .int (i ^ j.toNat)) := opI fun _ _ _ _ _ _ _ hc q => pow_int_small hc.1 hc.2.1 hc.2.2 q
end
noncomputable def scal : V → V → Bool
  | .non, .non => true | .non, .int _ => true | .int _, .non => true | .non, .bl _ => true | .bl _, .non => true | .non, .str _ => true | .str _, .non => true
  | .int _, .int _ => true | .bl _, .bl _ => true | .str _, .str _ => true | .byt _, .byt _ => true
  | .int _, .str _ => true | .str _, .int _ => true | .bl _, .str _ => true | .str _, .bl _ => true
  | _, _ => false
noncomputable def rEq : R2 := fun x y H Q => scal x y = true ∧ Q (.bl (decide (x = y))) H
theorem dec_int {i j : Int} : decide (V.int i = V.int j) = (i == j) := by
  rw [Bool.eq_iff_iff]
  simp
theorem dec_bl {i j : Bool} : decide (V.bl i = V.bl j) = (i == j) := by
  rw [Bool.eq_iff_iff]
  simp
theorem dec_str {i j : Str} : decide (V.str i = V.str j) = (i == j) := by
  rw [Bool.eq_iff_iff]
  simp
theorem dec_byt {i j : Array UInt8} : decide (V.byt i = V.byt j) = (i.toList == j.toList) := by
  rw [Bool.eq_iff_iff]
  cases i
  cases j
  simp
section
variable {X : Cx} {a b c : Expr} {ta tb tc : TE} {pos : Pos}
theorem fin_bl {pins : List (Addr × Obj)} {σ : St} {H : Hp} {s : Shared} {Q : VK} {k k' : Bool} (I : Inv X pins σ H s) (q : Q (.bl k) H) (e : k = k') : EP X pins σ Q (.bool k') s := by
  subst e
  exact ⟨.bl k, H, I, rfl, q⟩
theorem op_eq : OpR X (compareOp .Eq) rEq := by
  intro pins s σ H x y v u Q I rx ry h
  obtain ⟨hs, q⟩ := h
  cases x with
  | non =>
    cases rx
    cases y with
    | non => cases ry; exact PySem.EqNone.eq_none_none (fin_bl I q (by simp))
    | bl j => cases ry; exact PySem.EqNone.eq_none_bool (fin_bl I q (by simp))
    | int j => obtain ⟨t', rfl⟩ := ry; exact PySem.EqNone.eq_none_int (fin_bl I q (by simp))
    | str j => obtain ⟨t', rfl⟩ := ry; exact PySem.EqNone.eq_none_str (fin_bl I q (by simp))
    | _ => exact absurd (show false = true from hs) Bool.false_ne_true
  | bl i =>
    cases rx
    cases y with
    | non => cases ry; exact PySem.EqNone.eq_bool_none (fin_bl I q (by simp))
    | bl j => cases ry; exact eq_bool (fin_bl I q dec_bl)
    | str j => obtain ⟨t', rfl⟩ := ry; exact PySem.EqMixed.eq_bool_str (fin_bl I q (by simp))
    | _ => exact absurd (show false = true from hs) Bool.false_ne_true
  | int i =>
    obtain ⟨t, rfl⟩ := rx
    cases y with
    | non => cases ry; exact PySem.EqNone.eq_int_none (fin_bl I q (by simp))
    | int j => obtain ⟨t', rfl⟩ := ry; exact eq_int (fin_bl I q dec_int)
    | str j => obtain ⟨t', rfl⟩ := ry; exact PySem.EqMixed.eq_int_str (fin_bl I q (by simp))
    | _ => exact absurd (show false = true from hs) Bool.false_ne_true
  | str i =>
    obtain ⟨t, rfl⟩ := rx
    cases y with
    | non => cases ry; exact PySem.EqNone.eq_str_none (fin_bl I q (by simp))
    | bl j => cases ry; exact PySem.EqMixed.eq_str_bool (fin_bl I q (by simp))
    | int j => obtain ⟨t', rfl⟩ := ry; exact PySem.EqMixed.eq_str_int (fin_bl I q (by simp))
    | str j => obtain ⟨t', rfl⟩ := ry; exact eq_str (fin_bl I q dec_str)
    | _ => exact absurd (show false = true from hs) Bool.false_ne_true
  | byt i =>
    obtain ⟨t, rfl⟩ := rx
    cases y with
    | byt j => obtain ⟨t', rfl⟩ := ry; exact PySem.W.eq_bytes (fin_bl I q dec_byt)
    | _ => exact absurd (show false = true from hs) Bool.false_ne_true
  | _ => cases y <;> exact absurd (show false = true from hs) Bool.false_ne_true
theorem op_lt : OpR X (compareOp .Lt) (rI0 fun i j => .bl (decide (i < j))) := opB0 fun _ _ _ _ _ _ _ q => lt_int q
theorem op_gt : OpR X (compareOp .Gt) (rI0 fun i j => .bl (decide (j < i))) := opB0 fun _ _ _ _ _ _ _ q => gt_int q
theorem op_in_str : OpR X (compareOp .In) (fun x y H Q => ∃ i j, x = .str i ∧ y = .str j ∧ Q (.bl (!(Builtin.Str.occurrences j i 0 j.length 1).isEmpty)) H) := by
  intro pins s σ H x y v u Q I rx ry h
  obtain ⟨i, j, rfl, rfl, q⟩ := h
  obtain ⟨t, rfl⟩ := rx
  obtain ⟨t', rfl⟩ := ry
  exact in_str (fin_bl I q rfl)
theorem OpR.or {f : Value → Value → Sem Value} {r r' : R2} (h : OpR X f r) (h' : OpR X f r') : OpR X f (fun x y H Q => r x y H Q ∨ r' x y H Q) := by
  intro pins s σ H x y v u Q I rx ry q
  rcases q with q | q
  · exact h pins s σ H x y v u Q I rx ry q
  · exact h' pins s σ H x y v u Q I rx ry q
theorem nomark (b : Expr) {op : CmpOp} (h : op ≠ .In := by decide) (h2 : op ≠ .NotIn := by decide) : behindInMarks op b = false := by
  have e1 : (op == CmpOp.In) = false := by cases op <;> first | rfl | exact absurd rfl h
  have e2 : (op == CmpOp.NotIn) = false := by cases op <;> first | rfl | exact absurd rfl h2
  cases b <;> simp [behindInMarks, e1, e2]
theorem pe_cmpR {op : CmpOp} {r : R2} (ho : OpR X (compareOp op) r) (ha : PE X a ta) (hb : PE X b tb) (hm : behindInMarks op b = false) : PE X (.Compare a [op] [b] pos) (tOp r ta tb) := by
  intro pins s σ H Q I h
  exact wpAny_Compare1 (binT ha hb I h fun v u s2 x y H2 I2 rx ry q => ho pins s2 σ H2 x y v u Q I2 rx ry q) hm
noncomputable def tTest (t : TE) : TT := fun σ H Q => t σ H fun x H' => ∃ k, x = .bl k ∧ Q k H'
theorem pt_cmpR {op : CmpOp} {r : R2} (ho : OpR X (compareOp op) r) (ha : PE X a ta) (hb : PE X b tb) (hm : behindInMarks op b = false) : PT X (.Compare a [op] [b] pos) (tTest (tOp r ta tb)) := by
  intro pins s σ H Q I h
  refine wpAny_isTrue_Compare1 (thn (ha pins s σ H _ I h) fun v s1 ⟨x, H1, I1, r1, q1⟩ => thn (hb pins s1 σ H1 _ I1 q1) fun u s2 ⟨y, H2, I2, r2, q2⟩ =>
    thn (ho pins s2 σ H2 x y v u _ I2 r1 r2 q2) fun c s3 ⟨z, H3, I3, r3, k, e, q3⟩ => ?_) hm
  subst e
  cases r3
  exact wpAny_truthy_bool ⟨H3, I3, q3⟩
theorem line63 : (sizeLine : Nat) < 2 ^ 63 := by rw [sizeLine_eq]; decide
theorem op_add_str : OpR X (binaryOp .Add) (fun x y H Q => ∃ i j, x = .str i ∧ y = .str j ∧ i.length + j.length ≤ sizeLine ∧ Q (.str (i ++ j)) H) := by
  intro pins s σ H x y v u Q I rx ry h
  obtain ⟨i, j, rfl, rfl, hz, q⟩ := h
  obtain ⟨t, rfl⟩ := rx
  obtain ⟨t', rfl⟩ := ry
  exact add_str (fun t' tk => ⟨.str (i ++ j), H, I.tok _, ⟨_, rfl⟩, q⟩) hz
theorem vals1 {x : V} {us : List Value} (r : Vals [x] us) : ∃ u, us = [u] ∧ RelV x u := by
  cases r with
  | cons r1 r2 => cases r2; exact ⟨_, rfl, r1⟩
theorem vals2 {x y : V} {us : List Value} (r : Vals [x, y] us) : ∃ u w', us = [u, w'] ∧ RelV x u ∧ RelV y w' := by
  cases r with
  | cons r1 r2 =>
    cases r2 with
    | cons r3 r4 => cases r4; exact ⟨_, _, rfl, r1, r3⟩
theorem call_max2 (hc : X.calm = true) : CallR X (.builtin "max") (fun xs H Q => ∃ i j, xs = [.int i, .int j] ∧ Q (.int (if j > i then j else i)) H) := by
  intro pins s σ H xs us Q I r h
  obtain ⟨i, j, rfl, q⟩ := h
  obtain ⟨u, w', rfl, ⟨t, rfl⟩, ⟨t', rfl⟩⟩ := vals2 r
  refine max_two_ints (I.ok.hd hc) fun h' tk k => ⟨_, H, I.kept k, ?_, q⟩
  by_cases hj : j > i
  · rw [if_pos hj, if_pos hj]; exact ⟨_, rfl⟩
  · rw [if_neg hj, if_neg hj]; exact ⟨_, rfl⟩
theorem call_str_int : CallR X (.type "str") (fun xs H Q => ∃ i, xs = [.int i] ∧ i.natAbs.log2 < 1920 ∧ Q (.str (toString i)) H) := by
  intro pins s σ H xs us Q I r h
  obtain ⟨i, rfl, hz, q⟩ := h
  obtain ⟨u, rfl, t, rfl⟩ := vals1 r
  exact PySem.P.str_of_int hz ⟨.str _, H, I.tok _, ⟨_, rfl⟩, q⟩
end
end L2
namespace L2
open PySem PySem.Spec PyProof.Rows
structure ObjM (h : Heap) (x dx C : Addr) (mA : Str → Option Value) : Prop where
  obj : h.get? x = some (PySem.W.instObj C dx)
  ns : h.Ns1 dx mA
  ne : dx ≠ x
theorem lookIn_ns {h : Heap} {dx : Addr} {mA : Str → Option Value} (n : h.Ns1 dx mA) : ∃ od, h.get? dx = some od ∧ ∀ name, PySem.W.lookIn name od = some (mA name) := by
  obtain ⟨o, es, ep, ho, hd, hk, _, hm⟩ := n
  refine ⟨o, ho, fun name => ?_⟩
  have e := hm name
  unfold nsFind findBy at e
  rw [← Array.find?_toList] at e
  unfold PySem.W.lookIn
  rw [hd]
  dsimp only
  split
  · rename_i y q
    rw [q] at e
    exact congrArg some e
  · rename_i q
    rw [q] at e
    have a : es.toList.any (·.refKey) = false := by
      rw [List.any_eq_false]
      intro y hy
      obtain ⟨z, t, hkey⟩ := hk y (Array.mem_toList_iff.mp hy)
      simp [DictEntry.refKey, hkey]
    have a' : ¬ es.toList.any (·.refKey) = true := by rw [a]; exact Bool.false_ne_true
    rw [if_neg a']
    exact congrArg some e
theorem ObjM.look {h : Heap} {x dx C : Addr} {mA : Str → Option Value} (I : ObjM h x dx C mA) : ∃ od, PySem.W.InstAt h x (PySem.W.instObj C dx) C (some od) ∧ ∀ name, PySem.W.lookIn name od = some (mA name) :=
  let ⟨od, ho, hl⟩ := lookIn_ns I.ns
  ⟨od, ⟨I.obj, rfl, rfl, ho⟩, hl⟩
section
variable {prog : Program} {w : World} {A : Around} {E : Value → Shared → Prop} {s : Shared} {K : PySem.W.Frag} {x dx C f : Addr} {mA : Str → Option Value} {name : Str} {v : Value}
end
theorem RelO.some_of {v : V} {o : Option Value} (r : RelO (some v) o) : ∃ u, o = some u ∧ RelV v u := by
  cases o with
  | none => exact (show False from r).elim
  | some u => exact ⟨u, rfl, r⟩
section
variable {P : Program} {w : World} {H H' : Hp} {h h' : Heap} {a C dx : Addr} {fs fs' : List (Str × V)}
end
structure Cls (K : PySem.W.Frag) (C : Addr) : Prop where
  pg : PySem.W.plainGet K C Str.empty = true
  hd : PySem.W.hasDictIn K C = true
  po : PySem.W.plainOver K C = true
  sa : PySem.W.findIn K (.ref C) "__setattr__" = some (some (.builtin "object.__setattr__"))
theorem Cls.get {K : PySem.W.Frag} {C : Addr} (c : Cls K C) (f : Str) : PySem.W.plainGet K C f = true := c.pg
structure Con (K : PySem.W.Frag) (C : Addr) (f : Str) (v : V) (u : Value) : Prop where
  at_ : PySem.W.findIn K (.ref C) f = some (some u)
  rel : RelV v u
  get : PySem.W.specialIn K u "__get__" = some none
  cp : PySem.W.copiedNames.contains f = false
structure Meth (K : PySem.W.Frag) (C : Addr) (m : Str) (f : Addr) : Prop where
  at_ : PySem.W.findIn K (.ref C) m = some (some (.ref f))
  fn : PySem.W.isFn K (.ref f) = true
  kp : PySem.W.keepIn K (.ref f) = true
section
variable {X : Cx} {pins : List (Addr × Obj)} {σ : St} {H : Hp} {s : Shared} {a C dx : Addr} {fs : List (Str × V)} {f : Str} {v : V} {A : Around} {E : Value → Shared → Prop}
theorem Inv.made (I : Inv X pins σ H s) : Inv X pins σ (upd (upd H s.heap.objs.size (.own (s.heap.objs.size + 1))) (s.heap.objs.size + 1) (.ins C s.heap.objs.size []))
    { s with heap := (s.heap.push PySem.W.emptyDict).push (PySem.W.instObj C s.heap.objs.size) } := by
  have e1 : (s.heap.push PySem.W.emptyDict).get? s.heap.objs.size = some PySem.W.emptyDict := Heap.get?_push_size s.heap rfl
  have e2 : ((s.heap.push PySem.W.emptyDict).push (PySem.W.instObj C s.heap.objs.size)).get? (s.heap.objs.size + 1) = some (PySem.W.instObj C s.heap.objs.size) := by
    have := Heap.get?_push_size (s.heap.push PySem.W.emptyDict) (o := PySem.W.instObj C s.heap.objs.size) rfl
    rwa [Heap.size_push] at this
  have e3 : (s.heap.push PySem.W.emptyDict).Ns s.heap.objs.size (fun _ => none) := ⟨PySem.W.emptyDict, #[], _, e1, rfl, (fun e he => absurd he (by simp)), fun _ => rfl⟩
  have I1 := I.laid (a := s.heap.objs.size) (o := .own (s.heap.objs.size + 1)) (h' := s.heap.push PySem.W.emptyDict) (t' := s.toks) (fun b u q => Heap.get?_push_of_some _ q) (Nat.le_refl _) ⟨_, e1⟩
  refine I1.laid (a := s.heap.objs.size + 1) (o := .ins C s.heap.objs.size []) (t' := s.toks) (fun b u q => Heap.get?_push_of_some _ q) (Nat.le_of_eq (Heap.size_push _ _)) ?_
  have ne : s.heap.objs.size ≠ s.heap.objs.size + 1 := Nat.ne_of_lt (Nat.lt_succ_self _)
  refine ⟨by rw [upd_ne ne, upd_same], Nat.zero_le _, ne, e2, fun _ => none, (Heap.Ns1.of_empty e3).at fun o q => Heap.get?_push_of_some _ q, fun _ => True.intro, fun y hy => absurd rfl hy⟩
end
section
variable {X : Cx} {o e value : Expr} {f : Str} {pos pos' tpos : Pos} {ta tv : TE}
end
section
variable {X : Cx} {pins : List (Addr × Obj)} {σ : St} {H : Hp} {s : Shared} {A : Around} {E : Value → Shared → Prop} {Q : Value → Shared → Prop} {c : Value} {b : Bool}
inductive TyOf (K : PySem.W.Frag) (H : Hp) : V → Value → Prop where
  | non : TyOf K H .non (.type "NoneType")
  | bl (x : Bool) : TyOf K H (.bl x) (.type "bool")
  | int (i : Int) : TyOf K H (.int i) (.type "int")
  | str (x : Str) : TyOf K H (.str x) (.type "str")
  | flt (x : UInt64) : TyOf K H (.flt x) (.type "float")
  | lst {a : Addr} {xs : List V} (e : H a = some (.lst xs)) : TyOf K H (.ref a) (.type "list")
  | frz {a : Addr} {o : Obj} {xs : List V} (e : H a = some (.frz o (.lst xs))) : TyOf K H (.ref a) (.type "list")
  | tup {a : Addr} {xs : List V} (e : H a = some (.tup xs)) : TyOf K H (.ref a) (.type "tuple")
  | dK {a : Addr} {kvs : List (Key × V)} (e : H a = some (.dK kvs)) : TyOf K H (.ref a) (.type "dict")
  | dT {a : Addr} {kvs : List (List Key × V)} (e : H a = some (.dT kvs)) : TyOf K H (.ref a) (.type "dict")
  | ins {a C dx : Addr} {fs : List (Str × V)} (e : H a = some (.ins C dx fs)) (cl : Cls K C) (ha : PySem.W.findIn K (.ref C) "__class__" = some (some (.builtin "object.__class__")))
      (hn : PySem.W.specialIn K (.builtin "object.__class__") "__get__" = some (some (.builtin "getset_descriptor.__get__"))) (htk : PySem.W.takesIn K (.builtin "object.__class__") = some true)
      (hm : PySem.W.mroIn K C (.type "object") = some true) : TyOf K H (.ref a) (.ref C)
end
end L2
namespace L2
open PySem PySem.Spec PyProof.Rows
structure Room (k : Nat) (A : Around) : Prop where
  hd : A.handled = none
  dp : A.depth + 3 * k + 5 < recursionLimit
  un : A.units + 16 * k + 200 < cLine
theorem Room.mono {j k : Nat} {A : Around} (r : Room k A) (h : j ≤ k) : Room j A := ⟨r.hd, by have := r.dp; omega, by have := r.un; omega⟩
theorem Room.deeper {k : Nat} {A : Around} (r : Room (k + 1) A) (env : Env) : Room k (A.deeper env) :=
  ⟨r.hd, by have := r.dp; show A.depth + 1 + 3 * k + 5 < _; omega, by have := r.un; show A.units + 3 + 16 * k + 200 < _; omega⟩
theorem Room.depth {k : Nat} {A : Around} (r : Room k A) : A.depth < recursionLimit := by have := r.dp; omega
theorem Room.units {k : Nat} {A : Around} (r : Room k A) : A.units + 64 < cLine := by have := r.un; omega
noncomputable def tNil : TA := fun _ H Q => Q [] H
noncomputable def tCons (ta : TE) (tr : TA) : TA := fun σ H Q => ta σ H fun x H1 => tr σ H1 fun xs H2 => Q (x :: xs) H2
section
variable {X : Cx} {e : Expr} {es : List Expr} {te : TE} {t : TA} {pos : Pos}
theorem pa_nil : PA X [] tNil := fun _ _ _ _ H Q I h => Calls.spliced_nil ⟨[], H, I, .nil, h⟩
theorem pa_cons (ha : PE X e te) (hr : PA X es t) (hs : starEach (e :: es) X.env = (false, eval e X.env) :: starEach es X.env := by rfl) : PA X (e :: es) (tCons te t) := by
  intro pos pins s σ H Q I h
  rw [hs]
  show wpAny _ _ (spliced ((false, eval e X.env) :: backTo pos (starEach es X.env))) _ _ s
  refine Calls.spliced_cons (thn (ha pins s σ H _ I h) fun u s1 ⟨x, H1, I1, r1, q1⟩ => ?_)
  exact thn (hr pos pins s1 σ H1 _ I1 q1) fun us s2 ⟨xs, H2, I2, r2, q2⟩ => ⟨x :: xs, H2, I2, .cons r1 r2, q2⟩
noncomputable def tTup (t : TA) : TE := fun σ H Q => t σ H fun xs H1 => xs.length ≤ sizeLine ∧ ∀ p, H1 p = none → Q (.ref p) (upd H1 p (.tup xs))
noncomputable def tLst (t : TA) : TE := fun σ H Q => t σ H fun xs H1 => xs.length ≤ sizeLine ∧ ∀ p, H1 p = none → Q (.ref p) (upd H1 p (.lst xs))
theorem pe_tup {x1} (h : PA X es t) : PE X (.Tuple es x1 pos) (tTup t) := by
  intro pins s σ H Q I hq
  refine wpAny_Tuple_spliced (thn (h pos pins s σ H _ I hq) fun us s1 ⟨xs, H1, I1, r, z, q⟩ => ⟨by rw [← r.length]; exact z, ?_⟩)
  have hf : H1 s1.heap.objs.size = none := I1.hok.fresh (Nat.le_refl _)
  refine ⟨.ref s1.heap.objs.size, upd H1 s1.heap.objs.size (.tup xs), I1.laid (t' := s1.toks) (fun b u e => Heap.get?_push_of_some _ e) (Nat.le_refl _) ?_, rfl, q _ hf⟩
  exact ⟨z, us, r, ⟨_, Heap.get?_push_size _ rfl, rfl, _, rfl⟩⟩
theorem pe_lst (h : PA X es t) : PE X (.List es pos) (tLst t) := by
  intro pins s σ H Q I hq
  refine wpAny_List_spliced (thn (h pos pins s σ H _ I hq) fun us s1 ⟨xs, H1, I1, r, z, q⟩ => ⟨by rw [← r.length]; exact z, ?_⟩)
  have hf : H1 s1.heap.objs.size = none := I1.hok.fresh (Nat.le_refl _)
  refine ⟨.ref s1.heap.objs.size, upd H1 s1.heap.objs.size (.lst xs), I1.laid (t' := s1.toks) (fun b u e => Heap.get?_push_of_some _ e) (Nat.le_refl _) ?_, rfl, q _ hf⟩
  exact ⟨z, us, 0, r, Heap.get?_push_size _ rfl⟩
end
noncomputable abbrev Sp := List V → Hp → VK → XK → Prop
noncomputable abbrev CXT := List Env → Hp → Shared → XK → Value → Shared → Prop
structure Env0 (P : Program) (w : World) (K : PySem.W.Frag) (mg : Str → Option Value) (base : Heap) (A : Around) (outer : List Env) (s : Shared) (H : Hp) : Prop where
  frames : A.frames = some outer
  mod : Mod K mg base
  bs : ∀ b o, base.get? b = some o → s.heap.get? b = some o ∧ H b = none
  bsz : base.objs.size ≤ s.heap.objs.size
  funs : s.heap.FunFrames base outer
  frf : ∀ b ∈ frs outer, H b = none
  hok : HOk P w H s.heap
  bare : AllBare s.gens
noncomputable def CE (outer : List Env) (P : Program) (w : World) (H : Hp) (s : Shared) (Q : VK) (u : Value) (s' : Shared) : Prop :=
  ∃ v H', s'.os = s.os ∧ AllBare s'.gens ∧ Un (frs outer) [] H H' s.heap s'.heap ∧ HOk P w H' s'.heap ∧ RelV v u ∧ Q v H'
noncomputable def CR (CX : CXT) (outer : List Env) (P : Program) (w : World) (H : Hp) (s : Shared) (Q : VK) (E : XK) (r : Result) (s' : Shared) : Prop :=
  match r with
  | .ok (.ret u) => CE outer P w H s Q u s'
  | .ok _ => False
  | .error e => CX outer H s E e s'
structure FnOk (P : Program) (w : World) (K : PySem.W.Frag) (mg : Str → Option Value) (base : Heap) (CX : CXT) (k : Nat) (f : Addr) (fd : FuncData) (ps : List Str) (sp : Sp) : Prop where
  len : ∀ vs H Q E, sp vs H Q E → vs.length = ps.length
  run : ∀ (A : Around) (outer : List Env) (s : Shared) (H : Hp) (args : Args) (us : List Value) (vs : List V) (Q : VK) (E : XK), Room k A → Env0 P w K mg base A outer s H → BindsTo s fd args (ps.zip us) → Vals vs us → sp vs H Q E →
    codeAny (model P w) A (.call (.ref f) args) (CR CX outer P w H s Q E) s
theorem FnOk.mono {P : Program} {w : World} {K : PySem.W.Frag} {mg : Str → Option Value} {base : Heap} {CX : CXT} {j k : Nat} {f : Addr} {fd : FuncData} {ps : List Str} {sp : Sp} (F : FnOk P w K mg base CX j f fd ps sp) (h : j ≤ k) :
    FnOk P w K mg base CX k f fd ps sp := ⟨F.len, fun A outer s H args us vs Q E hr => F.run A outer s H args us vs Q E (hr.mono h)⟩
theorem FnOk.imp {P : Program} {w : World} {K : PySem.W.Frag} {mg : Str → Option Value} {base : Heap} {CX : CXT} {k : Nat} {f : Addr} {fd : FuncData} {ps : List Str} {sp sp' : Sp} (F : FnOk P w K mg base CX k f fd ps sp)
    (h : ∀ vs H Q E, sp' vs H Q E → sp vs H Q E) : FnOk P w K mg base CX k f fd ps sp' :=
  ⟨fun vs H Q E q => F.len vs H Q E (h _ _ _ _ q), fun A outer s H args us vs Q E hr he hb hv hs => F.run A outer s H args us vs Q E hr he hb hv (h _ _ _ _ hs)⟩
section
variable {X : Cx} {pins : List (Addr × Obj)} {σ : St} {H : Hp} {s s' : Shared}
theorem Inv.env0 (I : Inv X pins σ H s) : Env0 X.prog X.w X.K X.mg X.base X.A X.stack s H :=
  ⟨I.ok.frames, I.ok.mod, I.bs, Nat.le_trans I.ok.bsz I.sz, I.stack, I.stkFree, I.hok, I.bare⟩
theorem Inv.after {Q : VK} {u : Value} (I : Inv X pins σ H s) (h : CE X.stack X.prog X.w H s Q u s') : EP X pins σ Q u s' := by
  obtain ⟨v, H', os, bare, un, hok, r, q⟩ := h
  obtain ⟨hh, g, d, t, os'⟩ := s'
  obtain rfl : os' = s.os := os
  exact ⟨v, H', I.call (h' := hh) (g' := g) (d' := d) (t' := t) (ch := []) un hok bare (fun b z => absurd z (by simp)), r, q⟩
end
noncomputable def tCall (sp : Sp) (dvs : List V) (E : XK) (t : TA) : TE := fun σ H Q => t σ H fun vs H1 => sp (vs ++ dvs) H1 Q E
noncomputable def Binds (K : PySem.W.Frag) (fd : FuncData) (ps : List Str) (ds : List Value) : Prop :=
  ∀ (s : Shared) (us : List Value), K.In s.heap → (us ++ ds).length = ps.length → BindsTo s fd ⟨us, []⟩ (ps.zip (us ++ ds))
theorem Binds.all {K : PySem.W.Frag} {fd : FuncData} {ps : List Str} (h : ∀ us : List Value, us.length = ps.length → bindArgs fd ⟨us, []⟩ = pure (ps.zip us)) : Binds K fd ps [] := fun s us _ hl => by
  rw [List.append_nil] at hl ⊢
  exact .of_eq (h us hl)
noncomputable def Passes (CX : CXT) (X : Cx) (E : XK) : Prop := ∀ (pins : List (Addr × Obj)) (σ : St) (H : Hp) (s : Shared) (e : Value) (s' : Shared), Inv X pins σ H s → CX X.stack H s E e s' → X.xe e s'
section
variable {X : Cx} {CX : CXT} {k : Nat} {f C : Addr} {fd : FuncData} {ps : List Str} {sp : Sp} {dvs : List V} {ds : List Value} {E : XK} {x m : Str} {p pos apos : Pos} {e o : Expr} {es : List Expr} {ta : TE} {t : TA}
theorem run_fn {pins : List (Addr × Obj)} {σ : St} {H : Hp} {s : Shared} {Q : VK} {us : List Value} {vs : List V} (F : FnOk X.prog X.w X.K X.mg X.base CX k f fd ps sp) (hr : Room k X.A) (hb : Binds X.K fd ps ds) (hd : Vals dvs ds) (hx : Passes CX X E)
    (I : Inv X pins σ H s) (r : Vals vs us) (h : sp (vs ++ dvs) H Q E) : wpAny (model X.prog X.w) X.A (call (.ref f) us) (EP X pins σ Q) X.xe s := by
  have r2 : Vals (vs ++ dvs) (us ++ ds) := r.append hd
  have hl : (us ++ ds).length = ps.length := by rw [← r2.length]; exact F.len _ _ _ _ h
  refine wpAny_call (codeAny_mono (F.run X.A X.stack s H ⟨us, []⟩ (us ++ ds) (vs ++ dvs) Q E hr I.env0 (hb s us I.kIn hl) r2 h) fun r s' hq => ?_)
  cases r with
  | error e => exact hx pins σ H s e s' I hq
  | ok fl =>
    cases fl with
    | ret u => exact I.after hq
    | next => exact False.elim hq
    | brk => exact False.elim hq
    | cont => exact False.elim hq
theorem pe_call (F : FnOk X.prog X.w X.K X.mg X.base CX k f fd ps sp) (hr : Room k X.A) (hg : Gl X x) (hm : X.mg x = some (.ref f)) (hk : PySem.W.keepIn X.K (.ref f) = true) (hb : Binds X.K fd ps ds) (hd : Vals dvs ds) (hx : Passes CX X E)
    (ha : PA X (e :: es) t) (hdb : (x == ("__debug__" : Str)) = false := by decide) (he : starEach (e :: es) X.env = (false, eval e X.env) :: starEach es X.env := by rfl) (hpl : (backTo pos (starEach es X.env)).any (·.1) = false := by rfl) :
    PE X (.Call (.Name x p) (e :: es) [] pos) (tCall sp dvs E t) := by
  intro pins s σ H Q I h
  refine wpAny_Call_Name_kw (ld_glob I hg hm ?_ hdb)
  refine PySem.W.callWith_K (h₀ := X.base) I.ok.mod.kin hk (thn (ha pos pins s σ H _ I h) fun us s1 ⟨vs, H1, I1, r, q⟩ => ⟨I1.kIn, ?_⟩) he hpl
  exact run_fn F hr hb hd hx I1 r q
structure Mk (K : PySem.W.Frag) (C f : Addr) : Prop where
  makes : PySem.W.makesIn K C = true
  init : PySem.W.findIn K (.ref C) "__init__" = some (some (.ref f))
  fn : PySem.W.isFn K (.ref f) = true
  kp : PySem.W.keepIn K (.ref C) = true
end
section
variable {X : Cx} {CX : CXT} {k : Nat} {f C : Addr} {fd : FuncData} {ps ks : List Str} {sp : Sp} {E : XK} {x m : Str} {p pos apos kpos : Pos} {e o : Expr} {es : List Expr} {kws : List Keyword} {te ta : TE} {t tk : TA} {nm : Option Str}
structure KBinds (K : PySem.W.Frag) (fd : FuncData) (ps ks : List Str) (g : List Value → List Value → List Value) (gV : List V → List V → List V) : Prop where
  to : ∀ (s : Shared) (us ws : List Value), K.In s.heap → (g us ws).length = ps.length → BindsTo s fd ⟨us, ks.zip ws⟩ (ps.zip (g us ws))
  rel : ∀ {vs : List V} {us : List Value} {zs : List V} {ws : List Value}, Vals vs us → Vals zs ws → Vals (gV vs zs) (g us ws)
variable {g : List Value → List Value → List Value} {gV : List V → List V → List V}
end
structure FnScope (N P : List Str) (sc : Scope) : Prop where
  kind : sc.kind = .function
  co : sc.isCoroutine = false
  gen : sc.isGenerator = false
  nd : N.Nodup
  pre : N.take P.length = P
  par : ∀ x ∈ P, sc.names.lookup x = some .local ∨ sc.names.lookup x = some .cell
  nofree : ∀ y ∈ sc.names, y.2 ≠ .free
theorem bindL_out {kindOf : Str → Option NameKind} {x : Str} : ∀ {binds : List (Str × Value)} {m : Str → Option Value}, (∀ v, (x, v) ∉ binds) → bindL kindOf binds m x = m x
  | [], _, _ => rfl
  | (n, v) :: r, m, h => by
    unfold bindL
    rw [bindL_out fun w hw => h w (List.mem_cons_of_mem _ hw)]
    split
    · have : x ≠ n := by rintro rfl; exact h v List.mem_cons_self
      simp [this]
    · rfl
theorem bindC_out {kindOf : Str → Option NameKind} {x : Str} : ∀ {binds : List (Str × Value)} {m : Str → Option Value}, (∀ v, (x, v) ∉ binds) → bindC kindOf binds m x = m x
  | [], _, _ => rfl
  | (n, v) :: r, m, h => by
    unfold bindC
    rw [bindC_out fun w hw => h w (List.mem_cons_of_mem _ hw)]
    split
    · rfl
    · have : x ≠ n := by rintro rfl; exact h v List.mem_cons_self
      simp [this]
theorem bindL_get {kindOf : Str → Option NameKind} {x : Str} {v : Value} : ∀ {P : List Str} {vs : List Value} {i : Nat} {m : Str → Option Value}, P.Nodup → P[i]? = some x → vs[i]? = some v → kindOf x = some .local →
    bindL kindOf (P.zip vs) m x = some v
  | [], _, _, _, _, h, _, _ => by simp at h
  | _ :: _, [], _, _, _, _, h, _ => by simp at h
  | p :: P, w :: vs, 0, m, nd, h1, h2, hk => by
    simp at h1 h2; subst h1; subst h2
    show bindL kindOf ((p, w) :: P.zip vs) m p = _
    unfold bindL
    rw [bindL_out fun v hv => (List.nodup_cons.mp nd).1 (List.of_mem_zip hv).1, if_pos hk]
    simp
  | p :: P, w :: vs, i + 1, m, nd, h1, h2, hk => by
    show bindL kindOf ((p, w) :: P.zip vs) m x = _
    unfold bindL
    exact bindL_get (i := i) (List.nodup_cons.mp nd).2 (by simpa using h1) (by simpa using h2) hk
theorem bindC_get {kindOf : Str → Option NameKind} {x : Str} {v : Value} : ∀ {P : List Str} {vs : List Value} {i : Nat} {m : Str → Option Value}, P.Nodup → P[i]? = some x → vs[i]? = some v → kindOf x ≠ some .local →
    bindC kindOf (P.zip vs) m x = some v
  | [], _, _, _, _, h, _, _ => by simp at h
  | _ :: _, [], _, _, _, _, h, _ => by simp at h
  | p :: P, w :: vs, 0, m, nd, h1, h2, hk => by
    simp at h1 h2; subst h1; subst h2
    show bindC kindOf ((p, w) :: P.zip vs) m p = _
    unfold bindC
    rw [bindC_out fun v hv => (List.nodup_cons.mp nd).1 (List.of_mem_zip hv).1, if_neg hk]
    simp
  | p :: P, w :: vs, i + 1, m, nd, h1, h2, hk => by
    show bindC kindOf ((p, w) :: P.zip vs) m x = _
    unfold bindC
    exact bindC_get (i := i) (List.nodup_cons.mp nd).2 (by simpa using h1) (by simpa using h2) hk
noncomputable def start (N : List Str) (vs : List V) : St := vs.map some ++ List.replicate (N.length - vs.length) none
noncomputable def cxOf (CX : CXT) (P : Program) (w : World) (K : PySem.W.Frag) (mg : Str → Option Value) (base : Heap) (N : List Str) (qual : Str) (scope : Scope) (f : Addr) (cd : Value) (A : Around) (outer : List Env) (s : Shared) (H : Hp) (E : XK) : Cx where
  prog := P
  w := w
  K := K
  mg := mg
  base := base
  A := A.deeper (envOfC qual scope s.heap.objs.size f cd)
  N := N
  s₀ := s
  H₀ := H
  env := envOfC qual scope s.heap.objs.size f cd
  outer := outer
  stack := envOfC qual scope s.heap.objs.size f cd :: outer
  ex := []
  calm := true
  fn := fun _ => true
  pn := []
  xe := fun e s' => wpAny (model P w) (A.deeper (envOfC qual scope s.heap.objs.size f cd)) (leaving (envOfC qual scope s.heap.objs.size f cd) e) (fun _ s'' => CX outer H s E e s'') (fun e' s'' => CX outer H s E e' s'') s'
theorem cell_has {sc : Scope} {n : Nat} {x : Str} (h : sc.names.lookup x = some .cell) : ∃ c, (cellsFrom n sc.names []).lookup x = some c := by
  have q := PySem.W.cellsFrom_some sc.names n [] (.inl h)
  exact Option.isSome_iff_exists.mp q
theorem inv_start {CX : CXT} {P : Program} {w : World} {K : PySem.W.Frag} {mg : Str → Option Value} {base : Heap} {N ps : List Str} {qual : Str} {scope : Scope} {f : Addr} {cd : Value} {A : Around} {outer : List Env} {s s1 : Shared} {H : Hp} {E : XK} {us : List Value} {vs : List V}
    (S : FnScope N ps scope) (hd : A.handled = none) (e0 : Env0 P w K mg base A outer s H) (hl : vs.length = ps.length) (r : Vals vs us)
    (x : InCallC s s.heap.objs.size (bindL (envOfC qual scope s.heap.objs.size f cd).kindOf (ps.zip us) fun _ => none) (cellsFrom (s.heap.objs.size + 1) scope.names []) (bindC (envOfC qual scope s.heap.objs.size f cd).kindOf (ps.zip us) fun _ => none) s1) :
    Inv (cxOf CX P w K mg base N qual scope f cd A outer s H E) [] (start N vs) H s1 := by
  have hpl : ps.length ≤ N.length := by have := congrArg List.length S.pre; rw [List.length_take] at this; omega
  obtain ⟨h1, tk, rfl, hk⟩ := x.done
  have noA : ∀ b : Addr, b ∉ (cxOf CX P w K mg base N qual scope f cd A outer s H E).ex := fun b z => absurd (show b ∈ ([] : List Addr) from z) (by simp)
  refine ⟨⟨e0.mod, S.kind, rfl, rfl, Nat.le_refl _, fun y z c h1 h2 => ?_, fun y hy => ?_, fun y c _ h => ?_, fun _ => hd, Around.frames_deeper e0.frames, .inr ⟨rfl, rfl⟩, fun b z => absurd z (noA b), e0.bs, e0.bsz, fun b _ _ => noA b, fun b z => absurd z (noA b), e0.funs, e0.frf⟩,
    rfl, e0.bare, Un.kept hk, ⟨_, x.toInCall.ns, fun i y v h1 h2 h3 => ?_⟩, fun y c h => ⟨_, x.cell y c h⟩, e0.hok.fresh (Nat.le_refl _), fun y c h => ?_, fun p hp => absurd (show p ∈ ([] : List (Addr × Obj)) from hp) (by simp), e0.hok.kept hk, ?_⟩
  · exact name_of_addr x.apart (PySem.mem_of_lookup h1) (PySem.mem_of_lookup h2)
  · have hy : scope.names.lookup y = some .cell ∨ scope.names.lookup y = some .free := hy
    rcases hy with hy | hy
    · exact cell_has hy
    · exact absurd rfl (S.nofree _ (PySem.mem_of_lookup hy))
  · exact Nat.le_of_lt (x.above y c (PySem.mem_of_lookup h))
  · have hi : i < vs.length := by
      unfold start at h2
      by_cases hi : i < vs.length
      · exact hi
      · rw [List.getElem?_append_right (by simpa using hi)] at h2
        rw [List.getElem?_replicate] at h2
        split at h2 <;> cases h2
    have ha : vs[i]? = some v := by
      unfold start at h2
      rw [List.getElem?_append_left (by simpa using hi), List.getElem?_map] at h2
      cases e : vs[i]? with
      | none => rw [e] at h2; cases h2
      | some a => rw [e] at h2; cases h2; rfl
    obtain ⟨u, hu, rv⟩ := r.get ha
    have hp : ps[i]? = some y := by
      rw [← S.pre, List.getElem?_take_of_lt (by omega)]; exact h1
    have ndP : ps.Nodup := by rw [← S.pre]; exact S.nd.sublist (List.take_sublist _ _)
    refine ⟨u, rv, ?_⟩
    rcases S.par y (List.mem_of_getElem? hp) with k | k
    · exact .inl ⟨k, bindL_get ndP hp hu k⟩
    · obtain ⟨c, e⟩ := cell_has (n := s.heap.objs.size + 1) k
      refine .inr ⟨.inl k, c, e, ?_⟩
      have q := x.cell y c e
      rw [bindC_get ndP hp hu (by show scope.names.lookup y ≠ _; rw [k]; decide)] at q
      exact q
  · exact e0.hok.fresh (Nat.le_of_lt (x.above y c (PySem.mem_of_lookup h)))
  · unfold start
    show _ = N.length
    rw [List.length_append, List.length_map, List.length_replicate]
    omega
theorem fn_of {CX : CXT} {P : Program} {w : World} {K : PySem.W.Frag} {mg : Str → Option Value} {base : Heap} {k : Nat} {f : Addr} {name qual : Str} {params : Arguments} {body : List Stmt} {scope : Scope} {dV kV doc pm cdv ct oc : Value} {an od : Option Addr}
    {osl : Array (Option Value)} {N ps : List Str} {sp : Sp} (lk : K.lookup f = some ⟨oc, od, .func (PySem.W.fnOf name qual params body scope dV kV doc pm an cdv ct), osl⟩) (hcd : PySem.W.codeIn K cdv qual = true) (S : FnScope N ps scope)
    (len : ∀ vs H Q E, sp vs H Q E → vs.length = ps.length)
    (hbody : ∀ (A : Around) (outer : List Env) (s : Shared) (H : Hp) (vs : List V) (Q : VK) (E : XK), Room k (A.deeper (envOfC qual scope s.heap.objs.size f cdv)) → sp vs H Q E →
      ∃ t, PSs (cxOf CX P w K mg base N qual scope f cdv A outer s H E) body t ∧ t { nx := fun _ H' => Q .non H', rt := Q } (start N vs) H) :
    FnOk P w K mg base CX (k + 1) f (PySem.W.fnOf name qual params body scope dV kV doc pm an cdv ct) ps sp := by
  refine ⟨len, fun A outer s H args us vs Q E hr e0 hb r hsp => ?_⟩
  have hl := len _ _ _ _ hsp
  have KX : K.In s.heap := e0.mod.kin.keeps fun b o e => (e0.bs b o e).1
  have lim : s.heap.NoLimit := e0.mod.nolimit.keeps fun b o e => (e0.bs b o e).1
  have hkind : ∀ y ∈ ps.zip us, scope.names.lookup y.1 = some .local ∨ (scope.names.lookup y.1 = some .cell ∧ ((cellsFrom (s.heap.objs.size + 1) scope.names []).lookup y.1).isSome = true) := fun ⟨n, v⟩ hy => by
    rcases S.par n (List.of_mem_zip hy).1 with q | q
    · exact .inl q
    · exact .inr ⟨q, PySem.W.cellsFrom_some _ _ _ (.inl q)⟩
  refine codeAny_call_function hr.depth (KX _ _ lk) rfl S.co S.gen rfl (PySem.W.codeRec_of KX hcd) (hb _ _ _ _ ?_)
  refine wpAny_newFunctionEnv_cells S.kind hkind fun env he s1 x => ?_
  subst he
  refine ⟨lim.keeps x.toInCall.keep, codeAny_func ?_⟩
  obtain ⟨t, ht, hq⟩ := hbody A outer s H vs Q E (hr.deeper _) hsp
  have I : Inv (cxOf CX P w K mg base N qual scope f cdv A outer s H E) [] (start N vs) H s1 := inv_start S hr.hd e0 hl r x
  refine wpAny_mono (ht [] s1 (start N vs) H _ I hq) (fun fl s' hs => ?_) fun e s' hs => hs
  have fin : ∀ {σ' : St} {H' : Hp} {v : V} {u : Value}, Inv (cxOf CX P w K mg base N qual scope f cdv A outer s H E) [] σ' H' s' → RelV v u → Q v H' → CE outer P w H s Q u s' :=
    fun {σ' H' v u} J rv q => ⟨v, H', J.os, J.bare, J.base, J.hok, rv, q⟩
  cases fl with
  | ret u =>
    obtain ⟨v, σ', H', J, rv, q⟩ := hs
    exact fin J rv q
  | next =>
    obtain ⟨σ', H', J, q⟩ := hs
    exact fin (v := V.non) (u := Value.none) J rfl q
  | brk =>
    obtain ⟨_, _, _, q⟩ := hs
    exact False.elim q
  | cont =>
    obtain ⟨_, _, _, q⟩ := hs
    exact False.elim q
end L2
namespace L2
open PySem PySem.Spec PyProof.Rows
section
variable {X : Cx} {x : Str} {p pos : Pos} {e : Expr} {es : List Expr} {t : TA} {id T : String} {r : List V → Hp → VK → Prop}
noncomputable def tCB (r : List V → Hp → VK → Prop) (t : TA) : TE := fun σ H Q => t σ H fun vs H1 => r vs H1 Q
theorem pe_callB (hc : CallR X (.builtin id) r) (hg : Gl X x) (hm : X.mg x = none) (hv : bootBuiltins x = some (.builtin id)) (ha : PA X (e :: es) t) (hn : x ≠ "__name__" := by decide) (hdb : (x == ("__debug__" : Str)) = false := by decide)
    (he : starEach (e :: es) X.env = (false, eval e X.env) :: starEach es X.env := by rfl) (hpl : (backTo pos (starEach es X.env)).any (·.1) = false := by rfl) : PE X (.Call (.Name x p) (e :: es) [] pos) (tCB r t) := by
  intro pins s σ H Q I h
  refine wpAny_Call_Name_kw (ld_blt I hg hm hv ?_ hn hdb)
  exact PyProof.Rows.callWith_builtin1 (thn (ha pos pins s σ H _ I h) fun us s1 ⟨vs, H1, I1, r1, q1⟩ => hc pins s1 σ H1 vs us Q I1 r1 q1) he hpl
theorem pe_callTy (hc : CallR X (.type T) r) (hg : Gl X x) (hm : X.mg x = none) (hv : bootBuiltins x = some (.type T)) (ha : PA X (e :: es) t) (hn : x ≠ "__name__" := by decide) (hdb : (x == ("__debug__" : Str)) = false := by decide)
    (he : starEach (e :: es) X.env = (false, eval e X.env) :: starEach es X.env := by rfl) (hpl : (backTo pos (starEach es X.env)).any (·.1) = false := by rfl) : PE X (.Call (.Name x p) (e :: es) [] pos) (tCB r t) := by
  intro pins s σ H Q I h
  refine wpAny_Call_Name_kw (ld_blt I hg hm hv ?_ hn hdb)
  exact PyProof.Rows.callWith_type1 (thn (ha pos pins s σ H _ I h) fun us s1 ⟨vs, H1, I1, r1, q1⟩ => hc pins s1 σ H1 vs us Q I1 r1 q1) he hpl
end
end L2
namespace HT
open PySem PyProof.Rows
section
open PySem.SeqAt
open PySem.AutoSeq1 (wpAny_loadPart')
open PySem.MeetsSeq PySem.MeetsSeq2 PySem.MeetsSeq3
end
section
variable {prog : Program} {w : World} {A : Around} {E : Value → Shared → Prop} {s : Shared}
noncomputable def sIx (n d : Nat) : Option Int → Nat
  | none => d
  | some v => if v < 0 then (v + (n : Int)).toNat else min v.toNat n
theorem sIx_le (n d : Nat) (hd : d ≤ n) (o : Option Int) : sIx n d o ≤ n := by
  cases o with
  | none => exact hd
  | some v =>
    show (if v < 0 then (v + (n : Int)).toNat else min v.toNat n) ≤ n
    by_cases hv : v < 0
    · rw [if_pos hv]; omega
    · rw [if_neg hv]; exact Nat.min_le_right _ _
theorem clip_eq (v : Int) (n d : Nat) : (if v < 0 then max (v + (n : Int)) 0 else min v (n : Int)) = ((sIx n d (some v) : Nat) : Int) := by
  show (if v < 0 then max (v + (n : Int)) 0 else min v (n : Int)) = (((if v < 0 then (v + (n : Int)).toNat else min v.toNat n) : Nat) : Int)
  by_cases hv : v < 0
  · simp only [if_pos hv]; omega
  · simp only [if_neg hv]; omega
theorem adjust_gen (lo hi : Option Int) (n : Nat) : Builtin.Slice.sliceAdjust lo hi 1 (n : Int) = (((sIx n 0 lo : Nat) : Int), ((sIx n n hi : Nat) : Int)) := by
  have h1 : ¬ ((1 : Int) < 0) := by omega
  unfold Builtin.Slice.sliceAdjust
  simp only [h1, if_false]
  refine Prod.ext ?_ ?_
  · cases lo with
    | none => rfl
    | some v => exact clip_eq v n 0
  · cases hi with
    | none => rfl
    | some v => exact clip_eq v n n
theorem places_gen (i j : Nat) : Builtin.Slice.slicePlaces (i : Int) (j : Int) 1 = j - i := by
  unfold Builtin.Slice.slicePlaces
  have h1 : (1 : Int) > 0 := by omega
  simp only [h1, if_true, Int.ediv_one]
  split <;> omega
theorem slicePart_ {v : Value} {o : Option Int} {Q : Option Int → Shared → Prop} (p : IsPart v o) (h : Q o s) : wpAny (model prog w) A (Builtin.Slice.slicePartIndex v) Q E s := by
  cases p with
  | none => exact slicePart_none h
  | int i t => exact slicePart_int h
theorem sliceApplied_gen {sl : Addr} {vl vu : Value} {lo hi : Option Int} {n : Nat} {Q : Int × Int × Nat → Shared → Prop} (hs : s.heap.IsSliceOf sl vl vu .none) (pl : IsPart vl lo) (pu : IsPart vu hi)
    (h : Q (((sIx n 0 lo : Nat) : Int), 1, sIx n n hi - sIx n 0 lo) s) : wpAny (model prog w) A (Builtin.Slice.sliceApplied (.ref sl) (pure (n : Int))) Q E s := by
  obtain ⟨os, hos, hcs, hds⟩ := id hs
  unfold Builtin.Slice.sliceApplied Builtin.Slice.sliceFields
  refine wpAny_bind (wpAny_bind (wpAny_field hos hds (x := vl) rfl (wpAny_bind (wpAny_field hos hds (x := vu) rfl (wpAny_bind (wpAny_field hos hds (x := .none) rfl (wpAny_pure ?_)))))))
  refine wpAny_bind (slicePart_none ?_)
  show wpAny _ _ (if ((1 : Int) == 0) = true then _ else _) _ _ s
  rw [if_neg (by decide)]
  refine wpAny_bind (slicePart_ pl (wpAny_bind (slicePart_ pu (wpAny_bind (wpAny_pure ?_)))))
  show wpAny _ _ (match Builtin.Slice.sliceAdjust lo hi 1 (n : Int) with | (lo, hi) => pure (lo, (1 : Int), Builtin.Slice.slicePlaces lo hi 1)) _ _ s
  rw [adjust_gen lo hi n]
  show wpAny _ _ (pure (((sIx n 0 lo : Nat) : Int), (1 : Int), Builtin.Slice.slicePlaces ((sIx n 0 lo : Nat) : Int) ((sIx n n hi : Nat) : Int) 1)) _ _ s
  rw [places_gen]
  exact wpAny_pure h
theorem pick_gen (xs : Array Value) (i k : Nat) : ((List.range k).filterMap fun (m : Nat) => xs[((i : Int) + (m : Int) * 1).toNat]?).toArray = ((xs.toList.drop i).take k).toArray := by
  have e : (fun (m : Nat) => xs[((i : Int) + (m : Int) * 1).toNat]?) = fun m => xs[i + m]? := by
    funext m
    have : ((i : Int) + (m : Int) * 1).toNat = i + m := by omega
    rw [this]
  rw [e]
  have := pick_run xs i k
  rw [List.filterMap_map] at this
  have e2 : ((fun x => xs[x]?) ∘ fun x => i + x) = fun m => xs[i + m]? := rfl
  rw [e2] at this
  rw [this]
theorem getItem_tuple_cut {t sl : Addr} {items : Array Value} {vl vu : Value} {lo hi : Option Int} {Q : Value → Shared → Prop} (ht : IsTup s.heap t items) (hs : s.heap.IsSliceOf sl vl vu .none) (pl : IsPart vl lo) (pu : IsPart vu hi)
    (hw : ¬ (sIx items.size 0 lo = 0 ∧ sIx items.size items.size hi = items.size))
    (h : Q (.ref s.heap.objs.size) { s with heap := s.heap.push { cls := .type "tuple", data := .seq ((items.toList.drop (sIx items.size 0 lo)).take (sIx items.size items.size hi - sIx items.size 0 lo)).toArray } })
    (hsz : items.size ≤ sizeLine) : wpAny (model prog w) A (getItem (.ref t) (.ref sl)) Q E s := by
  have htake : sizeOk (.seq ((items.toList.drop (sIx items.size 0 lo)).take (sIx items.size items.size hi - sIx items.size 0 lo)).toArray) := by
    show ((items.toList.drop (sIx items.size 0 lo)).take (sIx items.size items.size hi - sIx items.size 0 lo)).toArray.size ≤ sizeLine
    rw [List.size_toArray, List.length_take, List.length_drop, Array.length_toList]
    omega
  have hj : sIx items.size items.size hi ≤ items.size := sIx_le _ _ (Nat.le_refl _) hi
  obtain ⟨os, hos, hcs, hds⟩ := id hs
  have hTs : s.TypeIs (.ref sl) "slice" := ⟨os, hos, hcs⟩
  unfold getItem
  try with_reducible refine wpAny_holding ?_
  first | refine wpAny_bind (wpAny_pure ?_) | skip
  refine wpAny_bind (wpAny_sequenceKey ht.typeIs (by decide) ?_)
  refine wpAny_bind (wpAny_callSpecial?_slot (name := Str.ofString "__getitem__") ht.typeIs PyProof.Rows.slot_tuple_getitem
    (wpAny_call_entry PyProof.Rows.slot_tuple_getitem ht.typeIs entry_tuple_getitem ?_ (args_tuple_getitem _ _)))
  show wpAny _ _ (Builtin.Tuple.tupleItemsOf (.ref t) >>= _) _ _ s
  refine wpAny_bind (tupleItemsOf_ ht ?_)
  refine wpAny_bind (wpAny_typeOf hTs ?_)
  rw [if_pos (by decide)]
  refine wpAny_bind (sliceApplied_gen hs pl pu ?_)
  have hno : ¬ ((((sIx items.size 0 lo : Nat) : Int) == 0 && (1 : Int) == 1 && (sIx items.size items.size hi - sIx items.size 0 lo) == items.size) = true) := by
    intro q
    rw [Bool.and_eq_true, Bool.and_eq_true] at q
    have q1 : ((sIx items.size 0 lo : Nat) : Int) = 0 := eq_of_beq q.1.1
    have q2 : sIx items.size items.size hi - sIx items.size 0 lo = items.size := eq_of_beq q.2
    exact hw ⟨by omega, by omega⟩
  show wpAny _ _ (if (((sIx items.size 0 lo : Nat) : Int) == 0 && (1 : Int) == 1 && (sIx items.size items.size hi - sIx items.size 0 lo) == items.size) = true then _ else _) _ _ s
  rw [if_neg hno, pick_gen]
  first
    | exact wpAny_bind (m := Builtin.Tuple.tupleExact _) (wpAny_newObj_type (wpAny_pure ⟨_, rfl, wpAny_pure h⟩) htake)
    | exact wpAny_bind (m := Builtin.Tuple.tupleExact _) (wpAny_newObj_type (wpAny_bind (wpAny_pure (wpAny_pure ⟨_, rfl, wpAny_pure h⟩))) htake)
    | exact wpAny_bind (wpAny_bind (m := Builtin.Tuple.tupleExact _) (wpAny_newObj_type (wpAny_pure (wpAny_pure ⟨_, rfl, wpAny_pure h⟩)) htake))
    | exact wpAny_bind (wpAny_bind (m := Builtin.Tuple.tupleExact _) (wpAny_newObj_type (wpAny_pure ⟨_, rfl, wpAny_pure h⟩) htake))
end
end HT
namespace L2
open PySem PySem.Spec PyProof.Rows
noncomputable abbrev TO := St → Hp → (Option Int → Hp → Prop) → Prop
noncomputable def PO (X : Cx) (e : Option Expr) (t : TO) : Prop :=
  ∀ (pins : List (Addr × Obj)) (s : Shared) (σ : St) (H : Hp) (Q : Option Int → Hp → Prop), Inv X pins σ H s → t σ H Q →
    wpAny (model X.prog X.w) X.A (evalPart e X.env) (fun u s' => ∃ o H', Inv X pins σ H' s' ∧ IsPart u o ∧ Q o H') X.xe s
noncomputable def tNoPart : TO := fun _ H Q => Q none H
noncomputable def tPart (t : TE) : TO := fun σ H Q => t σ H fun x H1 => ∃ i, x = .int i ∧ Q (some i) H1
section
variable {X : Cx} {e : Expr} {te : TE} {lo hi : Option Expr} {tl th : TO} {pos p2 : Pos}
theorem po_none : PO X none tNoPart := by
  intro pins s σ H Q I h
  rw [evalPart_none]
  exact wpAny_pure ⟨none, H, I, .none, h⟩
theorem po_some (h : PE X e te) : PO X (some e) (tPart te) := by
  intro pins s σ H Q I hw
  rw [evalPart_some]
  refine thn (h pins s σ H _ I hw) fun u s1 ⟨x, H1, I1, r1, q1⟩ => ?_
  obtain ⟨i, rfl, q⟩ := q1
  obtain ⟨t, rfl⟩ := r1
  exact ⟨some i, H1, I1, .int i t, q⟩
noncomputable def SlR (X : Cx) (r : V → Option Int → Option Int → Hp → VK → Prop) : Prop :=
  ∀ (pins : List (Addr × Obj)) (s : Shared) (σ : St) (H : Hp) (x : V) (v vl vu : Value) (lo hi : Option Int) (sl : Addr) (Q : VK), Inv X pins σ H s → RelV x v → s.heap.IsSliceOf sl vl vu .none → IsPart vl lo → IsPart vu hi → r x lo hi H Q →
    ∃ T id, typeLookup (.type T) "__getitem__" = pure (some (.builtin id)) ∧ s.TypeIs v T ∧ wpAny (model X.prog X.w) X.A (getItem v (.ref sl)) (EP X pins σ Q) X.xe s
theorem SlR.or {r r' : V → Option Int → Option Int → Hp → VK → Prop} (h : SlR X r) (h' : SlR X r') : SlR X (fun x lo hi H Q => r x lo hi H Q ∨ r' x lo hi H Q) := by
  intro pins s σ H x v vl vu lo hi sl Q I rx hs pl pu q
  rcases q with q | q
  · exact h pins s σ H x v vl vu lo hi sl Q I rx hs pl pu q
  · exact h' pins s σ H x v vl vu lo hi sl Q I rx hs pl pu q
noncomputable def tSl (r : V → Option Int → Option Int → Hp → VK → Prop) (te : TE) (tl th : TO) : TE := fun σ H Q => te σ H fun x H1 => tl σ H1 fun l H2 => th σ H2 fun u H3 => r x l u H3 Q
theorem pe_slice {r : V → Option Int → Option Int → Hp → VK → Prop} (hr : SlR X r) (he : PE X e te) (hl : PO X lo tl) (hu : PO X hi th) : PE X (.Subscript e (.Slice lo hi none p2) pos) (tSl r te tl th) := by
  intro pins s σ H Q I h
  refine Subscript_ (thn (he pins s σ H _ I h) fun v s1 ⟨x, H1, I1, r1, q1⟩ => ?_)
  refine wpAny_Slice (thn (hl pins s1 σ H1 _ I1 q1) fun vl s2 ⟨l, H2, I2, pl, q2⟩ => thn (hu pins s2 σ H2 _ I2 q2) fun vu s3 ⟨u, H3, I3, pu, q3⟩ => ?_)
  rw [evalPart_none]
  refine wpAny_pure ?_
  have I4 : Inv X pins σ H3 { s3 with heap := s3.heap.push { cls := .type "slice", data := .fields #[vl, vu, .none] } } := I3.kept (t' := s3.toks) fun b ob q => Heap.get?_push_of_some _ q
  obtain ⟨T, id, hT, ht, hg⟩ := hr pins { s3 with heap := s3.heap.push { cls := .type "slice", data := .fields #[vl, vu, .none] } } σ H3 x v vl vu l u s3.heap.objs.size Q I4 r1 (Heap.IsSliceOf.new ..) pl pu q3
  show wpAny (model X.prog X.w) X.A (subscriptTail e (.Slice lo hi none p2) v (.ref s3.heap.objs.size)) (EP X pins σ Q) X.xe { s3 with heap := s3.heap.push { cls := .type "slice", data := .fields #[vl, vu, .none] } }
  exact tail_any (ops := [.ref s3.heap.objs.size, v]) ht hT hg (by with_unfolding_all rfl)
noncomputable def cutV (xs : List V) (lo hi : Option Int) : List V := (xs.drop (HT.sIx xs.length 0 lo)).take (HT.sIx xs.length xs.length hi - HT.sIx xs.length 0 lo)
theorem cutV_length (xs : List V) (lo hi : Option Int) : (cutV xs lo hi).length ≤ xs.length := by
  unfold cutV
  rw [List.length_take, List.length_drop]
  omega
noncomputable def rSlT (K : PySem.W.Frag) : V → Option Int → Option Int → Hp → VK → Prop := fun x lo hi H Q => ∃ a xs, x = .ref a ∧ SqT K H a xs ∧
  ¬ (HT.sIx xs.length 0 lo = 0 ∧ HT.sIx xs.length xs.length hi = xs.length) ∧ ∀ p, H p = none → Q (.ref p) (upd H p (.tup (cutV xs lo hi)))
theorem sl_tup : SlR X (rSlT X.K) := by
  intro pins s σ H x v vl vu lo hi sl Q I rx hs pl pu h
  obtain ⟨a, xs, rfl, hx, hw, q⟩ := h
  cases rx
  obtain ⟨its, r, ht, hz⟩ := I.tuple hx
  have hlen : its.toArray.size = xs.length := by rw [List.size_toArray]; exact r.length.symm
  refine ⟨"tuple", _, PyProof.Rows.slot_tuple_getitem.lookup, ht.typeIs, ?_⟩
  refine HT.getItem_tuple_cut ht hs pl pu (by rw [hlen]; exact hw) ?_ (by rw [hlen]; exact hz)
  rw [hlen]
  refine ⟨.ref s.heap.objs.size, _, I.laid (t' := s.toks) (o := .tup (cutV xs lo hi)) (fun b ob q => Heap.get?_push_of_some _ q) (Nat.le_refl _) ?_, rfl, q _ (I.hok.fresh (Nat.le_refl _))⟩
  exact ⟨Nat.le_trans (cutV_length xs lo hi) hz, _, (r.drop (HT.sIx xs.length 0 lo)).take (HT.sIx xs.length xs.length hi - HT.sIx xs.length 0 lo), IsTup.new _ _⟩
end
end L2
namespace L2
open PySem PySem.Spec PyProof.Rows
noncomputable def ixN (n : Nat) (i : Int) : Option Nat := if 0 ≤ i then (if i < n then some i.toNat else none) else if -(n : Int) ≤ i then some (i + n).toNat else none
noncomputable def atI {α : Type} (xs : List α) (i : Int) : Option α := (ixN xs.length i).bind fun j => xs[j]?
theorem ixN_seq {n : Nat} {i : Int} {j : Nat} (h : ixN n i = some j) : seqIndex? i n = some j ∧ j < n ∧ -(n : Int) ≤ i ∧ i < n := by
  unfold ixN at h
  by_cases h0 : 0 ≤ i
  · rw [if_pos h0] at h
    by_cases h1 : i < n
    · rw [if_pos h1] at h
      have e : i.toNat = j := Option.some.inj h
      exact ⟨by rw [seqIndex_of h0 h1, e], by omega, by omega, h1⟩
    · rw [if_neg h1] at h; cases h
  · rw [if_neg h0] at h
    by_cases h1 : -(n : Int) ≤ i
    · rw [if_pos h1] at h
      have e : (i + n).toNat = j := Option.some.inj h
      exact ⟨by rw [seqIndex_neg (by omega) h1, e], by omega, h1, by omega⟩
    · rw [if_neg h1] at h; cases h
theorem atI_get {α : Type} {xs : List α} {i : Int} {v : α} (h : atI xs i = some v) : ∃ j, seqIndex? i xs.length = some j ∧ xs[j]? = some v ∧ j < xs.length ∧ -(xs.length : Int) ≤ i ∧ i < xs.length := by
  unfold atI at h
  cases e : ixN xs.length i with
  | none => rw [e] at h; cases h
  | some j =>
    rw [e] at h
    obtain ⟨h1, h2, h3, h4⟩ := ixN_seq e
    exact ⟨j, h1, h, h2, h3, h4⟩
theorem atI_nat {α : Type} {xs : List α} {j : Nat} {v : α} (h : xs[j]? = some v) : atI xs (j : Int) = some v := by
  have hj : j < xs.length := (List.getElem?_eq_some_iff.mp h).1
  have e : ixN xs.length (j : Int) = some j := by
    unfold ixN
    rw [if_pos (by omega), if_pos (by omega)]; simp
  unfold atI; rw [e]; exact h
noncomputable def PlainIx (b : Expr) : Prop := ∀ o i, subscripted b false o i = operate [o, i] (getItem o i)
noncomputable def IxR (X : Cx) (r : R2) : Prop :=
  ∀ (value slice : Expr) (pins : List (Addr × Obj)) (s : Shared) (σ : St) (H : Hp) (x y : V) (v u : Value) (Q : VK), Inv X pins σ H s → RelV x v → RelV y u → r x y H Q →
    subscripted slice false v u = operate [v, u] (getItem v u) → wpAny (model X.prog X.w) X.A (subscriptTail value slice v u) (EP X pins σ Q) X.xe s
noncomputable def MtR (X : Cx) (id : String) (r : V → List V → Hp → VK → Prop) : Prop :=
  ∀ (pins : List (Addr × Obj)) (s : Shared) (σ : St) (H : Hp) (x : V) (xs : List V) (v : Value) (us : List Value) (Q : VK), Inv X pins σ H s → RelV x v → Vals xs us → r x xs H Q →
    wpAny (model X.prog X.w) X.A (call (.builtin id) (v :: us)) (EP X pins σ Q) X.xe s
section
variable {X : Cx} {a b : Expr} {ta tb : TE} {pos : Pos}
theorem IxR.or {r r' : R2} (h : IxR X r) (h' : IxR X r') : IxR X (fun x y H Q => r x y H Q ∨ r' x y H Q) := by
  intro value slice pins s σ H x y v u Q I rx ry q hs
  rcases q with q | q
  · exact h value slice pins s σ H x y v u Q I rx ry q hs
  · exact h' value slice pins s σ H x y v u Q I rx ry q hs
theorem MtR.or {id : String} {r r' : V → List V → Hp → VK → Prop} (h : MtR X id r) (h' : MtR X id r') : MtR X id (fun x xs H Q => r x xs H Q ∨ r' x xs H Q) := by
  intro pins s σ H x xs v us Q I rx rs q
  rcases q with q | q
  · exact h pins s σ H x xs v us Q I rx rs q
  · exact h' pins s σ H x xs v us Q I rx rs q
theorem pe_ix {r : R2} (hr : IxR X r) (ha : PE X a ta) (hb : PE X b tb) (hs : PlainIx b) : PE X (.Subscript a b pos) (tOp r ta tb) := by
  intro pins s σ H Q I h
  exact Subscript_ (binT ha hb I h fun v u s2 x y H2 I2 rx ry q => hr a b pins s2 σ H2 x y v u Q I2 rx ry q (hs _ _))
noncomputable def rIxL (K : PySem.W.Frag) : R2 := fun x y H Q => ∃ p xs i v, x = .ref p ∧ y = .int i ∧ SqL K H p xs ∧ atI xs i = some v ∧ Q v H
noncomputable def rIxT (K : PySem.W.Frag) : R2 := fun x y H Q => ∃ p xs i v, x = .ref p ∧ y = .int i ∧ SqT K H p xs ∧ atI xs i = some v ∧ Q v H
noncomputable def rIxS : R2 := fun x y H Q => ∃ z i c, x = .str z ∧ y = .int i ∧ z.length ≤ sizeLine ∧ atI z.cps.toList i = some c ∧ Q (.str ⟨#[c]⟩) H
theorem ix_list : IxR X (rIxL X.K) := by
  intro value slice pins s σ H x y v u Q I rx ry h hs
  obtain ⟨p, xs, i, z, rfl, rfl, hq, he, q⟩ := h
  cases rx
  obtain ⟨t, rfl⟩ := ry
  obtain ⟨its, r, pl, hz⟩ := I.list hq
  obtain ⟨j, h1, h2, h3, h4, h5⟩ := atI_get he
  obtain ⟨w, ew, rw'⟩ := r.get h2
  have hl := r.length
  have hn := line63
  have fin : EP X pins σ Q w s := ⟨z, H, I, rw', q⟩
  by_cases h0 : 0 ≤ i
  · have hj : i.toNat = j := by
      rw [seqIndex_of h0 h5] at h1
      exact Option.some.inj h1
    exact item_listR pl.isList h0 (by omega) (by rw [hj]; simpa using ew) fin hs
  · have hj : (i + (its.toArray.size : Int)).toNat = j := by
      rw [seqIndex_neg (by omega) h4] at h1
      rw [List.size_toArray, ← hl]
      exact Option.some.inj h1
    exact subscriptTail_builtinR (x := w) pl.isList.typeIs slot_list_getitem.lookup
      (wpAny_getItem_list_neg (Q := fun r s' => r = w ∧ EP X pins σ Q r s') pl.isList (by omega) (by rw [List.size_toArray] <;> omega) (by omega) (by rw [hj]; simpa using ew) ⟨rfl, fin⟩) hs
theorem ix_tup : IxR X (rIxT X.K) := by
  intro value slice pins s σ H x y v u Q I rx ry h hs
  obtain ⟨p, xs, i, z, rfl, rfl, hq, he, q⟩ := h
  cases rx
  obtain ⟨t, rfl⟩ := ry
  obtain ⟨its, r, pl, hz⟩ := I.tuple hq
  obtain ⟨j, h1, h2, h3, h4, h5⟩ := atI_get he
  obtain ⟨w, ew, rw'⟩ := r.get h2
  have hl := r.length
  have hn := line63
  have fin : EP X pins σ Q w s := ⟨z, H, I, rw', q⟩
  exact subscriptTail_builtinR (x := w) pl.typeIs slot_tuple_getitem.lookup
    (getItem_tuple (j := j) (Q := fun r s' => r = w ∧ EP X pins σ Q r s') pl (by omega) (by omega) (by rw [List.size_toArray, ← hl]; exact h1) (by simpa using ew) ⟨rfl, fin⟩) hs
theorem ix_str : IxR X rIxS := by
  intro value slice pins s σ H x y v u Q I rx ry h hs
  obtain ⟨z, i, c, rfl, rfl, hz, he, q⟩ := h
  obtain ⟨t, rfl⟩ := rx
  obtain ⟨t', rfl⟩ := ry
  obtain ⟨j, h1, h2, h3, h4, h5⟩ := atI_get he
  have hl : z.cps.toList.length = z.length := by simp [Str.length]
  rw [hl] at h1 h4 h5
  have hn := line63
  exact tail_any (typeIs_str s z t) slot_str_getitem.lookup (getItem_str (c := c) (by
    have e1 : decide (i < -(2 ^ 63 : Int)) = false := decide_eq_false (by omega)
    have e2 : decide (i ≥ 2 ^ 63) = false := decide_eq_false (by omega)
    rw [e1, e2, Bool.or_false]) (by rw [h1]; simpa using h2) ⟨.str ⟨#[c]⟩, H, I.tok _, ⟨_, rfl⟩, q⟩) hs
noncomputable def rIx (K : PySem.W.Frag) : R2 := fun x y H Q => rIxL K x y H Q ∨ rIxT K x y H Q ∨ rIxS x y H Q
theorem ix_seq : IxR X (rIx X.K) := ix_list.or (ix_tup.or ix_str)
theorem Inv.lst {pins : List (Addr × Obj)} {σ : St} {H : Hp} {s : Shared} {p : Addr} {xs : List V} (I : Inv X pins σ H s) (h : H p = some (.lst xs)) :
    ∃ (its : List Value) (n : Nat), Vals xs its ∧ s.heap.get? p = some { cls := .type "list", data := .seq its.toArray n } ∧ xs.length ≤ sizeLine := by
  obtain ⟨z, its, n, r, e⟩ := I.hok p _ h
  exact ⟨its, n, r, e, z⟩
theorem slice_bounds (lo hi : Option Int) (n : Nat) : (sliceBounds lo hi none n).1 = ((HT.sIx n 0 lo : Nat) : Int) ∧ (sliceBounds lo hi none n).2.1 = ((HT.sIx n n hi : Nat) : Int) ∧ (sliceBounds lo hi none n).2.2 = 1 := by
  refine ⟨?_, ?_, rfl⟩
  · cases lo with
    | none => simp [sliceBounds, HT.sIx]
    | some i =>
      simp only [sliceBounds, HT.sIx, Option.getD_none, show (1 : Int) > 0 by decide, if_true]
      by_cases h : i < 0
      · simp only [h, if_true] <;> omega
      · simp only [h, if_false] <;> omega
  · cases hi with
    | none => simp [sliceBounds, HT.sIx]
    | some i =>
      simp only [sliceBounds, HT.sIx, Option.getD_none, show (1 : Int) > 0 by decide, if_true]
      by_cases h : i < 0
      · simp only [h, if_true] <;> omega
      · simp only [h, if_false] <;> omega
theorem slicePick_cut (its : List Value) (lo hi : Option Int) : slicePick its.toArray lo hi none = ((its.drop (HT.sIx its.length 0 lo)).take (HT.sIx its.length its.length hi - HT.sIx its.length 0 lo)).toArray := by
  obtain ⟨h1, h2, h3⟩ := slice_bounds lo hi its.toArray.size
  unfold slicePick
  rw [h1, h2, h3]
  simp only [sliceRange_one, pick_run, List.size_toArray] <;> rfl
noncomputable def rSlL (K : PySem.W.Frag) : V → Option Int → Option Int → Hp → VK → Prop := fun x lo hi H Q => ∃ a xs, x = .ref a ∧ SqL K H a xs ∧ ∀ p, H p = none → Q (.ref p) (upd H p (.lst (cutV xs lo hi)))
theorem sl_list : SlR X (rSlL X.K) := by
  intro pins s σ H x v vl vu lo hi sl Q I rx hs pl pu h
  obtain ⟨a, xs, rfl, hx, q⟩ := h
  cases rx
  obtain ⟨its, r, ht, hz⟩ := I.list hx
  have hlen := r.length
  refine ⟨"list", _, slot_list_getitem.lookup, ht.isList.typeIs, ?_⟩
  refine wpAny_getItem_list_slice ht.isList hs pl pu .none (by simp) ?_ (by rw [List.size_toArray] <;> omega)
  rw [slicePick_cut, ← hlen]
  refine ⟨.ref s.heap.objs.size, _, I.laid (t' := s.toks) (o := .lst (cutV xs lo hi)) (fun b ob q => Heap.get?_push_of_some _ q) (Nat.le_refl _) ?_, rfl, q _ (I.hok.fresh (Nat.le_refl _))⟩
  exact ⟨Nat.le_trans (cutV_length xs lo hi) hz, _, 0, (r.drop (HT.sIx xs.length 0 lo)).take (HT.sIx xs.length xs.length hi - HT.sIx xs.length 0 lo), Heap.get?_push_size _ rfl⟩
theorem call_len_seq : CallR X (.builtin "len") (fun xs H Q => ∃ p ys, xs = [.ref p] ∧ (SqL X.K H p ys ∨ SqT X.K H p ys) ∧ Q (.int ys.length) H) := by
  intro pins s σ H xs us Q I r h
  obtain ⟨p, ys, rfl, hq, q⟩ := h
  obtain ⟨u, rfl, rx⟩ := vals1 r
  cases rx
  have hn := line63
  rcases hq with hq | hq
  · obtain ⟨its, r', pl, hz⟩ := I.list hq
    have hlen := r'.length
    exact Calls.call_len_list pl.isList (by simp only [List.size_toArray] <;> omega) ⟨.int ys.length, H, I.tok _, ⟨s.toks + 1, by rw [List.size_toArray, hlen]⟩, q⟩
  · obtain ⟨its, r', pl, hz⟩ := I.tuple hq
    have hlen := r'.length
    exact len_tuple pl (by simp only [List.size_toArray] <;> omega) ⟨.int ys.length, H, I.tok _, ⟨s.toks + 1, by rw [List.size_toArray, hlen]⟩, q⟩
theorem call_len_str : CallR X (.builtin "len") (fun xs H Q => ∃ z, xs = [.str z] ∧ z.length ≤ sizeLine ∧ Q (.int z.length) H) := by
  intro pins s σ H xs us Q I r h
  obtain ⟨z, rfl, hz, q⟩ := h
  obtain ⟨u, rfl, t, rfl⟩ := vals1 r
  have hn := line63
  exact len_str (by omega) ⟨.int z.length, H, I.tok _, ⟨_, rfl⟩, q⟩
theorem CallR.or {f : Value} {r r' : List V → Hp → VK → Prop} (h : CallR X f r) (h' : CallR X f r') : CallR X f (fun xs H Q => r xs H Q ∨ r' xs H Q) := by
  intro pins s σ H xs us Q I rs q
  rcases q with q | q
  · exact h pins s σ H xs us Q I rs q
  · exact h' pins s σ H xs us Q I rs q
noncomputable def tyV (K : PySem.W.Frag) (T : String) (x : V) (H : Hp) : Prop := match x with
  | .str _ => T = "str"
  | .int _ => T = "int"
  | .ref p => (T = "list" ∧ ∃ xs, SqL K H p xs) ∨ (T = "tuple" ∧ ∃ o, K.lookup p = some o ∧ o.cls = .type "tuple" ∧ o.dict = none) ∨
      (T = "dict" ∧ ((∃ kvs, H p = some (.dK kvs)) ∨ ∃ kvs, H p = some (.dT kvs))) ∨ (T = "set" ∧ ∃ S n, H p = some (.set S n))
  | _ => False
theorem tyV_is {pins : List (Addr × Obj)} {σ : St} {H : Hp} {s : Shared} {T : String} {x : V} {v : Value} (I : Inv X pins σ H s) (r : RelV x v) (ty : tyV X.K T x H) :
    s.TypeIs v T ∧ ∀ a, v = .ref a → ∃ ob, s.heap.get? a = some ob ∧ ob.dict = none := by
  cases x with
  | str z =>
    obtain ⟨t, rfl⟩ := r
    cases (show T = "str" from ty)
    exact ⟨typeIs_str s z t, fun _ e => nomatch e⟩
  | int i =>
    obtain ⟨t, rfl⟩ := r
    cases (show T = "int" from ty)
    exact ⟨typeIs_int s i t, fun _ e => nomatch e⟩
  | ref p =>
    cases r
    rcases ty with ⟨rfl, xs, hq⟩ | ⟨rfl, o, hk, hc, hd⟩ | ⟨rfl, hk⟩ | ⟨rfl, S, n, hk⟩
    · obtain ⟨its, _, pl, _⟩ := I.list hq
      refine ⟨pl.isList.typeIs, fun a e => ?_⟩
      cases e
      obtain ⟨o, n, e, c, hd, _⟩ := pl
      exact ⟨o, e, hd⟩
    · refine ⟨⟨o, I.kIn p o hk, hc⟩, fun a e => ?_⟩
      cases e
      exact ⟨o, I.kIn _ o hk, hd⟩
    · have z : ∃ o, s.heap.get? p = some o ∧ o.ExactDict := by
        rcases hk with ⟨kvs, hk⟩ | ⟨kvs, hk⟩
        · obtain ⟨_, _, _, _, o, _, _, e, ex, _⟩ := I.hok p _ hk
          exact ⟨o, e, ex⟩
        · obtain ⟨_, _, _, _, o, _, _, e, ex, _⟩ := I.hok p _ hk
          exact ⟨o, e, ex⟩
      obtain ⟨o, e, ex⟩ := z
      refine ⟨⟨o, e, ex.1⟩, fun a e2 => ?_⟩
      cases e2
      exact ⟨o, e, ex.2.1⟩
    · obtain ⟨o, _, _, _, e, ex, _⟩ := I.hok p _ hk
      refine ⟨⟨o, e, ex.1⟩, fun a e2 => ?_⟩
      cases e2
      exact ⟨o, e, ex.2.1⟩
  | _ => exact False.elim ty
noncomputable def tBM0 (K : PySem.W.Frag) (T : String) (r : V → List V → Hp → VK → Prop) (to : TE) : TE := fun σ H Q => to σ H fun x H1 => tyV K T x H1 ∧ r x [] H1 Q
noncomputable def tBM (K : PySem.W.Frag) (T : String) (r : V → List V → Hp → VK → Prop) (to : TE) (t : TA) : TE := fun σ H Q => to σ H fun x H1 => tyV K T x H1 ∧ t σ H1 fun xs H2 => r x xs H2 Q
variable {o e : Expr} {es : List Expr} {to : TE} {t : TA} {name : Str} {apos cpos : Pos} {T id : String} {r : V → List V → Hp → VK → Prop}
theorem pe_bm0 (pa : PlainAttrs T) (slot : Slot T name id) (hty : typeOf (.builtin id) = pure (.type "method_descriptor")) (hm : MtR X id r) (ho : PE X o to)
    (hbase : attributeBase o name X.env (eval o X.env) = eval o X.env := by rfl) (hline : (apos.endLine == cpos.line) = true := by rfl) : PE X (.Call (.Attribute o name apos) [] [] cpos) (tBM0 X.K T r to) := by
  intro pins s σ H Q I h
  refine wpAny_Call_method0_late hbase hline (thn (ho pins s σ H _ I h) fun v s1 ⟨x, H1, I1, r1, ty, q1⟩ => ?_)
  obtain ⟨h1, h2⟩ := tyV_is I1 r1 ty
  exact ⟨T, id, pa, slot, hty, h1, h2, Calls.callWith_builtin rfl (PySem.evalArgs_none (hm pins s1 σ H1 x [] v [] Q I1 r1 .nil q1))⟩
theorem pe_bm (pa : PlainAttrs T) (slot : Slot T name id) (hty : typeOf (.builtin id) = pure (.type "method_descriptor")) (hm : MtR X id r) (ho : PE X o to) (ha : PA X (e :: es) t)
    (hbase : attributeBase o name X.env (eval o X.env) = eval o X.env := by rfl)
    (hfew : ((backTo cpos (starEach (e :: es) X.env)).all (fun x => !x.1) && (backToKw cpos (keywordEach [] X.env)).all (fun x => x.1.isSome)
      && decide ((e :: es).length + ([] : List Keyword).length + (if ([] : List Keyword).isEmpty then 0 else 1) < 30)) = true := by rfl)
    (hline : (apos.endLine == cpos.line) = true := by rfl) (hs : starEach (e :: es) X.env = (false, eval e X.env) :: starEach es X.env := by rfl) (hplain : (backTo cpos (starEach es X.env)).any (·.1) = false := by rfl) :
    PE X (.Call (.Attribute o name apos) (e :: es) [] cpos) (tBM X.K T r to t) := by
  intro pins s σ H Q I h
  refine wpAny_Call_method_late hbase hfew hline rfl (thn (ho pins s σ H _ I h) fun v s1 ⟨x, H1, I1, r1, ty, q1⟩ => ?_)
  obtain ⟨h1, h2⟩ := tyV_is I1 r1 ty
  refine ⟨T, id, pa, slot, hty, h1, h2, ?_⟩
  have hA := ha cpos pins s1 σ H1 _ I1 q1
  rw [hs] at hA ⊢
  refine Calls.callWith_builtin (by show (false || (backTo cpos (starEach es X.env)).any (·.1)) = false; rw [hplain] <;> rfl) (Calls.evalArgs_plain ?_)
  exact thn hA fun us s2 ⟨vs, H2, I2, r2, q2⟩ => hm pins s2 σ H2 x vs v us Q I2 r1 r2 q2
end
end L2
namespace L2
open PySem PySem.Spec PyProof.Rows
noncomputable def MtM (X : Cx) (id : String) (r : V → List V → Hp → VK → Prop) : Prop :=
  ∀ (pins : List (Addr × Obj)) (s : Shared) (σ : St) (H : Hp) (x : V) (xs : List V) (v : Value) (us : List Value) (Q : VK), Inv X pins σ H s → RelV x v → Vals xs us → r x xs H Q →
    wpAny (model X.prog X.w) X.A (call (.builtin id) (v :: us)) (EP X pins σ Q) X.xe s
theorem Vals.one : ∀ {x : V} {us : List Value}, Vals [x] us → ∃ u, us = [u] ∧ RelV x u
  | _, _, .cons r .nil => ⟨_, rfl, r⟩
theorem Vals.two : ∀ {x y : V} {us : List Value}, Vals [x, y] us → ∃ u v, us = [u, v] ∧ RelV x u ∧ RelV y v
  | _, _, _, .cons r (.cons q .nil) => ⟨_, _, rfl, r, q⟩
theorem Vals.zero : ∀ {us : List Value}, Vals [] us → us = []
  | _, .nil => rfl
theorem Vals.dropLast {xs : List V} {us : List Value} (h : Vals xs us) : Vals xs.dropLast us.dropLast := by
  induction h with
  | nil => exact .nil
  | cons r t ih =>
    cases t with
    | nil => exact .nil
    | cons q t' => exact .cons r ih
theorem Vals.eraseIdx : ∀ {xs : List V} {us : List Value} (i : Nat), Vals xs us → Vals (xs.eraseIdx i) (us.eraseIdx i)
  | _, _, _, .nil => .nil
  | _, _, 0, .cons _ t => t
  | _, _, i + 1, .cons r t => .cons r (Vals.eraseIdx i t)
theorem erase_last {α : Type} (l : List α) : l.eraseIdx (l.length - 1) = l.dropLast := by
  induction l with
  | nil => rfl
  | cons a r ih =>
    cases r with
    | nil => rfl
    | cons b r =>
      have e : (a :: b :: r).length - 1 = ((b :: r).length - 1) + 1 := by
        have h1 : (a :: b :: r).length = r.length + 2 := rfl
        have h2 : (b :: r).length = r.length + 1 := rfl
        omega
      rw [e, List.eraseIdx_cons_succ, ih]
      all_goals rfl
section
variable {X : Cx} {pins : List (Addr × Obj)} {σ : St} {H : Hp} {s : Shared} {l b : Addr} {xs ys zs : List V}
theorem Inv.lset {its its' : List Value} {n : Nat} {f : Array Value → Array Value} {t' : Nat} (I : Inv X pins σ H s) (hH : H l = some (.lst xs))
    (e : s.heap.get? l = some { cls := .type "list", data := .seq its.toArray n }) (hf : f its.toArray = its'.toArray) (hv : Vals ys its') (hz : ys.length ≤ sizeLine) :
    Inv X pins σ (upd H l (.lst ys)) { s with heap := s.heap.update l (Obj.mapSeq f), toks := t' } := by
  have q := PySem.IsL.update e f
  rw [hf] at q
  refine I.write (x := l) (e := l) (by rw [hH]; exact trivial) (.inl rfl) (fun b' u hb hu => (Heap.get?_update_other s.heap (Obj.mapSeq f) (Ne.symm hb)).trans hu) ⟨_, q⟩ ?_
  exact ⟨hz, its', _, hv, q⟩
theorem Inv.lnew {its : List Value} {t' : Nat} (I : Inv X pins σ H s) (hv : Vals ys its) (hz : ys.length ≤ sizeLine) :
    Inv X pins σ (upd H s.heap.objs.size (.lst ys)) { s with heap := s.heap.push { cls := .type "list", data := .seq its.toArray }, toks := t' } :=
  I.laid (fun _ _ q => Heap.get?_push_of_some _ q) (Nat.le_refl _) ⟨hz, its, 0, hv, Heap.get?_push_size _ rfl⟩
theorem Inv.fresh (I : Inv X pins σ H s) : H s.heap.objs.size = none := I.hok.fresh (Nat.le_refl _)
theorem Inv.lstM (I : Inv X pins σ H s) (hH : H l = some (.lst xs)) : xs.length ≤ sizeLine ∧ ∃ (its : List Value) (n : Nat), Vals xs its ∧ xs.length = its.length ∧ s.heap.get? l = some { cls := .type "list", data := .seq its.toArray n } := by
  obtain ⟨z, its, n, r, e⟩ := I.hok l _ hH
  exact ⟨z, its, n, r, r.length, e⟩
end
section
variable {X : Cx}
noncomputable def rAppend : V → List V → Hp → VK → Prop := fun x vs H Q => ∃ l xs y, x = .ref l ∧ vs = [y] ∧ H l = some (.lst xs) ∧ xs.length < sizeLine ∧ Q .non (upd H l (.lst (xs ++ [y])))
theorem mt_append : MtM X "list.append" rAppend := by
  intro pins s σ H x vs v us Q I rx rv h
  obtain ⟨l, xs, y, rfl, rfl, hH, hz, q⟩ := h
  cases rx
  obtain ⟨u, rfl, ru⟩ := rv.one
  obtain ⟨z, its, n, r, hl, e⟩ := I.lstM hH
  refine call_meets F.slot_list_append ⟨_, e, rfl⟩ F.entry_list_append (F.args_list_append_2 _ _) (PySem.list_append l its.toArray n u (by rw [List.size_toArray]; omega)) ⟨e, ?_⟩
  refine ⟨.non, _, I.lset (its' := its ++ [u]) hH e (by simp) (r.append (.cons ru .nil)) ?_, rfl, q⟩
  rw [List.length_append, List.length_singleton]
  omega
noncomputable def rPop : V → List V → Hp → VK → Prop := fun x vs H Q => ∃ l xs y, x = .ref l ∧ vs = [] ∧ H l = some (.lst xs) ∧ xs[xs.length - 1]? = some y ∧ Q y (upd H l (.lst xs.dropLast))
theorem mt_pop : MtM X "list.pop" rPop := by
  intro pins s σ H x vs v us Q I rx rv h
  obtain ⟨l, xs, y, rfl, rfl, hH, hy, q⟩ := h
  cases rx
  have hus := rv.zero
  subst hus
  obtain ⟨z, its, n, r, hl, e⟩ := I.lstM hH
  obtain ⟨u, hu, ru⟩ := r.get hy
  have hy' : its.toArray[its.toArray.size - 1]? = some u := by
    show its.toArray[its.length - 1]? = some u
    rw [← Array.getElem?_toList, ← hl]
    exact hu
  refine call_meets F.slot_list_pop ⟨_, e, rfl⟩ F.entry_list_pop (F.args_list_pop_1 _) (MeetsSeq.list_pop_last l its.toArray n u hy' (by rw [List.size_toArray]; omega)) ⟨e, ?_⟩
  refine ⟨y, _, I.lset (its' := its.dropLast) hH e ?_ r.dropLast ?_, ru, q⟩
  · show its.toArray.eraseIdxIfInBounds (its.toArray.size - 1) = its.dropLast.toArray
    rw [List.size_toArray, List.eraseIdxIfInBounds_toArray, erase_last]
  · rw [List.length_dropLast]
    omega
end
section
variable {prog : Program} {w : World} {A : Around} {E : Value → Shared → Prop} {s : Shared}
end
section
variable {X : Cx}
end
end L2
namespace Att
open PySem PySem.W PySem.Calls PyProof.Rows
theorem ints_of_wellAll {P : Params} {h : Heap} : ∀ (ns : List Int) (vs : List Value), WellAll P h vs (ns.map WData.int) → IntsAre vs ns := by
  intro ns
  induction ns with
  | nil =>
    intro vs w
    rw [List.map_nil] at w
    cases w
    exact .nil
  | cons n ns ih =>
    intro vs w
    rw [List.map_cons] at w
    cases w with
    | cons a b =>
      cases a
      exact .cons _ _ (ih _ b)
theorem script_of {l : OpenLaw} {n : Nat} (hn : l.most = some n) {P : Params} {h : Heap} {args : List WData} {vals : List Value}
    (hpre : l.row.toRowW.claim.pre args = true) (hwl : WellAll P h vals args) :
    ∃ a vs ns, vals = [Value.ref a] ∧ args = [WData.list (ns.map WData.int)] ∧ h.get? a = some { cls := .type "list", data := .seq vs.toArray } ∧ IntsAre vs ns ∧ ns.length ≤ n := by
  have hsh : WShape.hasAll [] args [.list .int] = true := (pre_splitW hpre).1
  have hc : l.pre.holds [] { args := args } = true := (pre_splitW hpre).2
  obtain ⟨d, r, rfl, h1, h2⟩ := hasAllW_cons hsh
  obtain rfl := hasAllW_nil h2
  obtain ⟨xs, rfl, h3⟩ := hasW_list h1
  obtain ⟨ns, rfl⟩ := items_int h3
  have hlen : ns.length ≤ n := by
    unfold OpenLaw.pre at hc
    have h4 : (WTm.not (.lt (.lit (.int (n : Int))) (.len (.arg 0)))).holds [] { args := [.list (ns.map .int)] } = true := by
      have h4 := (holds_andW hc).1
      rw [hn] at h4
      exact h4
    have h5 := condW_of h4 (w_not (w_lt w_lit (w_len_list (w_arg rfl))))
    rw [List.length_map] at h5
    refine Nat.le_of_not_lt fun q => ?_
    have q' : (n : Int) < ((ns.length : Nat) : Int) := by omega
    first
      | (rw [decide_eq_true q'] at h5; exact absurd h5 (by decide))
      | (simp at h5; omega)
  cases hwl with
  | cons w1 w2 =>
    cases w2
    cases w1 with
    | list ho hall => exact ⟨_, _, ns, rfl, rfl, ho, ints_of_wellAll ns _ hall, hlen⟩
theorem post_true (l : OpenLaw) (args : List WData) : l.row.toRowW.claim.post args (.bool true) args = true :=
  postW_of (r := l.row.toRowW) (X := (true == true))
    (show WShape.has [] (.bool true) .bool = true by first | rfl | decide | simp [WShape.has, WShape.arms, WShape.armsAll])
    (show (WTm.eq .res (.lit (.bool true))).value [] { args := args, res := some (.bool true), after := args } = some (.bool (true == true)) from w_eq_bool (w_res rfl) w_lit) rfl
theorem attach_call {l : OpenLaw} {n : Nat} {q : Program} {loose : List Str} {XP : (Str → Option Value) → Heap → Prop} {YP : World → Heap → Prop} {d : DefRec}
    (hn : l.most = some n) (hdf : d.params.defaults = [])
    (call : ∀ (w : World) (s₀ s₁ : Shared) (mg mb : Str → Option Value) (fa : Addr) (o : Obj) (pm cd doc : Value) (a : Addr) (vs : List Value) (ns : List Int),
      Ground q loose [] XP w s₀ mg mb s₁.heap → YP w s₁.heap →
      s₁.heap.get? fa = some o → o.data = .func (docDef d.name d.params d.body d.scope pm cd doc) → s₁.heap.CodeRec cd d.name → mg d.name = some (.ref fa) →
      s₁.heap.get? a = some { cls := .type "list", data := .seq vs.toArray } → IntsAre vs ns → ns.length ≤ n → s₁.gens = #[] →
      codeAny (model l.prog w) callerA (.call (.ref fa) ⟨[.ref a], []⟩) (fun r s' => r = .ok (.ret (.bool true)) ∧ OldK s₁.heap s'.heap ∧ s'.os = s₁.os ∧ AllBare s'.gens) s₁) :
    WalkO q loose XP YP l.row.toRowW d [] (fun f vs => PySem.call f vs) := by
  intro w s₀ s₁ mg mb G Y fa o pm cd doc dV kV ho hd hcd hD hmg hg args vals as hpre hlay hrd hwl hlo
  obtain rfl : dV = .none := Dflts.none hD hdf
  obtain rfl : kV = .none := Dflts.noKw hD
  obtain ⟨a, vs, ns, rfl, rfl, hobj, hints, hlen⟩ := script_of hn hpre hwl
  refine enter_call (codeAny_mono (call w s₀ s₁ mg mb fa o pm cd doc a vs ns G Y ho (fd_plain hd) hcd hmg hobj hints hlen hg) fun r s' hq => ?_)
  obtain ⟨rfl, h2, h3, h4⟩ := hq
  exact ⟨.inl ⟨.bool true, .bool true, [], rfl, fun _ => rfl, .bool true, post_true l _, fun _ => ⟨List.Pairwise.nil, fun _ hm => (nomatch hm)⟩⟩, h2, h3, h4⟩
section
variable {prog : Program} {w : World} {A : Around} {E : Value → Shared → Prop} {s : Shared} {K : Frag}
noncomputable def ledger (h : Heap) (L d : Addr) : List (Addr × Obj) := (List.range h.objs.size).filterMap fun a => if a = L ∨ a = d then none else (h.get? a).map fun o => (a, o)
end
end Att
namespace L2
open PySem PySem.Spec PyProof.Rows
theorem vals_ints : ∀ {vs : List Value} {ns : List Int}, IntsAre vs ns → Vals (ns.map V.int) vs
  | _, _, .nil => .nil
  | _, _, .cons n t h => .cons ⟨t, rfl⟩ (vals_ints h)
noncomputable def Only (H : Hp) : Prop := ∀ b, H b = none ∨ ∃ o xs, H b = some (.frz o (.lst xs))
theorem law_call {P : Program} {w : World} {K : PySem.W.Frag} {mg mb : Str → Option Value} {CX : CXT} {k : Nat} {fa a : Addr} {fd : FuncData} {x : Str} {sp : Sp} {s₁ : Shared} {vs : List Value} {ns : List Int}
    (KX : K.In s₁.heap) (hns : s₁.heap.Ns mainGlobals mg) (hb : s₁.heap.Ns builtinsNs mb) (hbb : ∀ x : Str, x ≠ "__name__" → mb x = bootBuiltins x) (hlim : s₁.heap.NoLimit) (hg : s₁.gens = #[])
    (ha : s₁.heap.get? a = some { cls := .type "list", data := .seq vs.toArray }) (hi : IntsAre vs ns) (hl : ns.length ≤ sizeLine) (hr : Room k callerA)
    (F : ∀ base : Heap, K.In base → base.Ns mainGlobals mg → FnOk P w K mg base CX k fa fd [x] sp) (hbind : ∀ (s : Shared) (u : Value), BindsTo s fd ⟨[u], []⟩ [(x, u)])
    (hsp : ∀ H : Hp, Only H → SqL K H a (ns.map V.int) → sp [.ref a] H (fun v _ => v = .bl true) fun _ _ _ => False)
    (hCX : ∀ H e s', CX [] H s₁ (fun _ _ _ => False) e s' → False) :
    codeAny (model P w) callerA (.call (.ref fa) ⟨[.ref a], []⟩) (fun r s' => r = .ok (.ret (.bool true)) ∧ OldK s₁.heap s'.heap ∧ s'.os = s₁.os ∧ AllBare s'.gens) s₁ := by
  have rv := vals_ints hi
  have lenV := hi.length
  -- from an abstract heap in which nothing but the script may be tracked
  have core : ∀ H : Hp, Only H → SqL K H a (ns.map V.int) → HOk P w H s₁.heap → (∀ b, H b ≠ none → b = a) → (H a ≠ none → K.lookup a = none) →
      codeAny (model P w) callerA (.call (.ref fa) ⟨[.ref a], []⟩) (fun r s' => r = .ok (.ret (.bool true)) ∧ OldK s₁.heap s'.heap ∧ s'.os = s₁.os ∧ AllBare s'.gens) s₁ := by
    intro H hO hS hok hA hK
    have base_of : ∀ {b : Addr} {o : Obj}, s₁.heap.get? b = some o → H b = none → (hidT s₁.heap H).get? b = some o := fun e n => hidT_get e n
    have noA : ∀ {b : Addr} {o : Obj} {es : Array DictEntry} {ep : Nat}, s₁.heap.get? b = some o → o.data = .dict es ep → H b = none := fun {b o es ep} e d => by
      cases q : H b with
      | none => rfl
      | some u =>
        have e' : b = a := hA b (by rw [q]; simp)
        subst e'
        rw [ha] at e; cases e
        have d' : Data.seq vs.toArray _ = Data.dict es ep := d
        cases d'
    have nsK : ∀ {b : Addr} {m : Str → Option Value}, s₁.heap.Ns b m → (hidT s₁.heap H).Ns b m := fun {b m} ⟨o, es, ep, e, d, r⟩ => ⟨o, es, ep, base_of e (noA e d), d, r⟩
    have hKb : K.In (hidT s₁.heap H) := fun b o e => base_of (KX b o e) (by
      cases q : H b with
      | none => rfl
      | some u =>
        have e' : b = a := hA b (by rw [q]; simp)
        subst e'
        rw [hK (by rw [q]; simp)] at e; cases e)
    have hM : Mod K mg (hidT s₁.heap H) := ⟨hKb, nsK hns, ⟨mb, nsK hb, hbb⟩, let ⟨mc, h1, h2⟩ := hlim; ⟨mc, nsK h1, h2⟩⟩
    have e0 : Env0 P w K mg (hidT s₁.heap H) callerA [] s₁ H := ⟨rfl, hM, fun b o e => of_hidT e, Nat.le_of_eq (hidT_size _ _), trivial, fun b hb => absurd (show b ∈ ([] : List Addr) from hb) (by simp), hok, .of_eq hg⟩
    refine codeAny_mono ((F _ hKb (nsK hns)).run callerA [] s₁ H ⟨[.ref a], []⟩ [.ref a] [.ref a] _ _ hr e0 (hbind s₁ (.ref a)) (.cons rfl .nil) (hsp H hO hS)) fun r s' h => ?_
    cases r with
    | error e => exact (hCX H e s' h).elim
    | ok fl =>
      cases fl with
      | next => exact False.elim h
      | brk => exact False.elim h
      | cont => exact False.elim h
      | ret u =>
        obtain ⟨v, H', os, bare, un, hok', r', q⟩ := h
        have q' : v = .bl true := q
        subst q'
        obtain rfl : u = Value.bool true := r'
        refine ⟨rfl, OldK.of_keep fun b o e => ?_, os, bare⟩
        cases q : H b with
        | none => exact un.keep b o e q (by intro z; exact absurd (show b ∈ ([] : List Addr) from z) (by simp)) (by simp)
        | some u =>
          rcases hO b with z | ⟨ob, xs, z⟩
          · rw [q] at z; cases z
          · have z2 := un.frzs b ob _ z
            obtain ⟨e1, _⟩ := hok b _ z
            obtain ⟨e2, _⟩ := hok' b _ z2
            rw [e] at e1; cases e1
            exact e2
  cases hk : K.lookup a with
  | some o =>
    -- the script is one of the module's own objects
    have e := KX a o hk
    rw [ha] at e
    cases e
    refine core (fun _ => none) (fun _ => .inl rfl) (.inr ⟨_, vs.toArray, _, hk, rfl, rfl, rfl, by rw [List.size_toArray, lenV]; exact hl, by simpa using rv⟩) (fun b u z => by have z' : (none : Option HO) = some u := z; cases z') (fun b z => absurd rfl z) fun z => absurd rfl z
  | none =>
    refine core (fun b => if b = a then some (.frz { cls := .type "list", data := .seq vs.toArray } (.lst (ns.map V.int))) else none) (fun b => ?_) (.inl (.inr ⟨{ cls := .type "list", data := .seq vs.toArray }, if_pos rfl⟩)) (fun b u z => ?_) (fun b z => ?_) fun _ => hk
    · by_cases hb : b = a
      · exact .inr ⟨_, _, if_pos hb⟩
      · exact .inl (if_neg hb)
    · by_cases hb : b = a
      · have z' := (if_pos hb).symm.trans z
        cases z'
        subst hb
        exact ⟨ha, by rw [List.length_map]; exact hl, vs, _, rv, ha⟩
      · have z' := (if_neg hb).symm.trans z
        cases z'
    · by_cases hb : b = a
      · exact hb
      · exact absurd (if_neg hb) z
end L2
namespace L2
open PySem PySem.Spec PyProof.Rows
noncomputable abbrev KOf {K : PySem.W.Frag} {h : Heap} (_ : K.In h) : PySem.W.Frag := K
theorem walk_of {l : PySem.W.OpenLaw} {n k : Nat} {q : Program} {loose : List Str} {XP : (Str → Option Value) → Heap → Prop} {YP : World → Heap → Prop} {d : DefRec} {K : Params → PySem.W.Frag} {CX : World → CXT} {sp : World → Sp} {x : Str}
    (hn : l.most = some n) (hn2 : n ≤ sizeLine) (hdf : d.params.defaults = []) (hr : Room k callerA)
    (hY : ∀ (w : World) (h : Heap), YP w h → (K w.params).In h)
    (F : ∀ (w : World) (mg : Str → Option Value) (fa : Addr) (h : Heap), (K w.params).In h → h.Ns mainGlobals mg → mg d.name = some (.ref fa) →
      ∃ fd : FuncData, (∀ (s : Shared) (u : Value), BindsTo s fd ⟨[u], []⟩ [(x, u)]) ∧
        ∀ base : Heap, (K w.params).In base → base.Ns mainGlobals mg → FnOk l.prog w (K w.params) mg base (CX w) k fa fd [x] (sp w))
    (hsp : ∀ (w : World) (H : Hp) (a : Addr) (ns : List Int), ns.length ≤ n → Only H → SqL (K w.params) H a (ns.map V.int) → sp w [.ref a] H (fun v _ => v = .bl true) fun _ _ _ => False)
    (hCX : ∀ (w : World) (H : Hp) (s : Shared) (e : Value) (s' : Shared), CX w [] H s (fun _ _ _ => False) e s' → False) :
    PySem.W.WalkO q loose XP YP l.row.toRowW d [] (fun f vs => PySem.call f vs) := by
  refine Att.attach_call hn hdf fun w s₀ s₁ mg mb fa o pm cd doc a vs ns G Y ho hd hcd hmg hobj hints hlen hg => ?_
  have KX := hY w _ Y
  obtain ⟨fd, hb, hF⟩ := F w mg fa _ KX G.T.g hmg
  exact law_call KX G.T.g G.T.b G.T.builtins G.T.nolimit hg hobj hints (Nat.le_trans hlen hn2) hr hF hb (fun H hO hS => hsp w H a ns hlen hO hS) fun H e s' => hCX w H s₁ e s'
end L2
namespace L2
open PySem PySem.Spec PyProof.Rows
noncomputable def defArgs (s : Stmt) : Arguments := match s with
  | .FunctionDef _ a _ _ _ _ _ _ _ _ => a
  | _ => { posonlyargs := [], args := [], vararg := none, kwonlyargs := [], kw_defaults := [], kwarg := none, defaults := [] }
noncomputable def defBody (s : Stmt) : List Stmt := match s with
  | .FunctionDef _ _ b _ _ _ _ _ _ _ => b
  | _ => []
noncomputable def defScope (s : Stmt) : Scope := match s with
  | .FunctionDef _ _ _ _ _ _ sc _ _ _ => sc
  | _ => { kind := .function, names := [], isGenerator := false, isCoroutine := false }
noncomputable abbrev CX0 : CXT := fun _ _ _ _ _ _ => False
structure Fun (K : PySem.W.Frag) (x qual : Str) (st : Stmt) (f : Addr) (fd : FuncData) : Prop where
  ex : ∃ (oc : Value) (od : Option Addr) (kV doc pm : Value) (an : Option Addr) (cdv ct : Value) (osl : Array (Option Value)),
    fd = PySem.W.fnOf x qual (defArgs st) (defBody st) (defScope st) .none kV doc pm an cdv ct ∧ K.lookup f = some ⟨oc, od, .func fd, osl⟩ ∧ PySem.W.codeIn K cdv qual = true
  kp : PySem.W.keepIn K (.ref f) = true
section
variable {P : Program} {w : World} {K : PySem.W.Frag} {mg : Str → Option Value} {base : Heap}
theorem Fun.ok {x qual : Str} {st : Stmt} {f : Addr} {fd : FuncData} {N ps : List Str} {k : Nat} {sp : Sp} (F : Fun K x qual st f fd) (S : FnScope N ps (defScope st)) (len : ∀ vs H Q E, sp vs H Q E → vs.length = ps.length)
    (hbody : ∀ (cdv : Value) (A : Around) (outer : List Env) (s : Shared) (H : Hp) (vs : List V) (Q : VK) (E : XK), Room k (A.deeper (envOfC qual (defScope st) s.heap.objs.size f cdv)) → sp vs H Q E →
      ∃ t, PSs (cxOf CX0 P w K mg base N qual (defScope st) f cdv A outer s H E).nox (defBody st) t ∧ t { nx := fun _ H' => Q .non H', rt := Q } (start N vs) H) : FnOk P w K mg base CX0 (k + 1) f fd ps sp := by
  obtain ⟨oc, od, kV, doc, pm, an, cdv, ct, osl, rfl, lk, hcd⟩ := F.ex
  refine fn_of lk hcd S len fun A outer s H vs Q E hr hsp => ?_
  obtain ⟨t, h, q⟩ := hbody cdv A outer s H vs Q E hr hsp
  exact ⟨t, h.nox, q⟩
theorem Fun.binds {x qual : Str} {st : Stmt} {f : Addr} {fd : FuncData} {ps : List Str} (F : Fun K x qual st f fd)
    (h : ∀ (kV doc pm : Value) (an : Option Addr) (cdv ct : Value) (us : List Value), us.length = ps.length → bindArgs (PySem.W.fnOf x qual (defArgs st) (defBody st) (defScope st) .none kV doc pm an cdv ct) ⟨us, []⟩ = pure (ps.zip us)) : Binds K fd ps [] := by
  obtain ⟨oc, od, kV, doc, pm, an, cdv, ct, osl, rfl, lk, hcd⟩ := F.ex
  exact .all (h kV doc pm an cdv ct)
theorem fun_mk {x qual : Str} {st : Stmt} {f : Addr} {oc : Value} {od an : Option Addr} {osl : Array (Option Value)} {kV doc pm cdv ct : Value} (l : K.lookup f = some ⟨oc, od, .func (PySem.W.fnOf x qual (defArgs st) (defBody st) (defScope st) .none kV doc pm an cdv ct), osl⟩)
    (c : PySem.W.codeIn K cdv qual = true) (k : PySem.W.keepIn K (.ref f) = true) : Fun K x qual st f (PySem.W.fnOf x qual (defArgs st) (defBody st) (defScope st) .none kV doc pm an cdv ct) := ⟨⟨oc, od, kV, doc, pm, an, cdv, ct, osl, rfl, l, c⟩, k⟩
end
section
variable {X : Cx}
theorem pv (i : Nat) {x : Str} {pos : Pos} (hN : X.N[i]? = some x := by rfl) (hv : Vis X.env.scope x := by first | exact Or.inl rfl | exact Or.inr (Or.inl rfl) | exact Or.inr (Or.inr rfl)) (hd : (x == ("__debug__" : Str)) = false := by decide)
    (hcd : (x == ("__classdict__" : Str)) = false := by decide) : PE X (.Name x pos) (tVar i) := pe_var hN hv hd hcd
end
theorem iteF {A B : Prop} (h : B) : if false = true then A else B := by
  rw [if_neg Bool.false_ne_true]
  exact h
theorem iteT {A B : Prop} (h : A) : if true = true then A else B := by
  rw [if_pos rfl]
  exact h
noncomputable def Same (H H' : Hp) : Prop := ∀ b o, H b = some o → H' b = some o
theorem Same.refl (H : Hp) : Same H H := fun _ _ h => h
theorem Same.trans {H H1 H2 : Hp} (a : Same H H1) (b : Same H1 H2) : Same H H2 := fun c o h => b c o (a c o h)
theorem Same.free {H H' : Hp} (e : Same H H') {l : Addr} (h : H' l = Option.none) : H l = Option.none := by
  cases q : H l with
  | none => rfl
  | some o =>
    rw [e l o q] at h
    cases h
theorem Same.seq {K : PySem.W.Frag} {H H' : Hp} {a : Addr} {xs : List V} (e : Same H H') (h : SqL K H a xs) : SqL K H' a xs := by
  rcases h with (h | ⟨o, h⟩) | h
  · exact .inl (.inl (e _ _ h))
  · exact .inl (.inr ⟨o, e _ _ h⟩)
  · exact .inr h
end L2
namespace Fx
open PySem
theorem dict_mapF (o : Obj) (f : Array Value → Array Value) : (o.mapFields f).dict = o.dict := by
  rcases o with ⟨c, d, dt, sl⟩
  cases dt <;> rfl
noncomputable def Dk (h : Heap) (e : Addr) (d : Option Addr) : Prop := ∀ dx, d = some dx → ∃ oe, h.get? e = some oe ∧ oe.dict = some dx
noncomputable def Fly (B : Heap) (l : List Env) (e : Addr) (cls : Value) (d : Option Addr) (h : Heap) : Prop :=
  (∃ a0, Heap.FlyingW B l e cls a0 h) ∧ Dk h e d
noncomputable def Held (B : Heap) (l : List Env) (e : Addr) (cls : Value) (d : Option Addr) (L : Addr) (h : Heap) : Prop :=
  (∃ a0, Heap.HeldW B l e cls a0 L h) ∧ Dk h e d
theorem dk_upd {h : Heap} {e b : Addr} {d : Option Addr} {f : Array Value → Array Value} {o : Obj} {vs : Array Value} (hb : h.get? b = some o) (hd : o.data = .fields vs) (k : Dk h e d) :
    Dk (h.update b (Obj.mapFields f)) e d := by
  intro dx hx
  obtain ⟨oe, h1, h2⟩ := k dx hx
  by_cases q : b = e
  · subst q
    rw [hb] at h1
    cases h1
    exact ⟨_, Heap.get?_update_self _ hb (Obj.isFreed_of_fields (Obj.data_mapFields hd f)), by rw [dict_mapF]; exact h2⟩
  · exact ⟨oe, by rw [Heap.get?_update_other _ _ q]; exact h1, h2⟩
section
variable {M : Model} {A : Around} {E : Value → Shared → Prop} {s : Shared} {B : Heap} {env : Env} {outer l : List Env} {L e : Addr} {cls : Value} {d : Option Addr} {Q : Unit → Shared → Prop}
theorem entry_held {oe : Obj} {vs : Array Value} {head a0 : Value} {more : Bool} (hfr : A.frames = some (env :: outer)) (ff : s.heap.FunFrames B (env :: outer)) (hf : env.frame = some L)
    (he : s.heap.get? e = some oe) (st : B.StaysIn s.heap) (fe : B.get? e = none) (hd : oe.data = .fields vs) (hz : 1 < vs.size) (h0 : vs[0]? = some a0) (dk : Dk s.heap e d)
    (hQ : ∀ h1, Held B (env :: outer) e oe.cls d L h1 → s.heap.UpToSlots h1 → Q () { s with heap := h1 }) :
    wpAny M A (do
      let fr ← frameOf env
      let at_ ← entryPlaceOf L more
      let tb ← EntryCells.newEntry head fr .none (rawInt L) .none at_
      setField (.ref e) 1 tb) Q E s := by
  have ne : e ∉ (env :: outer).filterMap (·.frame) := fun z => by
    obtain ⟨_, o2, g1, g2⟩ := ff.mem z
    rw [he] at g1; cases g1; exact g2 vs hd
  refine wpAny_bind (wpAny_frameOf_fun hfr ff hf fun h2 so => ?_)
  refine wpAny_bind (wpAny_entryPlaceOf fun places ok => ?_)
  unfold EntryCells.newEntry newFields
  refine wpAny_bind (wpAny_newObj_type ?_ (ok.sizeOk5 _ _ _ _ _))
  have he2 : h2.get? e = some oe := by rw [so.2.1 e ne]; exact he
  have st2 : B.StaysIn h2 := fun b o q => by
    rw [so.2.1 b fun z => by rw [(ff.mem z).1] at q; cases q]
    exact st b o q
  generalize hO : ({ cls := .type "traceback", dict := none, data := .fields ([head, .ref L, .none, rawInt L, .none] ++ (if places.isEmpty then List.replicate 6 Value.none else places)).toArray } : Obj) = tbo
  have he3 : (h2.push tbo).get? e = some oe := Heap.get?_push_of_some _ he2
  refine wpAny_setField he3 hd hz (hQ _ ?_ ?_)
  all_goals
    have nT : h2.objs.size ≠ e := Nat.ne_of_gt (Heap.lt_size he2)
    have keep : ∀ b o, b ≠ e → h2.get? b = some o → ((h2.push tbo).update e (Obj.mapFields (·.setIfInBounds 1 (Value.ref h2.objs.size)))).get? b = some o := fun b o nb hb => by
      rw [Heap.get?_update_other _ _ (Ne.symm nb)]
      exact Heap.get?_push_of_some _ hb
    have nrec : ∀ b o, s.heap.get? b = some o → (∀ ws, o.data ≠ .fields ws) → b ≠ e := fun b o hb nf z => by
      subst z; rw [he] at hb; cases hb; exact nf vs hd
  · have hd4 := Obj.data_mapFields hd (·.setIfInBounds 1 (Value.ref h2.objs.size))
    have he4 := Heap.get?_update_self (Obj.mapFields (·.setIfInBounds 1 (Value.ref h2.objs.size))) he3 (Obj.isFreed_of_fields hd4)
    have hT4 : ((h2.push tbo).update e (Obj.mapFields (·.setIfInBounds 1 (Value.ref h2.objs.size)))).get? h2.objs.size = some tbo := by
      rw [Heap.get?_update_other _ _ (Ne.symm nT)]
      exact Heap.get?_push_size h2 (by rw [← hO]; rfl)
    refine ⟨⟨a0, fun b o q => keep b o (fun z => by rw [z, fe] at q; cases q) (st2 b o q), fe, ff.of_keeps fun b o hb nf => ?_, ?_⟩, fun dx hx => ?_⟩
    · obtain ⟨sl, z⟩ := so.2.2 b o hb
      exact ⟨_, keep b _ (nrec b o hb nf) z, rfl⟩
    · refine ⟨_, _, h2.objs.size, tbo, _, he4, ⟨Obj.cls_mapFields _ _, ?_⟩, hd4, by simp [hz], st2.fresh, nT, hT4, by rw [← hO], ?_⟩
      · rw [Array.getElem?_setIfInBounds_ne (by decide)]; exact h0
      · rcases ok with z | ⟨_, _, _, _, _, _, _, z⟩ <;> (rw [z]; simp)
    · obtain ⟨o1, g1, g2⟩ := dk dx hx
      rw [he] at g1; cases g1
      exact ⟨_, he4, by rw [dict_mapF]; exact g2⟩
  · intro b o hb nf
    obtain ⟨sl, z⟩ := so.2.2 b o hb
    exact ⟨sl, keep b _ (nrec b o hb nf) z⟩
theorem fly_note (hfr : A.frames = some (env :: outer)) (hf : env.frame = some L) (x : Fly B (env :: outer) e cls d s.heap)
    (hQ : ∀ h1, Held B (env :: outer) e cls d L h1 → s.heap.UpToSlots h1 → Q () { s with heap := h1 }) : wpAny M A (noteFrame (.ref e) env) Q E s := by
  obtain ⟨⟨a0, st, fe, ff, oe, vs, T, oT, ts, he, ⟨hc, h0⟩, hd, h1, bT, Te, hT, hdT, h3⟩, dk⟩ := x
  subst hc
  unfold noteFrame
  simp only [hf]
  refine wpAny_bind (wpAny_field he hd h1 ?_)
  rw [if_pos (by simp)]
  refine wpAny_bind (wpAny_field hT hdT h3 ?_)
  rw [if_neg (by simp [rawInt])]
  refine wpAny_bind (wpAny_setField hT hdT (Array.getElem?_eq_some_iff.mp h3).1 ?_)
  have oth : ∀ b, b ≠ T → (s.heap.update T (Obj.mapFields (·.setIfInBounds 3 Value.none))).get? b = s.heap.get? b := fun b z => Heap.get?_update_other _ _ (Ne.symm z)
  have nrec : ∀ b o, s.heap.get? b = some o → (∀ ws, o.data ≠ .fields ws) → b ≠ T := fun b o hb nf z => by
    subst z; rw [hT] at hb; cases hb; exact nf ts hdT
  refine entry_held (s := { s with heap := s.heap.update T (Obj.mapFields (·.setIfInBounds 3 Value.none)) }) hfr (ff.of_keeps fun b o hb nf => ⟨o, by rw [oth b (nrec b o hb nf)]; exact hb, rfl⟩) hf
    (by rw [oth e (Ne.symm Te)]; exact he) (fun b o q => by rw [oth b fun z => by rw [z, bT] at q; cases q]; exact st b o q) fe hd (Array.getElem?_eq_some_iff.mp h1).1 h0 (dk_upd hT hdT dk) fun h5 hl up => ?_
  exact hQ h5 hl fun b o hb nf => up b o (by rw [oth b (nrec b o hb nf)]; exact hb) nf
theorem land_core {fl a0 : Value} (st : B.StaysIn s.heap) (fe : B.get? e = none) (ff : s.heap.FunFrames B l) (tr : s.heap.TracedAtW B e cls a0 fl) (dk : Dk s.heap e d)
    (hQ : ∀ h1, Fly B l e cls d h1 → s.heap.UpToSlots h1 → Q () { s with heap := h1 }) : wpAny M A (setFlight (.ref e) none) Q E s := by
  obtain ⟨oe, vs, T, oT, ts, he, hc, hd, h1, bT, Te, hT, hdT, h3⟩ := tr
  have z3 : 3 < ts.size := (Array.getElem?_eq_some_iff.mp h3).1
  unfold setFlight
  refine wpAny_bind (wpAny_field he hd h1 ?_)
  rw [if_pos (by simp)]
  refine wpAny_setField hT hdT z3 (hQ _ ⟨⟨a0, ?_⟩, dk_upd hT hdT dk⟩ ?_)
  all_goals
    have oth : ∀ b, b ≠ T → (s.heap.update T (Obj.mapFields (·.setIfInBounds 3 ((none : Option Addr).elim Value.none fun f => rawInt f)))).get? b = s.heap.get? b := fun b z => Heap.get?_update_other _ _ (Ne.symm z)
    have nrec : ∀ b o, s.heap.get? b = some o → (∀ ws, o.data ≠ .fields ws) → b ≠ T := fun b o hb nf z => by
      subst z; rw [hT] at hb; cases hb; exact nf ts hdT
  · refine ⟨fun b o q => by rw [oth b fun z => by rw [z, bT] at q; cases q]; exact st b o q, fe, ff.of_keeps fun b o hb nf => ⟨o, by rw [oth b (nrec b o hb nf)]; exact hb, rfl⟩, ?_⟩
    exact ⟨oe, vs, T, _, _, by rw [oth e (Ne.symm Te)]; exact he, hc, hd, h1, bT, Te, Heap.get?_update_self _ hT (Obj.isFreed_of_fields (Obj.data_mapFields hdT _)), Obj.data_mapFields hdT _, by simp [z3]⟩
  · exact fun b o hb nf => ⟨o.slots, by rw [oth b (nrec b o hb nf)]; exact hb⟩
theorem held_land (x : Held B l e cls d L s.heap) (hQ : ∀ h1, Fly B l e cls d h1 → s.heap.UpToSlots h1 → Q () { s with heap := h1 }) : wpAny M A (setFlight (.ref e) none) Q E s := by
  obtain ⟨⟨a0, st, fe, ff, tr⟩, dk⟩ := x
  exact land_core st fe ff tr dk hQ
theorem Fly.less (x : Fly B (env :: outer) e cls d s.heap) : Fly B outer e cls d s.heap := by
  obtain ⟨⟨a0, st, fe, ⟨_, _, ff⟩, tr⟩, dk⟩ := x
  exact ⟨⟨a0, st, fe, ff, tr⟩, dk⟩
theorem fly_leave (hfr : A.frames = some (env :: outer)) (hf : env.frame = some L) (x : Fly B (env :: outer) e cls d s.heap)
    (hQ : ∀ h1, Fly B outer e cls d h1 → s.heap.UpToSlots h1 → Q () { s with heap := h1 }) : wpAny M A (leaving env (.ref e)) Q E s := by
  unfold leaving
  exact wpAny_bind (fly_note hfr hf x fun h1 x1 u1 => held_land (s := { s with heap := h1 }) x1 fun h2 x2 u2 => hQ h2 (Fly.less (s := { s with heap := h2 }) x2) (u1.trans u2))
end
end Fx
namespace FM
noncomputable def g (a b : Int) : Int := (Int.gcd a b : Int)
theorem g_zero {a : Int} (ha : 0 ≤ a) : g a 0 = a := by
  unfold g; rw [Int.gcd_zero_right]; omega
theorem g_step {a b : Int} (ha : 0 ≤ a) (hb : 0 < b) : g b (a % b) = g a b := by
  unfold g
  congr 1
  obtain ⟨m, rfl⟩ := Int.eq_ofNat_of_zero_le ha
  obtain ⟨n, rfl⟩ := Int.eq_ofNat_of_zero_le (Int.le_of_lt hb)
  show Nat.gcd n ((m : Int) % (n : Int)).natAbs = Nat.gcd m n
  rw [show ((m : Int) % (n : Int)).natAbs = m % n from by omega]
  rw [Nat.gcd_comm m n, Nat.gcd_rec n m, Nat.gcd_comm]
theorem g_pos {a b : Int} (hb : b ≠ 0) : 0 < g a b := by
  unfold g
  have h := Int.gcd_pos_of_ne_zero_right a hb
  omega
theorem g_dvd1 (a b : Int) : g a b ∣ a := Int.gcd_dvd_left ..
theorem g_dvd2 (a b : Int) : g a b ∣ b := Int.gcd_dvd_right ..
noncomputable def dv (t b : Int) : Int := if b < 0 then -(g t b) else g t b
noncomputable def top (t b : Int) : Int := t.fdiv (dv t b)
noncomputable def bot (t b : Int) : Int := b.fdiv (dv t b)
theorem dv_ne {t b : Int} (hb : b ≠ 0) : dv t b ≠ 0 := by
  have := g_pos (a := t) hb
  unfold dv; split <;> omega
theorem fdiv_of_dvd {a d q : Int} (hd : d ≠ 0) (h : a = d * q) : a.fdiv d = q := by
  subst h
  rw [Int.mul_comm]
  exact Int.mul_fdiv_cancel q hd
theorem split {t b : Int} (hb : b ≠ 0) : t = dv t b * top t b ∧ b = dv t b * bot t b := by
  have hd := dv_ne (t := t) hb
  have h1 : dv t b ∣ t := by
    unfold dv; split
    · exact Int.neg_dvd.mpr (g_dvd1 t b)
    · exact g_dvd1 t b
  have h2 : dv t b ∣ b := by
    unfold dv; split
    · exact Int.neg_dvd.mpr (g_dvd2 t b)
    · exact g_dvd2 t b
  obtain ⟨p, hp⟩ := h1
  obtain ⟨q, hq⟩ := h2
  constructor
  · show t = dv t b * t.fdiv (dv t b)
    rw [fdiv_of_dvd hd hp]; exact hp
  · show b = dv t b * b.fdiv (dv t b)
    rw [fdiv_of_dvd hd hq]; exact hq
structure Low (p q : Int) : Prop where
  pos : 0 < q
  one : Int.gcd p q = 1
theorem low_of {t b : Int} (hb : b ≠ 0) : Low (top t b) (bot t b) := by
  obtain ⟨h1, h2⟩ := split (t := t) hb
  have hd := dv_ne (t := t) hb
  have hg := g_pos (a := t) hb
  have hab : (dv t b).natAbs = Int.gcd t b := by
    unfold dv g; split <;> omega
  refine ⟨?_, ?_⟩
  · rcases Int.lt_trichotomy b 0 with h | h | h
    · have e : dv t b = -(g t b) := by unfold dv; rw [if_pos h]
      rw [e] at h2
      refine Int.lt_of_not_ge fun hn => ?_
      have : 0 ≤ -(g t b) * bot t b := by
        have := Int.mul_nonneg_of_nonpos_of_nonpos (show -(g t b) ≤ 0 by omega) hn
        exact this
      omega
    · exact absurd h hb
    · have e : dv t b = g t b := by unfold dv; rw [if_neg (by omega)]
      rw [e] at h2
      refine Int.lt_of_not_ge fun hn => ?_
      have : g t b * bot t b ≤ 0 := Int.mul_nonpos_of_nonneg_of_nonpos (Int.le_of_lt hg) hn
      omega
  · have e : Int.gcd (dv t b * top t b) (dv t b * bot t b) = (dv t b).natAbs * Int.gcd (top t b) (bot t b) := Int.gcd_mul_left ..
    rw [← h1, ← h2, hab] at e
    have hz : 0 < Int.gcd t b := by unfold g at hg; omega
    exact (Nat.eq_of_mul_eq_mul_left hz (by rw [Nat.mul_one]; exact e)).symm
theorem cross {t b : Int} (hb : b ≠ 0) : top t b * b = t * bot t b := by
  obtain ⟨h1, h2⟩ := split (t := t) hb
  have e1 : top t b * b = top t b * (dv t b * bot t b) := by rw [← h2]
  have e2 : t * bot t b = (dv t b * top t b) * bot t b := by rw [← h1]
  rw [e1, e2]
  rw [← Int.mul_assoc, Int.mul_comm (top t b)]
theorem cop {a b c : Int} (h : Int.gcd a b = 1) (d : a ∣ b * c) : a ∣ c := by
  have h' : Nat.Coprime a.natAbs b.natAbs := h
  have d' : a.natAbs ∣ b.natAbs * c.natAbs := by
    rw [← Int.natAbs_mul]; exact Int.natAbs_dvd_natAbs.mpr d
  exact Int.natAbs_dvd_natAbs.mp (h'.dvd_of_dvd_mul_left d')
theorem low_eq {p q p' q' : Int} (a : Low p q) (b : Low p' q') (h : p * q' = p' * q) : p = p' ∧ q = q' := by
  obtain ⟨hq, g1⟩ := a
  obtain ⟨hq', g2⟩ := b
  have d1 : q ∣ q' := by
    have : q ∣ p * q' := by rw [h]; exact Int.dvd_mul_left ..
    exact cop (by rw [Int.gcd_comm]; exact g1) this
  have d2 : q' ∣ q := by
    have : q' ∣ p' * q := by rw [← h]; exact Int.dvd_mul_left ..
    exact cop (by rw [Int.gcd_comm]; exact g2) this
  have e : q = q' := Int.dvd_antisymm (Int.le_of_lt hq) (Int.le_of_lt hq') d1 d2
  subst e
  exact ⟨Int.eq_of_mul_eq_mul_right (by omega) h, rfl⟩
theorem scaled {p q k : Int} (L : Low p q) (hk : k ≠ 0) : top (p * k) (q * k) = p ∧ bot (p * k) (q * k) = q := by
  have hq : q ≠ 0 := by have := L.pos; omega
  have hb : q * k ≠ 0 := Int.mul_ne_zero hq hk
  refine low_eq (low_of hb) L ?_
  have c := cross (t := p * k) hb
  -- top * (q * k) = (p * k) * bot
  refine Int.eq_of_mul_eq_mul_right hk ?_
  rw [Int.mul_assoc, c, Int.mul_assoc, Int.mul_assoc, Int.mul_comm k]
theorem turned {p q k : Int} (L : Low p q) (hk : k ≠ 0) : top (0 - p * k) (0 - q * k) = p ∧ bot (0 - p * k) (0 - q * k) = q := by
  have e1 : 0 - p * k = p * (-k) := by rw [Int.mul_neg]; omega
  have e2 : 0 - q * k = q * (-k) := by rw [Int.mul_neg]; omega
  rw [e1, e2]
  exact scaled L (by omega)
theorem dv_pos {t b : Int} (hb : 0 < b) : dv t b = g t b := by unfold dv; rw [if_neg (by omega)]
theorem dv_abs (t b : Int) : (dv t b).natAbs = Int.gcd t b := by unfold dv g; split <;> omega
theorem dv_le {t b : Int} (hb : b ≠ 0) : (dv t b).natAbs ≤ b.natAbs := by
  rw [dv_abs]
  exact Nat.le_of_dvd (by omega) (Nat.gcd_dvd_right ..)
end FM
namespace Fx
open PySem
section
variable {prog : Program} {w : World} {A : Around} {E : Value → Shared → Prop} {h : Heap} {g : Array GenState} {d : Drawn} {t : Nat} {os : OsState}
variable {nm q : Str} {C N : Addr} {bs bm bmB : List Value} {hdct : Bool} {sn : List Str} {sub : List Value} {ab : Bool} {col : Option Bool} {dd : Option Addr} {k0 k1 k2 k3 k5 : Option Value} {B newId initId : String}
noncomputable abbrev Tlk (h : Heap) (C : Addr) (n : Str) (y : Option Value) : Prop := ∀ (M : Model) (A : Around) (E : Value → Shared → Prop) (g : Array GenState) (d : Drawn) (t : Nat) (os : OsState) (Q : Option Value → Shared → Prop),
  Q y ⟨h, g, d, t, os⟩ → wpAny M A (typeLookup (.ref C) n) Q E ⟨h, g, d, t, os⟩
end
end Fx
set_option maxHeartbeats 4000000
namespace L2
open PySem PySem.Spec PyProof.Rows Fx
noncomputable def CXx (P : Program) (w : World) : CXT := fun outer H s E e s' =>
  ∃ (ea : Addr) (cls : Value) (d : Option Addr) (H1 : Hp) (B : Heap), e = .ref ea ∧ s'.os = s.os ∧ AllBare s'.gens ∧ Fly B outer ea cls d s'.heap ∧
    (∀ h5 : Heap, B.StaysIn h5 → s'.heap.UpToSlots h5 → Un (frs outer) [] H H1 s.heap h5 ∧ HOk P w H1 h5) ∧ H1 ea = none ∧ s.heap.get? ea = none ∧ E cls d H1
structure NewA (X : Cx) (pins : List (Addr × Obj)) (e : Addr) : Prop where
  old : X.s₀.heap.get? e = none
  pin : ∀ p ∈ X.pn ++ pins, p.1 ≠ e
  loc : e ≠ X.env.locals
  cel : ∀ x c, X.env.cells.lookup x = some c → c ≠ e
  frm : e ∉ X.fs
noncomputable def XP (X : Cx) (pins : List (Addr × Obj)) (σ : St) (R : XK) (e : Value) (s' : Shared) : Prop :=
  ∃ (ea : Addr) (cls : Value) (d : Option Addr) (H1 : Hp) (B : Heap), e = .ref ea ∧ Fly B X.stack ea cls d s'.heap ∧
    (∀ h5 : Heap, B.StaysIn h5 → s'.heap.UpToSlots h5 → Inv X pins σ H1 { s' with heap := h5 }) ∧ H1 ea = none ∧ NewA X pins ea ∧ R cls d H1
section
variable {X : Cx} {pins : List (Addr × Obj)} {σ : St} {H : Hp} {s s' : Shared} {e : Value} {E : XK}
theorem Inv.newA {ea : Addr} (I : Inv X pins σ H s) (n : s.heap.get? ea = none) (hex : X.ex = []) : NewA X pins ea := by
  have z : ∀ b o, s.heap.get? b = some o → b ≠ ea := fun b o q w => by rw [w, n] at q; cases q
  refine ⟨?_, fun p hp => z _ _ (I.pin p hp).1, fun w => ?_, fun x c hc => ?_, fun hb => ?_⟩
  · cases q : X.s₀.heap.get? ea with
    | none => rfl
    | some o =>
      obtain ⟨o1, q1⟩ := I.base.there ea o q (by rw [hex]; simp)
      rw [n] at q1; cases q1
  · obtain ⟨m, ⟨o, _, _, ho, _⟩, _⟩ := I.loc
    exact z _ _ ho w.symm
  · obtain ⟨v, o, ho, _⟩ := I.cell x c hc
    exact z _ _ ho
  · obtain ⟨_, o, ho, _⟩ := I.funs.mem hb
    exact z _ _ ho rfl
theorem xp_of (I : Inv X pins σ H s) (h : CXx X.prog X.w X.stack H s E e s') (hex : X.ex = []) : XP X pins σ E e s' := by
  obtain ⟨ea, cls, d, H1, B, rfl, os, bare, fl, cl, en, fr, hE⟩ := h
  refine ⟨ea, cls, d, H1, B, rfl, fl, fun h5 b5 u5 => ?_, en, I.newA fr hex, hE⟩
  obtain ⟨un, hok⟩ := cl h5 b5 u5
  exact I.call' (s' := { s' with heap := h5 }) (ch := []) os un hok bare fun b z => absurd z (by simp)
end
theorem ObjOk.there {P : Program} {w : World} {H : Hp} {h : Heap} {a : Addr} {o : HO} (x : ObjOk P w H h a o) : ∃ ob, h.get? a = some ob := by
  cases o with
  | lst xs => obtain ⟨_, _, _, _, q⟩ := x; exact ⟨_, q⟩
  | tup xs => obtain ⟨_, _, _, ob, q, _⟩ := x; exact ⟨_, q⟩
  | dK kvs => obtain ⟨_, _, _, _, ob, _, _, q, _⟩ := x; exact ⟨_, q⟩
  | dT kvs => obtain ⟨_, _, _, _, ob, _, _, q, _⟩ := x; exact ⟨_, q⟩
  | set S n => obtain ⟨ob, _, _, _, q, _⟩ := x; exact ⟨_, q⟩
  | ins C dx fs => obtain ⟨_, _, _, q, _⟩ := x; exact ⟨_, q⟩
  | own y => exact x
  | xd fs => obtain ⟨_, ⟨_, _, _, q, _⟩, _⟩ := x; exact ⟨_, q⟩
  | rng lo hi => obtain ⟨_, _, _, q⟩ := x; exact ⟨_, q⟩
  | frz ob u => obtain ⟨q, _⟩ := x; exact ⟨_, q⟩
  | tbl ps => exact ⟨_, (show h.get? a = some _ from x)⟩
  | met f y => exact ⟨_, (show h.get? a = some _ from x)⟩
  | ext φ => obtain ⟨_, q, _⟩ := x; exact q
theorem HOk.no {P : Program} {w : World} {H : Hp} {h : Heap} {a : Addr} (x : HOk P w H h) (n : h.get? a = none) : H a = none := by
  cases q : H a with
  | none => rfl
  | some o =>
    obtain ⟨ob, z⟩ := (x a o q).there
    rw [n] at z; cases z
section
variable {P : Program} {w : World} {K : PySem.W.Frag} {mg : Str → Option Value} {base : Heap} {N : List Str} {qual : Str} {scope : Scope} {f : Addr} {cd : Value} {A : Around} {outer : List Env} {s : Shared} {H : Hp} {E : XK}
theorem passX : Passes (CXx P w) (cxOf (CXx P w) P w K mg base N qual scope f cd A outer s H E) E := fun pins σ H1 s1 e s' I h => by
  obtain ⟨ea, cls, d, H2, B, rfl, fl, cl, en, na, hE⟩ := xp_of I h rfl
  have J := fun h5 b5 u5 => cl h5 b5 u5
  obtain ⟨a0, st, _⟩ := fl.1
  have J0 := J s'.heap st (Heap.UpToSlots.refl _)
  show wpAny _ _ (leaving _ (.ref ea)) _ _ s'
  refine fly_leave (outer := outer) (L := s.heap.objs.size) I.ok.frames rfl fl fun h1 fl1 u1 => ?_
  exact ⟨ea, cls, d, H2, B, rfl, J0.os, J0.bare, fl1, fun h5 b5 u5 => ⟨(J h5 b5 (u1.trans u5)).base, (J h5 b5 (u1.trans u5)).hok⟩, en, na.old, hE⟩
end
theorem exc_obj {K : PySem.W.Frag} {h : Heap} {C : Addr} {bmB : List Value} {newId : String} (X : K.In h) (q : PySem.W.excIn K C bmB newId = true) :
    ∃ bm N nm qn bs hdct sn sub ab col dd k0 k1 k2 k3 k5 mN, h.get? C = some (excClassObj nm qn C N bs bm hdct sn sub ab col dd k0 k1 k2 k3 k5 newId) ∧ h.Ns N mN ∧ mN "__init__" = none ∧ OwnTail h bmB bm := by
  unfold PySem.W.excIn at q
  split at q
  next dd cd sl ho =>
    split at q
    next C' bm k0 k1 k2 k3 n k5 hm hs =>
      simp only [Bool.and_eq_true, beq_iff_eq, Bool.not_eq_true'] at q
      obtain ⟨⟨⟨⟨⟨rfl, rfl⟩, hdel⟩, tl⟩, hok⟩, hni⟩ := q
      rcases cd with ⟨nm, bs, mro, ns, qn, hdc, sn, sub, ab, col, del⟩
      dsimp only at hm hdel hok hni
      subst hm hdel
      have es : sl = #[k0, k1, k2, k3, some (.builtin n), k5] := by
        rcases sl with ⟨l⟩
        simp only at hs
        rw [hs]
      subst es
      exact ⟨bm, ns, nm, qn, bs, hdc, sn, sub, ab, col, dd, k0, k1, k2, k3, k5, _, X _ _ ho, .of_isNs (PySem.W.isNs_of_in X hok), PySem.W.nsMap_none_of_in X hok hni, PySem.W.tail_of_in X tl⟩
    next => cases q
  next => cases q
section
variable {P : Program} {w : World} {K : PySem.W.Frag} {mg : Str → Option Value} {base : Heap} {N : List Str} {qual : Str} {scope : Scope} {f : Addr} {cd : Value} {A : Around} {outer : List Env} {s : Shared} {H : Hp} {E : XK}
end
section
variable {P : Program} {w : World} {K : PySem.W.Frag} {mg : Str → Option Value} {base : Heap}
theorem Fun.okX {x qual : Str} {st : Stmt} {f : Addr} {fd : FuncData} {N ps : List Str} {k : Nat} {sp : Sp} (F : Fun K x qual st f fd) (S : FnScope N ps (defScope st)) (len : ∀ vs H Q E, sp vs H Q E → vs.length = ps.length)
    (hbody : ∀ (cdv : Value) (A : Around) (outer : List Env) (s : Shared) (H : Hp) (vs : List V) (Q : VK) (E : XK), Room k (A.deeper (envOfC qual (defScope st) s.heap.objs.size f cdv)) → sp vs H Q E →
      ∃ t, PSs (cxOf (CXx P w) P w K mg base N qual (defScope st) f cdv A outer s H E) (defBody st) t ∧ t { nx := fun _ H' => Q .non H', rt := Q } (start N vs) H) : FnOk P w K mg base (CXx P w) (k + 1) f fd ps sp := by
  obtain ⟨oc, od, kV, doc, pm, an, cdv, ct, osl, rfl, lk, hcd⟩ := F.ex
  exact fn_of lk hcd S len fun A outer s H vs Q E hr hsp => hbody cdv A outer s H vs Q E hr hsp
end
section
variable {X : Cx} {k : Nat} {f : Addr} {fd : FuncData} {ps : List Str} {sp : Sp} {dvs : List V} {ds : List Value} {x : Str} {p pos : Pos} {e : Expr} {es : List Expr} {t : TA}
end
noncomputable abbrev Cx.suite (X : Cx) (ea : Addr) : Cx := { X with A := X.A.mark (some (.ref ea)), calm := false }
section
variable {X : Cx} {pins : List (Addr × Obj)} {σ : St} {H : Hp} {s : Shared} {ea : Addr}
theorem Inv.suite (I : Inv X pins σ H s) (ea : Addr) : Inv (X.suite ea) pins σ H s := by
  obtain ⟨ok, r1, r2, r3, r4, r5, r6, r7, r8, r9, r10⟩ := I
  obtain ⟨m1, m2, m3, m4, m5, m6, m7, m8, m9, m10, m11, m12, m13, m14, m15, m16, m17, m18⟩ := ok
  exact ⟨⟨m1, m2, m3, m4, m5, m6, m7, m8, (fun z => nomatch z), m10, m11, m12, m13, m14, m15, m16, m17, m18⟩, r1, r2, r3, r4, r5, r6, r7, r8, r9, r10⟩
end
section
variable {X : Cx}
end
section
variable {X : Cx}
noncomputable def CMulB (i j : Int) : Prop := Builtin.Int.intBits i ≤ 1048576 ∧ Builtin.Int.intBits j ≤ 1048576
theorem op_mulB : OpR X (binaryOp .Mult) (rI CMulB fun i j => .int (i * j)) := opI fun _ _ _ _ _ _ _ hc q => mul_int q (IntMulOk.of_le hc.1 hc.2 (by decide))
noncomputable def CDivB (_ j : Int) : Prop := j ≠ 0 ∧ Builtin.Int.intBits j ≤ 9000
theorem log2_of_bits {j : Int} (h : Builtin.Int.intBits j ≤ 9000) : j.natAbs.log2 < 9000 := by
  by_cases z : j.natAbs = 0
  · rw [z]; decide +kernel
  · exact (Nat.log2_lt z).mpr (intBits_le_iff.mp h)
theorem op_fdivB : OpR X (binaryOp .FloorDiv) (rI CDivB fun i j => .int (i.fdiv j)) := opI fun _ _ _ _ _ _ _ hc q => floordiv_int hc.1 q (.inl (PyProof.noPylong_of_log2 (log2_of_bits hc.2)))
end
end L2
namespace L2
open PySem PySem.Spec PyProof.Rows Fx
noncomputable def Has (P : Program) (w : World) (K : PySem.W.Frag) (mg : Str → Option Value) (base : Heap) (CX : CXT) (k : Nat) (x : Str) (ps : List Str) (sp : Sp) : Prop :=
  ∃ f fd, FnOk P w K mg base CX k f fd ps sp ∧ Binds K fd ps [] ∧ PySem.W.keepIn K (.ref f) = true ∧ mg x = some (.ref f)
section
variable {X : Cx} {CX : CXT} {k : Nat} {ps : List Str} {sp : Sp} {E : XK} {x : Str} {p pos : Pos} {e : Expr} {es : List Expr} {t : TA}
theorem pe_has (h : Has X.prog X.w X.K X.mg X.base CX k x ps sp) (hr : Room k X.A) (hg : Gl X x) (hx : Passes CX X E) (ha : PA X (e :: es) t) (hdb : (x == ("__debug__" : Str)) = false := by decide)
    (he : starEach (e :: es) X.env = (false, eval e X.env) :: starEach es X.env := by rfl) (hpl : (backTo pos (starEach es X.env)).any (·.1) = false := by rfl) : PE X (.Call (.Name x p) (e :: es) [] pos) (tCall sp [] E t) := by
  obtain ⟨f, fd, F, b, kp, m⟩ := h
  exact pe_call F hr hg m kp b .nil hx ha hdb he hpl
end
end L2
namespace L2
open PySem PySem.Spec PyProof.Rows Fx
noncomputable def excX (e C : Addr) (d : Option Addr) : HO := .ext fun h => ∃ oe vs, h.get? e = some oe ∧ oe.cls = .ref C ∧ (∀ dx, d = some dx → oe.dict = some dx) ∧ oe.data = .fields vs
section
variable {X : Cx} {pins : List (Addr × Obj)} {σ : St} {H : Hp} {s : Shared} {e : Addr} {o : HO}
noncomputable def drop (H : Hp) (e : Addr) : Hp := fun b => if b = e then none else H b
end
noncomputable def excInI (K : PySem.W.Frag) (C fI : Addr) (bmB : List Value) (newId : String) : Bool := match K.lookup C with
  | some ⟨.type "type", _, .cls cd, sl⟩ => (match cd.mro, sl.toList with
    | .ref C1 :: bm, [_, _, _, _, some (.builtin n), _] => C1 == C && n == newId && !cd.hasDel && cd.hasDict && PySem.W.tailIn K bmB bm && PySem.W.nsOkIn K cd.ns && PySem.W.nsIn K cd.ns "__init__" == some (some (.ref fI))
    | _, _ => false)
  | _ => false
theorem ns_some_of {K : PySem.W.Frag} {h : Heap} {N : Addr} {m : Str → Option Value} {n : Str} {v : Value} (X : K.In h) (G : h.Ns N m) (e : PySem.W.nsIn K N n = some (some v)) : m n = some v := by
  obtain ⟨o, es, ep, ho, hd, _, hf⟩ := G
  unfold PySem.W.nsIn at e
  split at e
  next c d es1 n1 sl q =>
    have z := X _ _ q
    rw [ho] at z
    cases z
    cases hd
    split at e
    next en he =>
      cases e
      rw [← hf]
      unfold nsFind findBy
      rw [← Array.find?_toList, he]
      rfl
    next => split at e <;> cases e
  next => cases e
theorem exc_objI {K : PySem.W.Frag} {C fI : Addr} {bmB : List Value} {newId : String} (q : excInI K C fI bmB newId = true) :
    ∃ bm N nm qn bs sn sub ab col dd k0 k1 k2 k3 k5, ∀ h : Heap, K.In h → h.get? C = some (excClassObj nm qn C N bs bm true sn sub ab col dd k0 k1 k2 k3 k5 newId) ∧ OwnTail h bmB bm ∧ ∃ mN, h.Ns N mN ∧ mN "__init__" = some (.ref fI) := by
  unfold excInI at q
  split at q
  next dd cd sl ho =>
    split at q
    next C1 bm k0 k1 k2 k3 n k5 hm hs =>
      simp only [Bool.and_eq_true, beq_iff_eq, Bool.not_eq_true'] at q
      obtain ⟨⟨⟨⟨⟨⟨rfl, rfl⟩, hdel⟩, hdc⟩, tl⟩, hok⟩, hni⟩ := q
      rcases cd with ⟨nm, bs, mro, ns, qn, hdc1, sn, sub, ab, col, del⟩
      dsimp only at hm hdel hok hni hdc
      subst hm hdel hdc
      have es : sl = #[k0, k1, k2, k3, some (.builtin n), k5] := by
        rcases sl with ⟨l⟩
        simp only at hs
        rw [hs]
      subst es
      refine ⟨bm, ns, nm, qn, bs, sn, sub, ab, col, dd, k0, k1, k2, k3, k5, fun h X => ?_⟩
      have G : h.Ns ns (h.nsMap ns) := .of_isNs (PySem.W.isNs_of_in X hok)
      exact ⟨X _ _ ho, PySem.W.tail_of_in X tl, _, G, ns_some_of X G hni⟩
    next => cases q
  next => cases q
structure XCls (K : PySem.W.Frag) (C fI : Addr) (field : Str) : Prop where
  cls : excInI K C fI [.type "ValueError", .type "Exception", .type "BaseException", .type "object"] "ValueError.__new__" = true
  fn : PySem.W.isFn K (.ref fI) = true
  kp : PySem.W.keepIn K (.ref C) = true
  sa : PySem.W.findIn K (.ref C) "__setattr__" = some (some (.builtin "object.__setattr__"))
  ga : PySem.W.findIn K (.ref C) "__getattribute__" = some (some (.builtin "BaseException.__getattribute__"))
  gn : PySem.W.findIn K (.ref C) "__getattr__" = some none
  fl : PySem.W.findIn K (.ref C) field = some none
theorem tlk_of {K : PySem.W.Frag} {h : Heap} {C : Addr} {n : Str} {y : Option Value} (X : K.In h) (e : PySem.W.findIn K (.ref C) n = some y) : Tlk h C n y := fun M A E g d t os Q hq => (PySem.W.looks_findIn (M := M) X e).here (s := ⟨h, g, d, t, os⟩) hq
section
variable {X : Cx} {o value : Expr} {field : Str} {pos pos' : Pos} {ta tv : TE} {C fI : Addr}
end
section
variable {P : Program} {w : World} {K : PySem.W.Frag} {mg : Str → Option Value} {base : Heap} {N : List Str} {qual : Str} {scope : Scope} {f : Addr} {cd : Value} {A : Around} {outer : List Env} {s : Shared} {H : Hp} {E : XK}
end
section
variable {X : Cx} {pins : List (Addr × Obj)} {σ : St} {H : Hp} {s : Shared}
end
section
variable {X : Cx} {e : Expr} {field : Str} {pos : Pos} {ta : TE} {C fI : Addr}
end
end L2
namespace L2
open PySem PySem.Spec PyProof.Rows
section
variable {prog : Program} {w : World} {A : Around} {R : Result → Shared → Prop} {s : Shared}
end
inductive Caps (X : Cx) (cl : List (Str × Addr)) : List Str → List Nat → Prop
  | nil : Caps X cl [] []
  | cons {x : Str} {i : Nat} {N : List Str} {ci : List Nat} : X.N[i]? = some x → (X.env.kindOf x = some .cell ∨ X.env.kindOf x = some .free) → cl.lookup x = X.env.cells.lookup x → Caps X cl N ci → Caps X cl (x :: N) (i :: ci)
theorem Caps.length {X : Cx} {cl : List (Str × Addr)} {N : List Str} {ci : List Nat} (h : Caps X cl N ci) : N.length = ci.length := by
  induction h with
  | nil => rfl
  | cons _ _ _ _ ih => rw [List.length_cons, List.length_cons, ih]
theorem Caps.get {X : Cx} {cl : List (Str × Addr)} {N : List Str} {ci : List Nat} (h : Caps X cl N ci) {k : Nat} {x : Str} (e : N[k]? = some x) : ∃ i, ci[k]? = some i ∧ X.N[i]? = some x ∧ (X.env.kindOf x = some .cell ∨ X.env.kindOf x = some .free) ∧ cl.lookup x = X.env.cells.lookup x := by
  induction h generalizing k with
  | nil => simp at e
  | cons h1 h2 h3 _ ih =>
    cases k with
    | zero => simp at e; subst e; exact ⟨_, rfl, h1, h2, h3⟩
    | succ k => simpa using ih (by simpa using e)
section
variable {X : Cx} {tg iter elt : Expr} {ifs : List Expr} {scope : Scope} {pos : Pos} {wi : TI} {g : TG} {tc : TT} {te : TE} {cl : List (Str × Addr)} {tn : Nat} {Nt Nc : List Str} {ci : List Nat}
end
end L2
namespace Fx
open PySem
section
variable {prog : Program} {w : World} {A : Around} {E : Value → Shared → Prop} {h : Heap} {g : Array GenState} {d : Drawn} {t : Nat} {os : OsState}
variable {nm q : Str} {C N : Addr} {bs bm bmB : List Value} {hdct : Bool} {sn : List Str} {sub : List Value} {ab : Bool} {col : Option Bool} {dd : Option Addr} {k0 k1 k2 k3 k5 : Option Value} {newId : String}
theorem class_get_exc {x : Addr} {o : Obj} {R : Result → Shared → Prop} (hC : h.get? C = some (excClassObj nm q C N bs bm hdct sn sub ab col dd k0 k1 k2 k3 k5 newId)) (hob : bm.contains (.type "object") = true)
    (hx : h.get? x = some o) (hc : o.cls = .ref C) (hq : R (.ok (.ret (.ref C))) ⟨h, g, d, t, os⟩) :
    codeAny (model prog w) A (.call (.builtin "getset_descriptor.__get__") ⟨[.builtin "object.__class__", .ref x, .ref C], []⟩) R ⟨h, g, d, t, os⟩ := by
  have hT5 : (⟨h, g, d, t, os⟩ : Shared).TypeIs (.builtin "object.__class__") "getset_descriptor" := PySem.F.typeOf_object_class
  have ow : ".".intercalate ("object.__class__".cutAt '.').dropLast = "object" := by decide +kernel
  have hcB : (Value.ref C :: bm).contains (.type (".".intercalate ("object.__class__".cutAt '.').dropLast)) = true := by rw [ow, List.contains_cons, hob, Bool.or_true]
  refine codeAny_call_builtin PySem.F.slot_gs_get.plain PySem.F.entry_gs_get (PySem.F.slot_gs_get.check _ _ _ _ _ _ _ _ hT5 (PySem.F.args_gs_get _ _ _) ?_)
  repeat (any_goals (first | assumption | (with_reducible refine wpAny_loadPart_at hx ?_; rw [hc]) | (with_reducible refine wpAny_isSubtype_exc hC ?_; rw [hcB]) | wp_step))
  refine ⟨Code.quiet_builtin _ (by decide +kernel), codeAny_builtin PySem.F.entry_object_class ?_⟩
  repeat (any_goals (first | assumption | (with_reducible refine wpAny_loadPart_at hx ?_; rw [hc]) | wp_step))
theorem class_entry_exc {x : Addr} {o : Obj} {tk : Tok} {Q : Fin → Shared → Prop} (hC : h.get? C = some (excClassObj nm q C N bs bm hdct sn sub ab col dd k0 k1 k2 k3 k5 newId)) (hob : bm.contains (.type "object") = true)
    (l3 : Tlk h C "__class__" (some (.builtin "object.__class__"))) (hx : h.get? x = some o) (hc : o.cls = .ref C) (hq : Q (.done (.ret (.ref C))) ⟨h, g, d, t, os⟩) :
    wpAny (model prog w) A (Builtin.«object.__getattribute__» ⟨[.ref x, .str "__class__" tk], []⟩) Q E ⟨h, g, d, t, os⟩ := by
  have hT5 : (⟨h, g, d, t, os⟩ : Shared).TypeIs (.builtin "object.__class__") "getset_descriptor" := PySem.F.typeOf_object_class
  have f5 := PySem.F.typeOf_object_class
  have f6 := PySem.F.slot_gs_get.lookup
  have f7 := PySem.F.slot_gs_set.lookup
  repeat (any_goals (first | assumption | (with_reducible refine wpAny_loadPart_at hx ?_; rw [hc]) | with_reducible refine l3 _ _ _ _ _ _ _ _ ?_ | wp_step))
  refine class_get_exc hC hob hx hc ?_
  repeat (any_goals (first | assumption | wp_step))
theorem check_ga_excH {M : Model} {x : Addr} {o : Obj} {nv : Value} {Q : Unit → Shared → Prop} (hC : h.get? C = some (excClassObj nm q C N bs bm hdct sn sub ab col dd k0 k1 k2 k3 k5 newId))
    (hob : bm.contains (.type "BaseException") = true) (hx : h.get? x = some o) (hc : o.cls = .ref C) (hq : Q () ⟨h, g, d, t, os⟩) : wpAny M A (checkBuiltinCall "BaseException.__getattribute__" ⟨[.ref x, nv], []⟩) Q E ⟨h, g, d, t, os⟩ := by
  have hk : builtinKind "BaseException.__getattribute__" = some .slot := by decide +kernel
  have hsp : splitId "BaseException.__getattribute__" = some ("BaseException", "__getattribute__") := by decide +kernel
  have hcB : (Value.ref C :: bm).contains (.type "BaseException") = true := by rw [List.contains_cons, hob, Bool.or_true]
  have ha := PySem.F.args_bexc_ga (.ref x) nv
  simp only [checkBuiltinCall, hk, hsp]
  refine wpAny_bind ?_
  unfold isInstance
  repeat (first | (with_reducible refine wpAny_loadPart_at hx ?_; rw [hc]) | (with_reducible refine wpAny_isSubtype_exc hC ?_; rw [hcB]) | wp_step)
  exact hq
theorem class_by_exc {x : Addr} {o : Obj} {tk : Tok} {Q : Value → Shared → Prop} (hC : h.get? C = some (excClassObj nm q C N bs bm hdct sn sub ab col dd k0 k1 k2 k3 k5 newId)) (hb : bm.contains (.type "BaseException") = true) (hob : bm.contains (.type "object") = true)
    (l1 : Tlk h C "__getattribute__" (some (.builtin "BaseException.__getattribute__"))) (l2 : Tlk h C "__getattr__" none) (l3 : Tlk h C "__class__" (some (.builtin "object.__class__"))) (hx : h.get? x = some o) (hc : o.cls = .ref C) (hq : Q (.ref C) ⟨h, g, d, t, os⟩) :
    wpAny (model prog w) A (getAttrBy (.ref x) (.str "__class__" tk) false) Q E ⟨h, g, d, t, os⟩ := by
  have FB := PySem.F.attr_ValueError
  have f3 := FB.ga.bind (.ref x)
  have z2 : (Value.builtin "BaseException.__getattribute__" == Value.builtin "object.__getattribute__") = false := by decide +kernel
  have z1 : (onTheHeap (Value.ref C) && Value.builtin "BaseException.__getattribute__" == Value.builtin "object.__getattribute__") = false := by rw [z2]; rfl
  repeat (any_goals (first | assumption | (with_reducible refine wpAny_loadPart_at hx ?_; rw [hc]) | with_reducible refine l1 _ _ _ _ _ _ _ _ ?_ | with_reducible refine l2 _ _ _ _ _ _ _ _ ?_ | wp_step))
  refine codeAny_call_builtin FB.ga.plain PySem.F.entry_bexc_ga (check_ga_excH hC hb hx hc (class_entry_exc hC hob l3 hx hc ?_))
  repeat (any_goals (first | assumption | wp_step))
theorem class_attr_exc {x : Addr} {o : Obj} {Q : Option Value → Shared → Prop} (hC : h.get? C = some (excClassObj nm q C N bs bm hdct sn sub ab col dd k0 k1 k2 k3 k5 newId)) (hb : bm.contains (.type "BaseException") = true) (hob : bm.contains (.type "object") = true)
    (l1 : Tlk h C "__getattribute__" (some (.builtin "BaseException.__getattribute__"))) (l2 : Tlk h C "__getattr__" none) (l3 : Tlk h C "__class__" (some (.builtin "object.__class__"))) (hx : h.get? x = some o) (hc : o.cls = .ref C) (hq : Q (some (.ref C)) ⟨h, g, d, t + 1, os⟩) :
    wpAny (model prog w) A (getAttr? (.ref x) "__class__") Q E ⟨h, g, d, t, os⟩ := by
  unfold getAttr? getAttrBy?
  repeat (any_goals (first | assumption | with_reducible apply class_by_exc hC hb hob l1 l2 l3 hx hc | wp_step))
end
end Fx
namespace L2
open PySem PySem.Spec PyProof.Rows
structure YCls (K : PySem.W.Frag) (C : Addr) : Prop where
  ob : ∀ h : Heap, K.In h → ∃ nm q N bs bm hdct sn sub ab col dd k0 k1 k2 k3 k5 newId, h.get? C = some (excClassObj nm q C N bs bm hdct sn sub ab col dd k0 k1 k2 k3 k5 newId) ∧ bm.contains (.type "BaseException") = true ∧ bm.contains (.type "object") = true
  ga : PySem.W.findIn K (.ref C) "__getattribute__" = some (some (.builtin "BaseException.__getattribute__"))
  gn : PySem.W.findIn K (.ref C) "__getattr__" = some none
  cl : PySem.W.findIn K (.ref C) "__class__" = some (some (.builtin "object.__class__"))
theorem XCls.y {K : PySem.W.Frag} {C fI : Addr} {field : Str} (c : XCls K C fI field) (cl : PySem.W.findIn K (.ref C) "__class__" = some (some (.builtin "object.__class__"))) : YCls K C := by
  refine ⟨fun h k => ?_, c.ga, c.gn, cl⟩
  obtain ⟨bm, N, nm, qn, bs, sn, sub, ab, col, dd, k0, k1, k2, k3, k5, all⟩ := exc_objI c.cls
  obtain ⟨hC, T, _⟩ := all _ k
  exact ⟨_, _, _, _, _, _, _, _, _, _, _, _, _, _, _, _, _, hC, T.hasType (by rfl), T.hasType (by rfl)⟩
structure ZCls (K : PySem.W.Frag) (C : Addr) : Prop where
  cls : PySem.W.excIn K C [.type "ValueError", .type "Exception", .type "BaseException", .type "object"] "ValueError.__new__" = true
  kp : PySem.W.keepIn K (.ref C) = true
  ga : PySem.W.findIn K (.ref C) "__getattribute__" = some (some (.builtin "BaseException.__getattribute__"))
  gn : PySem.W.findIn K (.ref C) "__getattr__" = some none
  cl : PySem.W.findIn K (.ref C) "__class__" = some (some (.builtin "object.__class__"))
theorem ZCls.y {K : PySem.W.Frag} {C : Addr} (c : ZCls K C) : YCls K C := by
  refine ⟨fun h k => ?_, c.ga, c.gn, c.cl⟩
  obtain ⟨bm, NS, nm, qn, bs, hdct, sn, sub, ab, col, dd, k0, k1, k2, k3, k5, mN, hC, hN, hni, TL⟩ := exc_obj k c.cls
  exact ⟨_, _, _, _, _, _, _, _, _, _, _, _, _, _, _, _, _, hC, TL.hasType (by rfl), TL.hasType (by rfl)⟩
theorem kitx_exc {K : PySem.W.Frag} {x C : Addr} (c : YCls K C) : PySem.W.KitX K (.ref x) (.ref C) (fun h => ∃ o, h.get? x = some o ∧ o.cls = .ref C) where
  ty := fun M h k p => by
    obtain ⟨o, h1, h2⟩ := p
    exact h2 ▸ (PySem.W.Looks.ld h1).andThen .now
  it := fun M h k p => by
    obtain ⟨nm, q, N, bs, bm, hdct, sn, sub, ab, col, dd, k0, k1, k2, k3, k5, ni, hC, _⟩ := c.ob h k
    intro A' Q' E' s' k' q'
    unfold isType loadHead
    exact wpAny_bind (wpAny_loadPart (k' _ _ hC) (wpAny_pure q'))
  ne := fun h tp dd its n sl k htp => by
    obtain ⟨nm, q, N, bs, bm, hdct, sn, sub, ab, col, dd', k0, k1, k2, k3, k5, ni, hC, _⟩ := c.ob h k
    refine Bool.eq_false_iff.mpr fun z => ?_
    have e : C = tp := Value.ref.inj (beq_iff_eq.mp z)
    subst e
    have z := congrArg Obj.cls (Option.some.inj (hC.symm.trans htp))
    have z2 : Value.type "type" = Value.type "tuple" := z
    exact absurd (Value.type.inj z2) (by decide)
  ca := fun {prog w A E Q s} k p hq => by
    obtain ⟨o, h1, h2⟩ := p
    obtain ⟨nm, q, N, bs, bm, hdct, sn, sub, ab, col, dd', k0, k1, k2, k3, k5, ni, hC, e1, e2⟩ := c.ob _ k
    obtain ⟨h, g, d, t, os⟩ := s
    exact Fx.class_attr_exc hC e1 e2 (tlk_of k c.ga) (tlk_of k c.gn) (tlk_of k c.cl) h1 h2 hq
section
variable {X : Cx}
theorem call_isX : CallR X (.builtin "isinstance") (fun xs H Q => ∃ a c d cv u b, xs = [.ref a, cv] ∧ H a = some (excX a c d) ∧ YCls X.K c ∧ (∀ z, RelV cv z → z = u) ∧ PySem.W.kitOne X.K (.ref c) u = some b ∧ Q (.bl b) H) := by
  intro pins s σ H xs us Q I r h
  obtain ⟨a, c, d, cv, u, b, rfl, ha, yc, un, e, q⟩ := h
  obtain ⟨u1, u2, rfl, r1, r2⟩ := vals2 r
  cases un u2 r2
  cases r1
  obtain ⟨⟨oe, vs, h1, h2, h3, h4⟩, _, _⟩ := I.hok a _ ha
  exact PySem.W.kia_one (kitx_exc yc) I.kIn ⟨oe, h1, h2⟩ e (fun z => nomatch z) fun tk => ⟨.bl b, H, I.tok tk, rfl, q⟩
end
end L2
namespace P2
open PySem L2
inductive D where
  | non | bl (b : Bool) | int (i : Int) | str (x : Str) | ty (n : String) | ref (a : Addr)
  | tup (ds : List D) | lst (ds : List D) | exc (c : Addr) (ns : List Str) (ds : List D)
inductive R (α : Type) where
  | ok (a : α) | ex (c : Addr) (ns : List Str) (ds : List D) | bad
noncomputable def R.bind {α β : Type} : R α → (α → R β) → R β
  | .ok a, f => f a
  | .ex c ns ds, _ => .ex c ns ds
  | .bad, _ => .bad
theorem R.bind_ok {α β : Type} (a : α) (f : α → R β) : (R.ok a).bind f = f a := rfl
theorem bind_ok {α β : Type} {r : R α} {g : α → R β} {y : β} (h : r.bind g = .ok y) : ∃ x, r = .ok x ∧ g x = .ok y := by
  cases r with
  | ok x => exact ⟨x, rfl, h⟩
  | ex c ns ds => cases h
  | bad => cases h
noncomputable def KL (K : PySem.W.Frag) (a : Addr) (vs : List V) : Prop := ∃ (its : List Value) (n : Nat), K.lookup a = some { cls := .type "list", data := .seq its.toArray n } ∧ its.length ≤ sizeLine ∧ Vals vs its
theorem KL.sq {K : PySem.W.Frag} {a : Addr} {vs : List V} {H : Hp} (h : KL K a vs) : SqL K H a vs := let ⟨its, n, h1, h2, h3⟩ := h; .inr ⟨_, its.toArray, n, h1, rfl, rfl, rfl, by simpa using h2, by simpa using h3⟩
noncomputable def KT (K : PySem.W.Frag) (a : Addr) (vs : List V) : Prop := ∃ (o : Obj) (its : Array Value) (n : Nat), K.lookup a = some o ∧ o.cls = .type "tuple" ∧ o.data = .seq its n ∧ its.size ≤ sizeLine ∧ Vals vs its.toList
noncomputable def namesOf (K : PySem.W.Frag) : List Str := match K.lookup mainGlobals with
  | some ⟨_, _, .dict es _, _⟩ => es.toList.filterMap fun e => match e.key with
    | .str x _ => some x
    | _ => none
  | _ => []
noncomputable def plainFn (K : PySem.W.Frag) (x : Str) : Bool := match PySem.W.nsIn K mainGlobals x with
  | some (some (.ref f)) => (match K.lookup f with
    | some ⟨_, _, .func fd, _⟩ => (match fd.defaults, fd.kwdefaults with
      | .none, .none => true
      | _, _ => false)
    | _ => false)
  | _ => false
noncomputable def tabsOf (K : PySem.W.Frag) : List (Str × Addr × Addr) := (namesOf K).filterMap fun x => if plainFn K x then (PySem.W.tabIn K x).map fun q => (x, q.1, q.2) else none
noncomputable def CodeO (c : Addr) (q : Str) : HO := .ext fun h => h.CodeRec (.ref c) q
noncomputable def TbOk (K : PySem.W.Frag) (H : Hp) : Prop := ∀ t ∈ tabsOf K, ∃ ps, H t.2.2 = some (.tbl ps) ∧ TriplesOk ps.toList ∧ ∀ pos cv, codeAmong pos ps.toList = some cv → ∃ c', cv = .ref c' ∧ H c' = some (CodeO c' (t.1 ++ ".<locals>.<lambda>"))
noncomputable def NT (o : HO) : Prop := ∀ ps, o ≠ .tbl ps
theorem nt_lst {l : List V} : NT (.lst l) := fun _ h => nomatch h
theorem nt_tup {l : List V} : NT (.tup l) := fun _ h => nomatch h
theorem nt_frz {o : Obj} {u : HO} : NT (.frz o u) := fun _ h => nomatch h
theorem nt_xd {l : List (Str × V)} : NT (.xd l) := fun _ h => nomatch h
theorem nt_ext {φ : Heap → Prop} : NT (.ext φ) := fun _ h => nomatch h
structure Same (K : PySem.W.Frag) (H H' : Hp) : Prop where
  at' : ∀ b o, NT o → H b = some o → H' b = some o
  fr : ∀ b, H' b = none → H b = none
  tt : TbOk K H → TbOk K H'
theorem Same.refl {K : PySem.W.Frag} (H : Hp) : Same K H H := ⟨fun _ _ _ h => h, fun _ h => h, fun h => h⟩
theorem Same.trans {K : PySem.W.Frag} {H H1 H2 : Hp} (a : Same K H H1) (b : Same K H1 H2) : Same K H H2 := ⟨fun c o n h => b.at' c o n (a.at' c o n h), fun c h => a.fr c (b.fr c h), fun h => b.tt (a.tt h)⟩
theorem Same.free {K : PySem.W.Frag} {H H' : Hp} (e : Same K H H') {l : Addr} (h : H' l = Option.none) : H l = Option.none := e.fr l h
theorem TbOk.off {K : PySem.W.Frag} {H H' : Hp} {p : Addr} (t : TbOk K H) (hp : ∀ ps, H p ≠ some (.tbl ps)) (hc : ∀ q, H p ≠ some (CodeO p q)) (e : ∀ b, b ≠ p → H' b = H b) : TbOk K H' := fun x hx => by
  obtain ⟨ps, h1, h2, h3⟩ := t x hx
  refine ⟨ps, by rw [e _ fun w => hp ps (by rw [← w]; exact h1)]; exact h1, h2, fun pos cv e0 => ?_⟩
  obtain ⟨c', e1, e2⟩ := h3 pos cv e0
  exact ⟨c', e1, by rw [e _ fun w => hc _ (by rw [← w]; exact e2)]; exact e2⟩
theorem TbOk.upd {K : PySem.W.Frag} {H : Hp} {p : Addr} {o : HO} (t : TbOk K H) (hp : ∀ ps, H p ≠ some (.tbl ps)) (hc : ∀ q, H p ≠ some (CodeO p q)) : TbOk K (upd H p o) := fun x hx => by
  obtain ⟨ps, h1, h2, h3⟩ := t x hx
  refine ⟨ps, by rw [upd_ne fun w => hp ps (by rw [← w]; exact h1)]; exact h1, h2, fun pos cv e => ?_⟩
  obtain ⟨c', e1, e2⟩ := h3 pos cv e
  exact ⟨c', e1, by rw [upd_ne fun w => hc _ (by rw [← w]; exact e2)]; exact e2⟩
mutual
inductive Rep (K : PySem.W.Frag) (al : Addr → Prop) (H : Hp) : V → D → Prop
  | non : Rep K al H .non .non
  | bl (b : Bool) : Rep K al H (.bl b) (.bl b)
  | int (i : Int) : Rep K al H (.int i) (.int i)
  | str (x : Str) : Rep K al H (.str x) (.str x)
  | ty (n : String) : Rep K al H (.ty n) (.ty n)
  | ref (a : Addr) : Rep K al H (.ref a) (.ref a)
  | tup {a : Addr} {vs : List V} {ds : List D} : (al a ∧ Rd H a (.tup vs)) ∨ KT K a vs → Reps K al H vs ds → Rep K al H (.ref a) (.tup ds)
  | lst {a : Addr} {vs : List V} {ds : List D} : (al a ∧ Rd H a (.lst vs)) ∨ KL K a vs → Reps K al H vs ds → Rep K al H (.ref a) (.lst ds)
  | exc {a c dx : Addr} {ns : List Str} {vs : List V} {ds : List D} : al a → H a = some (excX a c (some dx)) → al dx → H dx = some (.xd (ns.zip vs)) → Reps K al H vs ds → Rep K al H (.ref a) (.exc c ns ds)
  | exc0 {a c : Addr} : al a → H a = some (excX a c none) → Rep K al H (.ref a) (.exc c [] [])
inductive Reps (K : PySem.W.Frag) (al : Addr → Prop) (H : Hp) : List V → List D → Prop
  | nil : Reps K al H [] []
  | cons {v : V} {d : D} {vs : List V} {ds : List D} : Rep K al H v d → Reps K al H vs ds → Reps K al H (v :: vs) (d :: ds)
end
noncomputable def Xt (al : Addr → Prop) (H : Hp) (al' : Addr → Prop) (H' : Hp) : Prop := ∀ a o, NT o → al a → H a = some o → al' a ∧ H' a = some o
theorem Xt.refl {al : Addr → Prop} {H : Hp} : Xt al H al H := fun _ _ _ h e => ⟨h, e⟩
theorem Xt.trans {al al1 al2 : Addr → Prop} {H H1 H2 : Hp} (x : Xt al H al1 H1) (y : Xt al1 H1 al2 H2) : Xt al H al2 H2 := fun a o n h e => y a o n (x a o n h e).1 (x a o n h e).2
theorem Xt.of {K : PySem.W.Frag} {al : Addr → Prop} {H H' : Hp} (s : Same K H H') : Xt al H al H' := fun a o n h e => ⟨h, s.at' a o n e⟩
theorem Xt.sub {al al' : Addr → Prop} {H : Hp} (s : ∀ a, al a → al' a) : Xt al H al' H := fun a o _ h e => ⟨s a h, e⟩
theorem rd_mv {al al' : Addr → Prop} {H H' : Hp} {a : Addr} {u : HO} (h : Xt al H al' H') (n : NT u) (z : al a ∧ Rd H a u) : al' a ∧ Rd H' a u := by
  obtain ⟨z1, z2 | ⟨o, z2⟩⟩ := z
  · exact ⟨(h a _ n z1 z2).1, .inl (h a _ n z1 z2).2⟩
  · exact ⟨(h a _ nt_frz z1 z2).1, .inr ⟨o, (h a _ nt_frz z1 z2).2⟩⟩
mutual
theorem Rep.mv {K : PySem.W.Frag} {al al' : Addr → Prop} {H H' : Hp} (h : Xt al H al' H') : ∀ {v : V} {d : D}, Rep K al H v d → Rep K al' H' v d
  | _, _, .non => .non
  | _, _, .bl b => .bl b
  | _, _, .int b => .int b
  | _, _, .str b => .str b
  | _, _, .ty b => .ty b
  | _, _, .ref b => .ref b
  | _, _, .tup p q => .tup (p.elim (fun z => .inl (rd_mv h nt_tup z)) .inr) (q.mv h)
  | _, _, .lst p q => .lst (p.elim (fun z => .inl (rd_mv h nt_lst z)) .inr) (q.mv h)
  | _, _, .exc p1 p2 p3 p4 q => .exc (h _ _ nt_ext p1 p2).1 (h _ _ nt_ext p1 p2).2 (h _ _ nt_xd p3 p4).1 (h _ _ nt_xd p3 p4).2 (q.mv h)
  | _, _, .exc0 p1 p2 => .exc0 (h _ _ nt_ext p1 p2).1 (h _ _ nt_ext p1 p2).2
theorem Reps.mv {K : PySem.W.Frag} {al al' : Addr → Prop} {H H' : Hp} (h : Xt al H al' H') : ∀ {v : List V} {d : List D}, Reps K al H v d → Reps K al' H' v d
  | _, _, .nil => .nil
  | _, _, .cons p q => .cons (p.mv h) (q.mv h)
end
section
variable {K : PySem.W.Frag} {al al' : Addr → Prop} {H H' : Hp} {v : V} {d : D} {vs ws : List V} {ds es : List D}
theorem Rep.up (r : Rep K al H v d) (s : Same K H H') : Rep K al H' v d := r.mv (.of s)
theorem Reps.up (r : Reps K al H vs ds) (s : Same K H H') : Reps K al H' vs ds := r.mv (.of s)
theorem Reps.length (r : Reps K al H vs ds) : vs.length = ds.length := by
  induction ds generalizing vs with
  | nil => cases r; rfl
  | cons d ds ih => cases r with | cons a b => rw [List.length_cons, List.length_cons, ih b]
theorem Reps.append (r : Reps K al H vs ds) (q : Reps K al H ws es) : Reps K al H (vs ++ ws) (ds ++ es) := by
  induction ds generalizing vs with
  | nil => cases r; exact q
  | cons d ds ih => cases r with | cons a b => exact .cons a (ih b)
theorem Reps.get (r : Reps K al H vs ds) {i : Nat} {x : V} (e : vs[i]? = some x) : ∃ y, ds[i]? = some y ∧ Rep K al H x y := by
  induction ds generalizing vs i with
  | nil => cases r; simp at e
  | cons d ds ih =>
    cases r with
    | cons a b =>
      cases i with
      | zero => simp at e; subst e; exact ⟨_, rfl, a⟩
      | succ i => simpa using ih b (by simpa using e)
theorem Reps.getD (r : Reps K al H vs ds) {i : Nat} {y : D} (e : ds[i]? = some y) : ∃ x, vs[i]? = some x ∧ Rep K al H x y := by
  have hl := r.length
  have hi : i < vs.length := by rw [hl]; exact (List.getElem?_eq_some_iff.mp e).1
  obtain ⟨z, e2, q⟩ := r.get (List.getElem?_eq_getElem hi)
  rw [e] at e2; cases e2
  exact ⟨_, List.getElem?_eq_getElem hi, q⟩
theorem Reps.drop (r : Reps K al H vs ds) (n : Nat) : Reps K al H (vs.drop n) (ds.drop n) := by
  induction n generalizing vs ds with
  | zero => exact r
  | succ n ih =>
    cases r with
    | nil => exact .nil
    | cons a b => exact ih b
theorem Reps.take (r : Reps K al H vs ds) (n : Nat) : Reps K al H (vs.take n) (ds.take n) := by
  induction n generalizing vs ds with
  | zero => exact .nil
  | succ n ih =>
    cases r with
    | nil => exact .nil
    | cons a b => exact .cons a (ih b)
theorem Rep.tupIn (r : Rep K al H v (.tup ds)) : ∃ a vs, v = .ref a ∧ SqT K H a vs ∧ Reps K al H vs ds := by
  cases r with
  | tup p q => exact ⟨_, _, rfl, p.elim (fun z => .inl z.2) .inr, q⟩
theorem Rep.lstIn (r : Rep K al H v (.lst ds)) : ∃ a vs, v = .ref a ∧ SqL K H a vs ∧ Reps K al H vs ds := by
  cases r with
  | lst p q => exact ⟨_, _, rfl, p.elim (fun z => .inl z.2) KL.sq, q⟩
theorem Rep.lstRd (r : Rep K al H v (.lst ds)) : ∃ a vs, v = .ref a ∧ (Rd H a (.lst vs) ∨ KL K a vs) ∧ Reps K al H vs ds := by
  cases r with
  | lst p q => exact ⟨_, _, rfl, p.imp (fun z => z.2) id, q⟩
theorem same_upd {p : Addr} {o : HO} (h : H p = none) : Same K H (upd H p o) := ⟨fun b u _ q => by rw [upd_ne (ne_of_none q h)]; exact q, fun b q => by
    by_cases z : b = p
    · rw [z]; exact h
    · rw [upd_ne z] at q; exact q, fun t => t.upd (fun ps w => by rw [h] at w; cases w) fun q w => by rw [h] at w; cases w⟩
theorem Reps.tupNew (r : Reps K al H vs ds) {p : Addr} (h : H p = none) (a : al p) : Rep K al (upd H p (.tup vs)) (.ref p) (.tup ds) := .tup (.inl ⟨a, .inl upd_same⟩) (r.up (same_upd h))
theorem Reps.lstNew (r : Reps K al H vs ds) {p : Addr} (h : H p = none) (a : al p) : Rep K al (upd H p (.lst vs)) (.ref p) (.lst ds) := .lst (.inl ⟨a, .inl upd_same⟩) (r.up (same_upd h))
end
inductive Sl where
  | no | sh (d : D) | ow (ds : List D)
noncomputable abbrev Ev := List Sl
structure RS (K : PySem.W.Frag) (P : Addr → Prop) (H0 : Hp) (al : Addr → Prop) (H : Hp) (σ : St) (ρ : Ev) : Prop where
  same : Same K H0 H
  tt : TbOk K H
  fresh : ∀ a, H a = none → al a
  sub : ∀ a, al a → P a
  pf : ∀ a, H0 a = none → P a
  len : ρ.length = σ.length
  sh : ∀ (i : Nat) (d : D), ρ[i]? = some (.sh d) → ∃ v, σ[i]? = some (some v) ∧ Rep K al H v d
  ow : ∀ (i : Nat) (ds : List D), ρ[i]? = some (.ow ds) → ∃ a vs, σ[i]? = some (some (.ref a)) ∧ H a = some (.lst vs) ∧ Reps K al H vs ds ∧ ¬ al a ∧ H0 a = none
  apart : ∀ (i j : Nat) (ds ds' : List D) (a : Addr), ρ[i]? = some (.ow ds) → ρ[j]? = some (.ow ds') → σ[i]? = some (some (.ref a)) → σ[j]? = some (some (.ref a)) → i = j
section
variable {K : PySem.W.Frag} {P al : Addr → Prop} {H0 H H' : Hp} {σ : St} {ρ : Ev}
theorem RS.grow (r : RS K P H0 al H σ ρ) (s : Same K H H') : RS K P H0 al H' σ ρ where
  same := r.same.trans s
  tt := s.tt r.tt
  fresh := fun a h => r.fresh a (s.free h)
  sub := r.sub
  pf := r.pf
  len := r.len
  sh := fun i d e => let ⟨v, a, b⟩ := r.sh i d e; ⟨v, a, b.up s⟩
  ow := fun i ds e => let ⟨a, vs, h1, h2, h3, h4⟩ := r.ow i ds e; ⟨a, vs, h1, s.at' _ _ nt_lst h2, h3.up s, h4⟩
  apart := r.apart
theorem RS.set (r : RS K P H0 al H σ ρ) {i : Nat} {v : V} {d : D} (hi : i < ρ.length) (q : Rep K al H v d) : RS K P H0 al H (σ.set i (some v)) (ρ.set i (.sh d)) where
  same := r.same
  tt := r.tt
  fresh := r.fresh
  sub := r.sub
  pf := r.pf
  len := by rw [List.length_set, List.length_set]; exact r.len
  sh := fun j e h => by
    by_cases z : i = j
    · subst z
      rw [List.getElem?_set_self hi] at h; cases h
      exact ⟨v, List.getElem?_set_self (by rw [← r.len]; exact hi), q⟩
    · rw [List.getElem?_set_ne z] at h
      obtain ⟨w, a, b⟩ := r.sh j e h
      exact ⟨w, by rw [List.getElem?_set_ne z]; exact a, b⟩
  ow := fun j ds h => by
    by_cases z : i = j
    · subst z
      rw [List.getElem?_set_self hi] at h; cases h
    · rw [List.getElem?_set_ne z] at h
      obtain ⟨a, vs, h1, h2⟩ := r.ow j ds h
      exact ⟨a, vs, by rw [List.getElem?_set_ne z]; exact h1, h2⟩
  apart := fun j k ds ds' a h1 h2 h3 h4 => by
    by_cases z : i = j
    · subst z; rw [List.getElem?_set_self hi] at h1; cases h1
    · by_cases y : i = k
      · subst y; rw [List.getElem?_set_self hi] at h2; cases h2
      · rw [List.getElem?_set_ne z] at h1 h3
        rw [List.getElem?_set_ne y] at h2 h4
        exact r.apart j k ds ds' a h1 h2 h3 h4
theorem RS.drop (r : RS K P H0 al H σ ρ) {i : Nat} {u : Option V} : RS K P H0 al H (σ.set i u) (ρ.set i .no) where
  same := r.same
  tt := r.tt
  fresh := r.fresh
  sub := r.sub
  pf := r.pf
  len := by rw [List.length_set, List.length_set]; exact r.len
  sh := fun j e h => by
    by_cases z : i = j
    · subst z
      by_cases hi : i < ρ.length
      · rw [List.getElem?_set_self hi] at h; cases h
      · rw [List.getElem?_eq_none (by rw [List.length_set]; omega)] at h; cases h
    · rw [List.getElem?_set_ne z] at h
      obtain ⟨w, a, b⟩ := r.sh j e h
      exact ⟨w, by rw [List.getElem?_set_ne z]; exact a, b⟩
  ow := fun j ds h => by
    by_cases z : i = j
    · subst z
      by_cases hi : i < ρ.length
      · rw [List.getElem?_set_self hi] at h; cases h
      · rw [List.getElem?_eq_none (by rw [List.length_set]; omega)] at h; cases h
    · rw [List.getElem?_set_ne z] at h
      obtain ⟨a, vs, h1, h2⟩ := r.ow j ds h
      exact ⟨a, vs, by rw [List.getElem?_set_ne z]; exact h1, h2⟩
  apart := fun j k ds ds' a h1 h2 h3 h4 => by
    by_cases z : i = j
    · subst z
      by_cases hi : i < ρ.length
      · rw [List.getElem?_set_self hi] at h1; cases h1
      · rw [List.getElem?_eq_none (by rw [List.length_set]; omega)] at h1; cases h1
    · by_cases y : i = k
      · subst y
        by_cases hi : i < ρ.length
        · rw [List.getElem?_set_self hi] at h2; cases h2
        · rw [List.getElem?_eq_none (by rw [List.length_set]; omega)] at h2; cases h2
      · rw [List.getElem?_set_ne z] at h1 h3
        rw [List.getElem?_set_ne y] at h2 h4
        exact r.apart j k ds ds' a h1 h2 h3 h4
end
noncomputable def XR (K : PySem.W.Frag) (al : Addr → Prop) (H : Hp) (dx : Option Addr) (ns : List Str) (ds : List D) : Prop :=
  match dx with
  | none => ns = [] ∧ ds = []
  | some d => al d ∧ ∃ vs, H d = some (.xd (ns.zip vs)) ∧ Reps K al H vs ds
theorem XR.mv {K : PySem.W.Frag} {al al' : Addr → Prop} {H H' : Hp} {dx : Option Addr} {ns : List Str} {ds : List D} (h : Xt al H al' H') (r : XR K al H dx ns ds) : XR K al' H' dx ns ds := by
  cases dx with
  | none => exact r
  | some d =>
    obtain ⟨a, vs, e, q⟩ := r
    exact ⟨(h _ _ nt_xd a e).1, vs, (h _ _ nt_xd a e).2, q.mv h⟩
noncomputable def Aft {α : Type} (K : PySem.W.Frag) (al : Addr → Prop) (E : XK) (H : Hp) (r : R α) (k : α → Hp → Prop) : Prop :=
  match r with
  | .ok a => ∀ H', Same K H H' → k a H'
  | .ex c ns ds => ∀ dx H', Same K H H' → XR K al H' dx ns ds → E (.ref c) dx H'
  | .bad => False
section
variable {α β : Type} {K : PySem.W.Frag} {al : Addr → Prop} {E : XK} {H H' : Hp} {r : R α} {k k' : α → Hp → Prop}
theorem Aft.up (a : Aft K al E H r k) (s : Same K H H') : Aft K al E H' r k := by
  cases r with
  | ok x => exact fun H1 s1 => a H1 (s.trans s1)
  | ex c ns ds => exact fun dx H1 s1 => a dx H1 (s.trans s1)
  | bad => exact a
theorem Aft.mono (a : Aft K al E H r k) (m : ∀ x H1, Same K H H1 → k x H1 → k' x H1) : Aft K al E H r k' := by
  cases r with
  | ok x => exact fun H1 s1 => m x H1 s1 (a H1 s1)
  | ex c ns ds => exact a
  | bad => exact a
theorem Aft.split {g : α → R β} {k : β → Hp → Prop} (a : Aft K al E H (r.bind g) k) : Aft K al E H r (fun x H1 => Aft K al E H1 (g x) k) := by
  cases r with
  | ok x => exact fun H1 s1 => Aft.up a s1
  | ex c ns ds => exact a
  | bad => exact a
end
noncomputable def DE (X : Cx) (E : XK) (e : Expr) (f : Ev → R D) : Prop := ∃ t : TE, PE X e t ∧
  ∀ P H0 al H σ ρ (Q : VK), RS X.K P H0 al H σ ρ → Aft X.K al E H (f ρ) (fun d H' => ∀ v, Rep X.K al H' v d → Q v H') → t σ H Q
noncomputable def DT (X : Cx) (E : XK) (e : Expr) (f : Ev → R Bool) : Prop := ∃ t : TT, PT X e t ∧
  ∀ P H0 al H σ ρ (Q : Bool → Hp → Prop), RS X.K P H0 al H σ ρ → Aft X.K al E H (f ρ) Q → t σ H Q
noncomputable def DW (X : Cx) (E : XK) (e : Expr) (f : Ev → R Bool) : Prop := ∃ t : TT, PW X e t ∧
  ∀ P H0 al H σ ρ (Q : Bool → Hp → Prop), RS X.K P H0 al H σ ρ → Aft X.K al E H (f ρ) Q → t σ H Q
noncomputable def DA (X : Cx) (E : XK) (es : List Expr) (f : Ev → R (List D)) : Prop := ∃ t : TA, PA X es t ∧
  (∀ P H0 al H σ ρ (Q : List V → Hp → Prop), RS X.K P H0 al H σ ρ → Aft X.K al E H (f ρ) (fun ds H' => ∀ vs, Reps X.K al H' vs ds → Q vs H') → t σ H Q) ∧ ∀ ρ ds, f ρ = .ok ds → ds.length = es.length
noncomputable def DN (X : Cx) (E : XK) (e : Expr) (f : Ev → R (List D)) : Prop := ∃ t : TE, PE X e t ∧
  ∀ P H0 al H σ ρ (Q : VK), RS X.K P H0 al H σ ρ → Aft X.K al E H (f ρ) (fun ds H' => ∀ p vs, H' p = none → Reps X.K al H' vs ds → Q (.ref p) (upd H' p (.lst vs))) → t σ H Q
noncomputable def OpD (X : Cx) (E : XK) (op : Value → Value → Sem Value) (g : D → D → R D) : Prop := ∃ r : R2, OpR X op r ∧
  ∀ al H x y dx dy (Q : VK), (∀ a, H a = none → al a) → Rep X.K al H x dx → Rep X.K al H y dy → Aft X.K al E H (g dx dy) (fun d H' => ∀ v, Rep X.K al H' v d → Q v H') → r x y H Q
noncomputable def IxD (X : Cx) (E : XK) (g : D → D → R D) : Prop := ∃ r : R2, IxR X r ∧
  ∀ al H x y dx dy (Q : VK), (∀ a, H a = none → al a) → Rep X.K al H x dx → Rep X.K al H y dy → Aft X.K al E H (g dx dy) (fun d H' => ∀ v, Rep X.K al H' v d → Q v H') → r x y H Q
noncomputable def CallD (X : Cx) (E : XK) (f : Value) (g : List D → R D) : Prop := ∃ r : List V → Hp → VK → Prop, CallR X f r ∧
  ∀ al H xs ds (Q : VK), (∀ a, H a = none → al a) → Reps X.K al H xs ds → Aft X.K al E H (g ds) (fun d H' => ∀ v, Rep X.K al H' v d → Q v H') → r xs H Q
noncomputable def dV (i : Nat) : Ev → R D := fun ρ => match ρ[i]? with
  | some (.sh d) => .ok d
  | _ => .bad
noncomputable def dC (d : D) : Ev → R D := fun _ => .ok d
noncomputable def d1 (g : D → R D) (a : Ev → R D) : Ev → R D := fun ρ => (a ρ).bind g
noncomputable def d2 (g : D → D → R D) (a b : Ev → R D) : Ev → R D := fun ρ => (a ρ).bind fun x => (b ρ).bind fun y => g x y
noncomputable def tB (d : D) : R Bool := match d with
  | .bl b => .ok b
  | _ => .bad
noncomputable def tT (d : D) : R Bool := match d with
  | .non => .ok false
  | .bl b => .ok b
  | .int i => .ok (i != 0)
  | .str y => if y.length ≤ sizeLine then .ok ((y.length : Int) != 0) else .bad
  | .lst ds => .ok (!ds.isEmpty)
  | .tup ds => .ok (!ds.isEmpty)
  | _ => .bad
noncomputable def b1 (t : D → R Bool) (a : Ev → R D) : Ev → R Bool := fun ρ => (a ρ).bind t
noncomputable def bAnd (a b : Ev → R Bool) : Ev → R Bool := fun ρ => (a ρ).bind fun c => if c = true then b ρ else .ok false
noncomputable def bOr (a b : Ev → R Bool) : Ev → R Bool := fun ρ => (a ρ).bind fun c => if c = true then .ok true else b ρ
noncomputable def bNot (a : Ev → R Bool) : Ev → R Bool := fun ρ => (a ρ).bind fun c => .ok (!c)
noncomputable def dAnd (a b : Ev → R D) : Ev → R D := fun ρ => ((a ρ).bind tB).bind fun c => if c = true then b ρ else .ok (.bl false)
noncomputable def dOr (a b : Ev → R D) : Ev → R D := fun ρ => ((a ρ).bind tB).bind fun c => if c = true then .ok (.bl true) else b ρ
noncomputable def dNot (a : Ev → R D) : Ev → R D := fun ρ => ((a ρ).bind tB).bind fun c => .ok (.bl (!c))
noncomputable def dIf (c : Ev → R Bool) (a b : Ev → R D) : Ev → R D := fun ρ => (c ρ).bind fun k => if k = true then a ρ else b ρ
noncomputable def aNil : Ev → R (List D) := fun _ => .ok []
noncomputable def aCons (a : Ev → R D) (r : Ev → R (List D)) : Ev → R (List D) := fun ρ => (a ρ).bind fun x => (r ρ).bind fun xs => .ok (x :: xs)
noncomputable def dA (g : List D → R D) (a : Ev → R (List D)) : Ev → R D := fun ρ => (a ρ).bind g
noncomputable def mkT (ds : List D) : R D := if ds.length ≤ sizeLine then .ok (.tup ds) else .bad
noncomputable def fitL (ds : List D) : R (List D) := if ds.length ≤ sizeLine then .ok ds else .bad
noncomputable def asN (g : Ev → R (List D)) : Ev → R D := fun ρ => (g ρ).bind fun ds => .ok (.lst ds)
section
variable {X : Cx} {E : XK} {e a b c : Expr} {f fa fb : Ev → R D} {pos : Pos}
theorem de_var (i : Nat) {x : Str} (hN : X.N[i]? = some x := by rfl) (hv : Vis X.env.scope x := by first | exact Or.inl rfl | exact Or.inr (Or.inl rfl) | exact Or.inr (Or.inr rfl)) (hd : (x == ("__debug__" : Str)) = false := by decide)
    (hcd : (x == ("__classdict__" : Str)) = false := by decide) : DE X E (.Name x pos) (dV i) := by
  refine ⟨_, pe_var hN hv hd hcd, fun P H0 al H σ ρ Q r h => ?_⟩
  unfold dV at h
  cases q : ρ[i]? with
  | none => rw [q] at h; exact h.elim
  | some s =>
    cases s with
    | sh d =>
      rw [q] at h
      obtain ⟨v, e1, e2⟩ := r.sh i d q
      exact ⟨v, e1, h H (.refl H) v e2⟩
    | no => rw [q] at h; exact h.elim
    | ow _ => rw [q] at h; exact h.elim
theorem de_int {i j} : DE X E (.Constant (.int i) j pos) (dC (.int i)) := ⟨_, pe_int, fun _ _ _ H _ _ _ _ h => h H (.refl H) _ (.int i)⟩
theorem de_str {i j} : DE X E (.Constant (.str i) j pos) (dC (.str i)) := ⟨_, pe_str, fun _ _ _ H _ _ _ _ h => h H (.refl H) _ (.str i)⟩
theorem de_ty {x : Str} {n : String} (hg : Gl X x) (hm : X.mg x = none) (hv : bootBuiltins x = some (.type n)) (hn : x ≠ "__name__" := by decide) (hd : (x == ("__debug__" : Str)) = false := by decide) : DE X E (.Name x pos) (dC (.ty n)) :=
  ⟨_, pe_bltn (v := .ty n) hg hm hv rfl hn hd, fun _ _ al H _ _ _ _ h => h H (.refl H) _ (.ty n)⟩
theorem de_op {op : Operator} {g : D → D → R D} (ho : OpD X E (binaryOp op) g) (ha : DE X E a fa) (hb : DE X E b fb) : DE X E (.BinOp a op b pos) (d2 g fa fb) := by
  obtain ⟨r, ro, rr⟩ := ho
  obtain ⟨ta, pa, ra⟩ := ha
  obtain ⟨tb, pb, rb⟩ := hb
  refine ⟨_, pe_op ro pa pb, fun P H0 al H σ ρ Q s h => ra _ _ _ _ _ _ _ s (Aft.mono (Aft.split h) fun x H1 s1 h1 v rv => rb _ _ _ _ _ _ _ (s.grow s1) (Aft.mono (Aft.split h1) fun y H2 s2 h2 u ru => ?_))⟩
  exact rr _ _ _ _ _ _ _ ((s.grow s1).grow s2).fresh (rv.up s2) ru h2
theorem de_cmp {op : CmpOp} {g : D → D → R D} (ho : OpD X E (compareOp op) g) (ha : DE X E a fa) (hb : DE X E b fb) (hm : behindInMarks op b = false := by first | exact nomark _ | with_unfolding_all rfl) : DE X E (.Compare a [op] [b] pos) (d2 g fa fb) := by
  obtain ⟨r, ro, rr⟩ := ho
  obtain ⟨ta, pa, ra⟩ := ha
  obtain ⟨tb, pb, rb⟩ := hb
  refine ⟨_, pe_cmpR ro pa pb hm, fun P H0 al H σ ρ Q s h => ra _ _ _ _ _ _ _ s (Aft.mono (Aft.split h) fun x H1 s1 h1 v rv => rb _ _ _ _ _ _ _ (s.grow s1) (Aft.mono (Aft.split h1) fun y H2 s2 h2 u ru => ?_))⟩
  exact rr _ _ _ _ _ _ _ ((s.grow s1).grow s2).fresh (rv.up s2) ru h2
theorem rep_tB {K : PySem.W.Frag} {al : Addr → Prop} {H : Hp} {E : XK} {v : V} {d : D} {k : Bool → Hp → Prop} (r : Rep K al H v d) (h : Aft K al E H (tB d) k) : ∃ c, v = .bl c ∧ k c H := by
  cases r with
  | bl b => exact ⟨b, rfl, h H (.refl H)⟩
  | _ => exact (h : False).elim
theorem dt_cmp {op : CmpOp} {g : D → D → R D} (ho : OpD X E (compareOp op) g) (ha : DE X E a fa) (hb : DE X E b fb) (hm : behindInMarks op b = false := by first | exact nomark _ | with_unfolding_all rfl) : DT X E (.Compare a [op] [b] pos) (b1 tB (d2 g fa fb)) := by
  obtain ⟨r, ro, rr⟩ := ho
  obtain ⟨ta, pa, ra⟩ := ha
  obtain ⟨tb, pb, rb⟩ := hb
  refine ⟨_, pt_cmpR ro pa pb hm, fun P H0 al H σ ρ Q s h => ra _ _ _ _ _ _ _ s (Aft.mono (Aft.split (Aft.split h)) fun x H1 s1 h1 v rv => ?_)⟩
  refine rb _ _ _ _ _ _ _ (s.grow s1) (Aft.mono (Aft.split (g := fun y => g x y) (k := fun d H2 => Aft X.K al E H2 (tB d) Q) ?_) fun y H2 s2 h2 u ru => ?_)
  · exact h1
  · exact rr _ _ _ _ _ _ _ ((s.grow s1).grow s2).fresh (rv.up s2) ru (Aft.mono h2 fun d H3 s3 h3 w rw' => rep_tB rw' h3)
variable {ga gb : Ev → R Bool} {rest : List Expr}
theorem DW.dt (h : DW X E e ga) : DT X E e ga := let ⟨t, p, r⟩ := h; ⟨t, p.pt, r⟩
theorem dw_and1 (h : DT X E a ga) : DW X E (.BoolOp .And [a] pos) ga := let ⟨t, p, r⟩ := h; ⟨t, pw_and1 p, r⟩
theorem dw_and (ha : DT X E a ga) (hb : DW X E (.BoolOp .And (b :: rest) pos) gb) : DW X E (.BoolOp .And (a :: b :: rest) pos) (bAnd ga gb) := by
  obtain ⟨ta, pa, ra⟩ := ha
  obtain ⟨tb, pb, rb⟩ := hb
  refine ⟨_, pw_and pa pb, fun P H0 al H σ ρ Q s h => ra _ _ _ _ _ _ _ s (Aft.mono (Aft.split h) fun c H1 s1 h1 => ?_)⟩
  cases c with
  | true => exact iteT (rb _ _ _ _ _ _ _ (s.grow s1) h1)
  | false => exact iteF (h1 H1 (.refl H1))
theorem de_one {op : BoolOp} (h : DE X E a fa) : DE X E (.BoolOp op [a] pos) fa := let ⟨t, p, r⟩ := h; ⟨t, pe_one p, r⟩
theorem de_and (ha : DE X E a fa) (hb : DE X E (.BoolOp .And (b :: rest) pos) fb) : DE X E (.BoolOp .And (a :: b :: rest) pos) (dAnd fa fb) := by
  obtain ⟨ta, pa, ra⟩ := ha
  obtain ⟨tb, pb, rb⟩ := hb
  refine ⟨_, pe_and pa pb, fun P H0 al H σ ρ Q s h => ra _ _ _ _ _ _ _ s (Aft.mono (Aft.split (Aft.split h)) fun x H1 s1 h1 v rv => ?_)⟩
  obtain ⟨c, e, h2⟩ := rep_tB rv h1
  refine ⟨c, e, ?_⟩
  cases c with
  | true => exact iteT (rb _ _ _ _ _ _ _ (s.grow s1) h2)
  | false => exact iteF (h2 H1 (.refl H1) _ (.bl false))
theorem de_if (hc : DT X E c ga) (ha : DE X E a fa) (hb : DE X E b fb) : DE X E (.IfExp c a b pos) (dIf ga fa fb) := by
  obtain ⟨tc, pc, rc⟩ := hc
  obtain ⟨ta, pa, ra⟩ := ha
  obtain ⟨tb, pb, rb⟩ := hb
  refine ⟨_, pe_ifExp pc pa pb, fun P H0 al H σ ρ Q s h => rc _ _ _ _ _ _ _ s (Aft.mono (Aft.split h) fun c H1 s1 h1 => ?_)⟩
  cases c with
  | true => exact iteT (ra _ _ _ _ _ _ _ (s.grow s1) h1)
  | false => exact iteF (rb _ _ _ _ _ _ _ (s.grow s1) h1)
variable {es : List Expr} {fs : Ev → R (List D)}
theorem da_nil : DA X E [] aNil := ⟨_, pa_nil, fun _ _ _ H _ _ _ _ h => h H (.refl H) _ .nil, fun _ _ h => by cases h; rfl⟩
theorem da_cons (ha : DE X E e fa) (hr : DA X E es fs) (hs : starEach (e :: es) X.env = (false, eval e X.env) :: starEach es X.env := by rfl) : DA X E (e :: es) (aCons fa fs) := by
  obtain ⟨ta, pa, ra⟩ := ha
  obtain ⟨tb, pb, rb, lb⟩ := hr
  refine ⟨_, pa_cons pa pb hs, fun P H0 al H σ ρ Q s h => ra _ _ _ _ _ _ _ s (Aft.mono (Aft.split h) fun x H1 s1 h1 v rv => rb _ _ _ _ _ _ _ (s.grow s1) (Aft.mono (Aft.split h1) fun y H2 s2 h2 u ru => ?_)), fun ρ ds h => ?_⟩
  · exact h2 H2 (.refl H2) _ (.cons (rv.up s2) ru)
  · obtain ⟨x, _, h1⟩ := bind_ok h
    obtain ⟨y, h2, h3⟩ := bind_ok h1
    cases h3
    rw [List.length_cons, List.length_cons, lb ρ y h2]
theorem de_tup {x1} (ha : DA X E es fs) : DE X E (.Tuple es x1 pos) (dA mkT fs) := by
  obtain ⟨ta, pa, ra, _⟩ := ha
  refine ⟨_, pe_tup pa, fun P H0 al H σ ρ Q s h => ra _ _ _ _ _ _ _ s (Aft.mono (Aft.split h) fun x H1 s1 h1 v rv => ?_)⟩
  unfold mkT at h1
  by_cases z : x.length ≤ sizeLine
  · rw [if_pos z] at h1
    exact ⟨by rw [rv.length]; exact z, fun p hp => h1 _ (same_upd hp) _ (rv.tupNew hp ((s.grow s1).fresh p hp))⟩
  · rw [if_neg z] at h1
    exact h1.elim
theorem dn_lst (ha : DA X E es fs) : DN X E (.List es pos) (fun ρ => (fs ρ).bind fitL) := by
  obtain ⟨ta, pa, ra, _⟩ := ha
  refine ⟨_, pe_lst pa, fun P H0 al H σ ρ Q s h => ra _ _ _ _ _ _ _ s (Aft.mono (Aft.split h) fun x H1 s1 h1 v rv => ?_)⟩
  unfold fitL at h1
  by_cases z : x.length ≤ sizeLine
  · rw [if_pos z] at h1
    exact ⟨by rw [rv.length]; exact z, fun p hp => h1 H1 (.refl H1) p v hp rv⟩
  · rw [if_neg z] at h1
    exact h1.elim
theorem DN.de {g : Ev → R (List D)} (h : DN X E e g) : DE X E e (asN g) := by
  obtain ⟨t, p, r⟩ := h
  exact ⟨t, p, fun P H0 al H σ ρ Q s h => r _ _ _ _ _ _ _ s (Aft.mono (Aft.split h) fun x H1 s1 h1 p vs hp rv => h1 _ (same_upd hp) _ (rv.lstNew hp ((s.grow s1).fresh p hp)))⟩
theorem de_ix {g : D → D → R D} (ho : IxD X E g) (ha : DE X E a fa) (hb : DE X E b fb) (hs : PlainIx b := by exact fun _ _ => rfl) : DE X E (.Subscript a b pos) (d2 g fa fb) := by
  obtain ⟨r, ro, rr⟩ := ho
  obtain ⟨ta, pa, ra⟩ := ha
  obtain ⟨tb, pb, rb⟩ := hb
  refine ⟨_, pe_ix ro pa pb hs, fun P H0 al H σ ρ Q s h => ra _ _ _ _ _ _ _ s (Aft.mono (Aft.split h) fun x H1 s1 h1 v rv => rb _ _ _ _ _ _ _ (s.grow s1) (Aft.mono (Aft.split h1) fun y H2 s2 h2 u ru => ?_))⟩
  exact rr _ _ _ _ _ _ _ ((s.grow s1).grow s2).fresh (rv.up s2) ru h2
variable {x : Str} {p : Pos}
theorem de_callB {id : String} {g : List D → R D} (hc : CallD X E (.builtin id) g) (hg : Gl X x) (hm : X.mg x = none) (hv : bootBuiltins x = some (.builtin id)) (ha : DA X E (e :: es) fs) (hn : x ≠ "__name__" := by decide) (hdb : (x == ("__debug__" : Str)) = false := by decide)
    (he : starEach (e :: es) X.env = (false, eval e X.env) :: starEach es X.env := by rfl) (hpl : (backTo pos (starEach es X.env)).any (·.1) = false := by rfl) : DE X E (.Call (.Name x p) (e :: es) [] pos) (dA g fs) := by
  obtain ⟨r, rc, rr⟩ := hc
  obtain ⟨ta, pa, ra, _⟩ := ha
  exact ⟨_, pe_callB rc hg hm hv pa hn hdb he hpl, fun P H0 al H σ ρ Q s h => ra _ _ _ _ _ _ _ s (Aft.mono (Aft.split h) fun x H1 s1 h1 v rv => rr _ _ _ _ _ (s.grow s1).fresh rv h1)⟩
theorem de_callTy {T : String} {g : List D → R D} (hc : CallD X E (.type T) g) (hg : Gl X x) (hm : X.mg x = none) (hv : bootBuiltins x = some (.type T)) (ha : DA X E (e :: es) fs) (hn : x ≠ "__name__" := by decide) (hdb : (x == ("__debug__" : Str)) = false := by decide)
    (he : starEach (e :: es) X.env = (false, eval e X.env) :: starEach es X.env := by rfl) (hpl : (backTo pos (starEach es X.env)).any (·.1) = false := by rfl) : DE X E (.Call (.Name x p) (e :: es) [] pos) (dA g fs) := by
  obtain ⟨r, rc, rr⟩ := hc
  obtain ⟨ta, pa, ra, _⟩ := ha
  exact ⟨_, pe_callTy rc hg hm hv pa hn hdb he hpl, fun P H0 al H σ ρ Q s h => ra _ _ _ _ _ _ _ s (Aft.mono (Aft.split h) fun x H1 s1 h1 v rv => rr _ _ _ _ _ (s.grow s1).fresh rv h1)⟩
end
noncomputable def spD (n : Nat) (K : PySem.W.Frag) (F : List D → R D) : Sp := fun vs H Q E => vs.length = n ∧ TbOk K H ∧ ∃ al ds, (∀ a, H a = none → al a) ∧ Reps K al H vs ds ∧ Aft K al E H (F ds) (fun d H' => ∀ v, Rep K al H' v d → Q v H')
section
variable {X : Cx} {E : XK} {e : Expr} {es : List Expr} {fs : Ev → R (List D)} {x : Str} {p pos : Pos} {k n : Nat} {ps : List Str} {F : List D → R D}
theorem de_call (G : Has X.prog X.w X.K X.mg X.base (CXx X.prog X.w) k x ps (spD n X.K F)) (hr : Room k X.A) (hg : Gl X x) (hx : Passes (CXx X.prog X.w) X E) (hn : (e :: es).length = n) (ha : DA X E (e :: es) fs) (hdb : (x == ("__debug__" : Str)) = false := by decide)
    (he : starEach (e :: es) X.env = (false, eval e X.env) :: starEach es X.env := by rfl) (hpl : (backTo pos (starEach es X.env)).any (·.1) = false := by rfl) : DE X E (.Call (.Name x p) (e :: es) [] pos) (dA F fs) := by
  obtain ⟨ta, pa, ra, lb⟩ := ha
  refine ⟨_, pe_has G hr hg hx pa hdb he hpl, fun P H0 al H σ ρ Q s h => ra _ _ _ _ _ _ _ s ?_⟩
  unfold dA at h
  cases q : fs ρ with
  | ok ds =>
    rw [q] at h
    intro H1 s1 vs rv
    rw [List.append_nil]
    exact ⟨by rw [rv.length, lb ρ ds q]; exact hn, (s.grow s1).tt, al, ds, (s.grow s1).fresh, rv, Aft.up h s1⟩
  | ex c ns ds => rw [q] at h; exact h
  | bad => rw [q] at h; exact h.elim
end
inductive RT where
  | nx (ρ : Ev) | rt (d : D) | bk (ρ : Ev) | ct (ρ : Ev) | ex (c : Addr) (ns : List Str) (ds : List D) | bad
noncomputable def toS {α : Type} (r : R α) (k : α → RT) : RT := match r with
  | .ok a => k a
  | .ex c ns ds => .ex c ns ds
  | .bad => .bad
noncomputable def seqT (r : RT) (k : Ev → RT) : RT := match r with
  | .nx ρ => k ρ
  | r => r
noncomputable def okS (K : PySem.W.Frag) (P : Addr → Prop) (H0 : Hp) (E : XK) (D : Ends) (al : Addr → Prop) (H : Hp) : RT → Prop
  | .nx ρ => ∀ al' H' σ', Xt al H al' H' → RS K P H0 al' H' σ' ρ → D.nx σ' H'
  | .bk ρ => ∀ al' H' σ', Xt al H al' H' → RS K P H0 al' H' σ' ρ → D.bk σ' H'
  | .ct ρ => ∀ al' H' σ', Xt al H al' H' → RS K P H0 al' H' σ' ρ → D.ct σ' H'
  | .rt d => ∀ v H', Same K H0 H' → Rep K P H' v d → D.rt v H'
  | .ex c ns ds => ∀ dx H', Same K H0 H' → XR K P H' dx ns ds → E (.ref c) dx H'
  | .bad => False
section
variable {K : PySem.W.Frag} {P al al' : Addr → Prop} {H0 H H' : Hp} {E : XK} {D : Ends} {s : RT} {σ : St} {ρ : Ev}
theorem okS.ext (h : okS K P H0 E D al H s) (x : Xt al H al' H') : okS K P H0 E D al' H' s := by
  cases s with
  | nx ρ => exact fun a h1 σ1 y r => h a h1 σ1 (x.trans y) r
  | bk ρ => exact fun a h1 σ1 y r => h a h1 σ1 (x.trans y) r
  | ct ρ => exact fun a h1 σ1 y r => h a h1 σ1 (x.trans y) r
  | rt d => exact h
  | ex c ns ds => exact h
  | bad => exact h
theorem okS.ofR {α : Type} {r : R α} {k : α → RT} (h : okS K P H0 E D al H (toS r k)) (s : RS K P H0 al H σ ρ) : Aft K al E H r (fun x H1 => okS K P H0 E D al H1 (k x)) := by
  cases r with
  | ok x => exact fun H1 s1 => okS.ext h (.of s1)
  | ex c ns ds => exact fun dx H1 s1 q => h dx H1 (s.same.trans s1) (q.mv (.sub s.sub))
  | bad => exact h
end
noncomputable def DS (X : Cx) (E : XK) (st : Stmt) (g : Ev → RT) : Prop := ∃ t : TS, PS X st t ∧
  ∀ P H0 al H σ ρ (D : Ends), RS X.K P H0 al H σ ρ → okS X.K P H0 E D al H (g ρ) → t D σ H
noncomputable def DSs (X : Cx) (E : XK) (st : List Stmt) (g : Ev → RT) : Prop := ∃ t : TS, PSs X st t ∧
  ∀ P H0 al H σ ρ (D : Ends), RS X.K P H0 al H σ ρ → okS X.K P H0 E D al H (g ρ) → t D σ H
noncomputable def sNil : Ev → RT := .nx
noncomputable def sSeq (a b : Ev → RT) : Ev → RT := fun ρ => seqT (a ρ) b
noncomputable def sExpr (f : Ev → R D) : Ev → RT := fun ρ => toS (f ρ) fun _ => .nx ρ
noncomputable def sRet (f : Ev → R D) : Ev → RT := fun ρ => toS (f ρ) .rt
noncomputable def sSet (i : Nat) (f : Ev → R D) : Ev → RT := fun ρ => toS (f ρ) fun d => if i < ρ.length then .nx (ρ.set i (.sh d)) else .bad
noncomputable def sIf (c : Ev → R Bool) (a b : Ev → RT) : Ev → RT := fun ρ => toS (c ρ) fun k => if k = true then a ρ else b ρ
section
variable {X : Cx} {E : XK} {st : Stmt} {rest sa sb : List Stmt} {g u ga gb : Ev → RT} {e c : Expr} {f : Ev → R D} {fc : Ev → R Bool} {pos : Pos}
theorem dss_nil : DSs X E [] sNil := ⟨_, pss_nil, fun _ _ al H σ ρ _ s h => h al H σ .refl s⟩
theorem dss_one (h : DS X E st g) : DSs X E [st] g := let ⟨t, p, r⟩ := h; ⟨t, pss_one p, r⟩
theorem dss_cons (h1 : DS X E st g) (h2 : DSs X E rest u) : DSs X E (st :: rest) (sSeq g u) := by
  obtain ⟨t1, p1, r1⟩ := h1
  obtain ⟨t2, p2, r2⟩ := h2
  refine ⟨_, pss_cons p1 p2, fun P H0 al H σ ρ D s h => r1 P H0 al H σ ρ _ s ?_⟩
  unfold sSeq at h
  cases q : g ρ with
  | nx ρ1 =>
    rw [q] at h
    exact fun al' H' σ' x s' => r2 P H0 al' H' σ' ρ1 D s' (okS.ext h x)
  | bk ρ1 => rw [q] at h; exact h
  | ct ρ1 => rw [q] at h; exact h
  | rt d => rw [q] at h; exact h
  | ex c ns ds => rw [q] at h; exact h
  | bad => rw [q] at h; exact h
theorem ds_ret (he : DE X E e f) : DS X E (.Return (some e) pos) (sRet f) := by
  obtain ⟨t, p, r⟩ := he
  exact ⟨_, ps_ret p, fun P H0 al H σ ρ D s h => r _ _ _ _ _ _ _ s (Aft.mono (okS.ofR h s) fun d H1 s1 h1 v rv => h1 v H1 (s.same.trans s1) (rv.mv (.sub s.sub)))⟩
theorem ds_set (i : Nat) {x : Str} {pos' : Pos} (hN : X.N.Nodup) (hi : X.N[i]? = some x) (hx : Loc X.env.scope x) (he : DE X E e f) (hs : swapsWith e (some (.Name x pos')) pos.line X.env = pure false := by rfl) (hf : X.fn x = true ∨ X.env.scope.names.lookup x = some .local := by first | exact .inl rfl | exact .inr rfl | assumption) :
    DS X E (.Assign [.Name x pos'] e pos) (sSet i f) := by
  obtain ⟨t, p, r⟩ := he
  refine ⟨_, ps_set hN hi hx p hs hf, fun P H0 al H σ ρ D s h => r _ _ _ _ _ _ _ s (Aft.mono (okS.ofR h s) fun d H1 s1 h1 v rv => ?_)⟩
  by_cases z : i < ρ.length
  · simp only [z, if_true] at h1
    exact h1 al H1 _ .refl ((s.grow s1).set z rv)
  · simp only [z, if_false] at h1
    exact h1.elim
theorem ds_if (hc : DT X E c fc) (ha : DSs X E sa ga) (hb : DSs X E sb gb) : DS X E (.If c sa sb pos) (sIf fc ga gb) := by
  obtain ⟨tc, pc, rc⟩ := hc
  obtain ⟨ta, pa, ra⟩ := ha
  obtain ⟨tb, pb, rb⟩ := hb
  refine ⟨_, ps_if pc pa pb, fun P H0 al H σ ρ D s h => rc _ _ _ _ _ _ _ s (Aft.mono (okS.ofR h s) fun k H1 s1 h1 => ?_)⟩
  cases k with
  | true => exact iteT (ra _ _ _ _ _ _ _ (s.grow s1) h1)
  | false => exact iteF (rb _ _ _ _ _ _ _ (s.grow s1) h1)
noncomputable def turnT (r : RT) (k : Ev → RT) : RT := match r with
  | .nx ρ => k ρ
  | .ct ρ => k ρ
  | .bk ρ => .nx ρ
  | r => r
noncomputable def whileD (c : Ev → R Bool) (b : Ev → RT) : Nat → Ev → RT
  | 0, _ => .bad
  | n + 1, ρ => toS (c ρ) fun k => if k = true then turnT (b ρ) (whileD c b n) else .nx ρ
theorem turn_ok {K : PySem.W.Frag} {P al : Addr → Prop} {H0 H : Hp} {D : Ends} {r : RT} {k : Ev → RT} {N : St → Hp → Prop} (h : okS K P H0 E D al H (turnT r k))
    (hN : ∀ al' H' σ' ρ', Xt al H al' H' → RS K P H0 al' H' σ' ρ' → okS K P H0 E D al' H' (k ρ') → N σ' H') : okS K P H0 E { D with nx := N, ct := N, bk := D.nx } al H r := by
  cases r with
  | nx ρ => exact fun al' H' σ' x s => hN al' H' σ' ρ x s (okS.ext h x)
  | ct ρ => exact fun al' H' σ' x s => hN al' H' σ' ρ x s (okS.ext h x)
  | bk ρ => exact h
  | rt d => exact h
  | ex c ns ds => exact h
  | bad => exact h
theorem ds_while (n : Nat) (hp : PassesOwn (model X.prog X.w) X.A X.env X.xe) (hc : DT X E c fc) (hb : DSs X E sb gb) : DS X E (.While c sb [] pos) (whileD fc gb n) := by
  obtain ⟨tc, pc, rc⟩ := hc
  obtain ⟨tb, pb, rb⟩ := hb
  refine ⟨_, ps_while hp pc pb, fun P H0 al H σ ρ D s h => ⟨fun m σ1 H1 => ∃ al1 ρ1, RS X.K P H0 al1 H1 σ1 ρ1 ∧ okS X.K P H0 E D al1 H1 (whileD fc gb m ρ1), ⟨n, al, ρ, s, h⟩, ?_⟩⟩
  rintro m σ1 H1 ⟨al1, ρ1, s1, h1⟩
  cases m with
  | zero => exact h1.elim
  | succ m =>
    refine rc _ _ _ _ _ _ _ s1 (Aft.mono (okS.ofR h1 s1) fun k H2 s2 h2 => ?_)
    cases k with
    | true =>
      refine iteT ⟨fun σ' H' => ∃ al1 ρ1, RS X.K P H0 al1 H' σ' ρ1 ∧ okS X.K P H0 E D al1 H' (whileD fc gb m ρ1), fun σ' H' z => ⟨m, Nat.lt_succ_self m, z⟩, rb _ _ _ _ _ _ _ (s1.grow s2) (turn_ok (k := whileD fc gb m) h2 fun al' H' σ' ρ' _ s' h' => ⟨al', ρ', s', h'⟩)⟩
    | false => exact iteF (h2 al1 H2 σ1 .refl (s1.grow s2))
end
noncomputable def Wk (K : PySem.W.Frag) (al : Addr → Prop) (H : Hp) (J : It) (ds : List D) : Prop := ∀ al' H', Xt al H al' H' → (∀ a, H' a = none → al' a) →
  (∀ i d, ds[i]? = some d → J.go i H' ∧ ∀ x H'', J.yld i H' x H'' → H'' = H' ∧ Rep K al' H' x d) ∧ ∀ i, ds.length ≤ i → J.stop i H'
noncomputable def DI (X : Cx) (E : XK) (tg iter : Expr) (f : Ev → R (List D)) : Prop := ∃ wi : TI, PI X tg iter wi ∧
  ∀ P H0 al H σ ρ (R : It → Hp → Prop), RS X.K P H0 al H σ ρ → Aft X.K al E H (f ρ) (fun ds H' => ∀ J, Wk X.K al H' J ds → R J H') → wi σ H R
noncomputable def Kp (l : List Nat) (σ σ' : St) : Prop := σ'.length = σ.length ∧ ∀ j, j ∉ l → σ'[j]? = σ[j]?
noncomputable def DG (X : Cx) (tg : Expr) (l : List Nat) (a : D → Ev → Option Ev) : Prop := ∃ g : TG, PG X tg g ∧
  ∀ P H0 al H σ ρ v d (Q : St → Hp → Prop), RS X.K P H0 al H σ ρ → Rep X.K al H v d → (∃ ρ', a d ρ = some ρ' ∧ ∀ σ', Kp l σ σ' → RS X.K P H0 al H σ' ρ' → Q σ' H) → g v σ H Q
noncomputable def gV (i : Nat) : D → Ev → Option Ev := fun d ρ => if i < ρ.length then some (ρ.set i (.sh d)) else none
noncomputable def toO {α : Type} (r : Option α) (k : α → RT) : RT := match r with
  | some a => k a
  | none => .bad
noncomputable def forD (a : D → Ev → Option Ev) (b : Ev → RT) : List D → Ev → RT
  | [], ρ => .nx ρ
  | d :: r, ρ => toO (a d ρ) fun ρ1 => turnT (b ρ1) (forD a b r)
section
variable {X : Cx} {E : XK} {tg iter : Expr} {body : List Stmt} {fi : Ev → R (List D)} {a : D → Ev → Option Ev} {gb : Ev → RT} {pos : Pos}
noncomputable def sFor (fi : Ev → R (List D)) (a : D → Ev → Option Ev) (gb : Ev → RT) : Ev → RT := fun ρ => toS (fi ρ) fun ds => forD a gb ds ρ
end
end P2
namespace P2
open PySem L2
noncomputable def startD (n : Nat) (ds : List D) : Ev := ds.map .sh ++ List.replicate (n - ds.length) .no
noncomputable def finT : RT → R D
  | .rt d => .ok d
  | .nx _ => .ok .non
  | .ex c ns ds => .ex c ns ds
  | _ => .bad
theorem rs_start {K : PySem.W.Frag} {al : Addr → Prop} {H : Hp} {vs : List V} {ds : List D} {N : List Str} (tt : TbOk K H) (fr : ∀ a, H a = none → al a) (r : Reps K al H vs ds) : RS K al H al H (L2.start N vs) (startD N.length ds) where
  same := .refl H
  tt := tt
  fresh := fr
  sub := fun _ h => h
  pf := fr
  len := by unfold L2.start startD; simp [r.length]
  sh := fun i d h => by
    unfold startD at h
    by_cases hi : i < ds.length
    · rw [List.getElem?_append_left (by simpa using hi), List.getElem?_map] at h
      cases q : ds[i]? with
      | none => rw [q] at h; cases h
      | some y =>
        rw [q] at h; cases h
        obtain ⟨v, e1, e2⟩ := r.getD q
        refine ⟨v, ?_, e2⟩
        unfold L2.start
        rw [List.getElem?_append_left (by simpa [r.length] using hi), List.getElem?_map, e1]; rfl
    · rw [List.getElem?_append_right (by simpa using hi), List.getElem?_replicate] at h
      split at h <;> cases h
  ow := fun i d h => by
    unfold startD at h
    by_cases hi : i < ds.length
    · rw [List.getElem?_append_left (by simpa using hi), List.getElem?_map] at h
      cases q : ds[i]? with
      | none => rw [q] at h; cases h
      | some y => rw [q] at h; cases h
    · rw [List.getElem?_append_right (by simpa using hi), List.getElem?_replicate] at h
      split at h <;> cases h
  apart := fun i j d d' a h _ _ _ => by
    unfold startD at h
    by_cases hi : i < ds.length
    · rw [List.getElem?_append_left (by simpa using hi), List.getElem?_map] at h
      cases q : ds[i]? with
      | none => rw [q] at h; cases h
      | some y => rw [q] at h; cases h
    · rw [List.getElem?_append_right (by simpa using hi), List.getElem?_replicate] at h
      split at h <;> cases h
section
variable {P : Program} {w : World} {K : PySem.W.Frag} {mg : Str → Option Value} {base : Heap}
theorem fn_den {x : Str} {st : Stmt} {f : Addr} {fd : FuncData} {N ps : List Str} {k : Nat} {g : Ev → RT} (F : Fun K x x st f fd) (S : FnScope N ps (defScope st))
    (body : ∀ (cdv : Value) (A : Around) (outer : List Env) (s : Shared) (H : Hp) (E : XK), Room k (cxOf (CXx P w) P w K mg base N x (defScope st) f cdv A outer s H E).A → DSs (cxOf (CXx P w) P w K mg base N x (defScope st) f cdv A outer s H E) E (defBody st) g) :
    FnOk P w K mg base (CXx P w) (k + 1) f fd ps (spD ps.length K fun ds => finT (g (startD N.length ds))) := by
  refine F.okX S (fun vs H Q E h => h.1) (fun cdv A outer s H vs Q E hr h => ?_)
  obtain ⟨hl, tt, al, ds, fr, rv, h⟩ := h
  obtain ⟨t, p, r⟩ := body cdv A outer s H E hr
  dsimp only at h
  refine ⟨t, p, r al H al H (L2.start N vs) (startD N.length ds) _ (rs_start tt fr rv) ?_⟩
  cases q : g (startD N.length ds) with
  | nx ρ => rw [q] at h; exact fun al' H' σ' _ s' => h H' s'.same .non .non
  | rt d => rw [q] at h; exact fun v H' s' rv => h H' s' v rv
  | ex c ns es => rw [q] at h; exact h
  | bk ρ => rw [q] at h; exact h.elim
  | ct ρ => rw [q] at h; exact h.elim
  | bad => rw [q] at h; exact h.elim
theorem Has.den {k n : Nat} {x : Str} {ps : List Str} {F F' : List D → R D} (G : Has P w K mg base (CXx P w) k x ps (spD n K F)) (h : ∀ ds, ds.length = n → F' ds = .bad ∨ F ds = F' ds) : Has P w K mg base (CXx P w) k x ps (spD n K F') := by
  obtain ⟨f, fd, fo, b, kp, m⟩ := G
  refine ⟨f, fd, fo.imp fun vs H Q E q => ?_, b, kp, m⟩
  obtain ⟨hl, tt, al, ds, fr, rv, q⟩ := q
  refine ⟨hl, tt, al, ds, fr, rv, ?_⟩
  rcases h ds (by rw [← rv.length]; exact hl) with z | z
  · rw [z] at q; exact q.elim
  · rw [z]; exact q
theorem Has.up {j k : Nat} {x : Str} {ps : List Str} {sp : Sp} (G : Has P w K mg base (CXx P w) j x ps sp) (h : j ≤ k) : Has P w K mg base (CXx P w) k x ps sp := let ⟨f, fd, fo, r⟩ := G; ⟨f, fd, fo.mono h, r⟩
variable {N : List Str} {qual : Str} {scope : Scope} {f : Addr} {cd : Value} {A : Around} {outer : List Env} {s : Shared} {H : Hp} {E : XK}
end
noncomputable def hasT (T : String) : D → Bool
  | .str _ => T == "str"
  | .int _ => T == "int"
  | .lst _ => T == "list"
  | _ => false
noncomputable def dMt (T : String) (g : D → List D → R D) (o : Ev → R D) (a : Ev → R (List D)) : Ev → R D := fun ρ => (o ρ).bind fun x => if hasT T x = true then (a ρ).bind fun xs => g x xs else .bad
section
variable {X : Cx} {E : XK} {o e : Expr} {es : List Expr} {fo : Ev → R D} {fs : Ev → R (List D)} {name : Str} {apos cpos : Pos} {T id : String} {g : D → List D → R D}
noncomputable def DO (X : Cx) (E : XK) (e : Option Expr) (f : Ev → R (Option Int)) : Prop := ∃ t : TO, PO X e t ∧
  ∀ P H0 al H σ ρ (Q : Option Int → Hp → Prop), RS X.K P H0 al H σ ρ → Aft X.K al E H (f ρ) Q → t σ H Q
noncomputable def SlD (X : Cx) (E : XK) (g : D → Option Int → Option Int → R D) : Prop := ∃ r, SlR X r ∧
  ∀ al H x dx lo hi (Q : VK), (∀ a, H a = none → al a) → Rep X.K al H x dx → Aft X.K al E H (g dx lo hi) (fun d H' => ∀ v, Rep X.K al H' v d → Q v H') → r x lo hi H Q
noncomputable def pI (d : D) : R (Option Int) := match d with
  | .int i => .ok (some i)
  | _ => .bad
theorem do_none : DO X E none (fun _ => .ok none) := ⟨_, po_none, fun _ _ _ H _ _ _ _ h => h H (.refl H)⟩
theorem do_some (h : DE X E e fo) : DO X E (some e) (fun ρ => (fo ρ).bind pI) := by
  obtain ⟨t, p, r⟩ := h
  refine ⟨_, po_some p, fun P H0 al H σ ρ Q s h => r _ _ _ _ _ _ _ s (Aft.mono (Aft.split h) fun x H1 s1 h1 v rv => ?_)⟩
  cases rv with
  | int i => exact ⟨i, rfl, h1 H1 (.refl H1)⟩
  | _ => exact (h1 : False).elim
noncomputable def dSl (g : D → Option Int → Option Int → R D) (a : Ev → R D) (l u : Ev → R (Option Int)) : Ev → R D := fun ρ => (a ρ).bind fun x => (l ρ).bind fun i => (u ρ).bind fun j => g x i j
theorem de_slice {g : D → Option Int → Option Int → R D} {lo hi : Option Expr} {fl fu : Ev → R (Option Int)} {pos p2 : Pos} (hr : SlD X E g) (he : DE X E e fo) (hl : DO X E lo fl) (hu : DO X E hi fu) : DE X E (.Subscript e (.Slice lo hi none p2) pos) (dSl g fo fl fu) := by
  obtain ⟨r, rm, rr⟩ := hr
  obtain ⟨to, po, ro⟩ := he
  obtain ⟨tl, pl, rl⟩ := hl
  obtain ⟨tu, pu, ru⟩ := hu
  refine ⟨_, pe_slice rm po pl pu, fun P H0 al H σ ρ Q s h => ro _ _ _ _ _ _ _ s (Aft.mono (Aft.split h) fun x H1 s1 h1 v rv => ?_)⟩
  refine rl _ _ _ _ _ _ _ (s.grow s1) (Aft.mono (Aft.split h1) fun i H2 s2 h2 => ru _ _ _ _ _ _ _ ((s.grow s1).grow s2) (Aft.mono (Aft.split h2) fun j H3 s3 h3 => ?_))
  exact rr _ _ _ _ _ _ _ (((s.grow s1).grow s2).grow s3).fresh ((rv.up s2).up s3) h3
end
theorem pi_or {X : Cx} {tg iter : Expr} {w1 w2 : TI} (h1 : PI X tg iter w1) (h2 : PI X tg iter w2) : PI X tg iter (fun σ H R => w1 σ H R ∨ w2 σ H R) := fun pins s σ H R I h => h.elim (h1 pins s σ H R I) (h2 pins s σ H R I)
section
variable {X : Cx} {E : XK} {tg e : Expr} {f : Ev → R D}
theorem wk_list {K : PySem.W.Frag} {al : Addr → Prop} {H : Hp} {a : Addr} {ds : List D} (r : Rep K al H (.ref a) (.lst ds)) : Wk K al H (Itl K a) ds := by
  intro al' H' x fr
  obtain ⟨a', vs, e, q, rs⟩ := (r.mv x).lstIn
  cases e
  refine ⟨fun i d h => ?_, fun i h => ⟨vs, q, by rw [rs.length]; exact h⟩⟩
  obtain ⟨v, e1, e2⟩ := rs.getD h
  refine ⟨⟨vs, v, q, e1⟩, fun y H'' z => ⟨z.1, ?_⟩⟩
  have := z.2 vs q
  rw [e1] at this; cases this
  exact e2
theorem wk_tup {K : PySem.W.Frag} {al : Addr → Prop} {H : Hp} {a : Addr} {ds : List D} (r : Rep K al H (.ref a) (.tup ds)) : Wk K al H (Itt K a) ds := by
  intro al' H' x fr
  obtain ⟨a', vs, e, q, rs⟩ := (r.mv x).tupIn
  cases e
  refine ⟨fun i d h => ?_, fun i h => ⟨vs, q, by rw [rs.length]; exact h⟩⟩
  obtain ⟨v, e1, e2⟩ := rs.getD h
  refine ⟨⟨vs, v, q, e1⟩, fun y H'' z => ⟨z.1, ?_⟩⟩
  have := z.2 vs q
  rw [e1] at this; cases this
  exact e2
noncomputable def rangeL (lo : Int) (n : Nat) : List D := (List.range n).map fun (k : Nat) => D.int (lo + (k : Int))
noncomputable def rng1 (ds : List D) : R (List D) := match ds with
  | [.int j] => if -(2 ^ 62) ≤ j ∧ j < 2 ^ 62 then .ok (rangeL 0 j.toNat) else .bad
  | _ => .bad
end
section
variable {K : PySem.W.Frag} {P al : Addr → Prop} {H0 H : Hp} {σ : St} {ρ : Ev}
theorem RS.own (r : RS K P H0 al H σ ρ) {i : Nat} {p : Addr} {vs : List V} {ds : List D} (hi : i < ρ.length) (hp : H p = none) (q : Reps K al H vs ds) :
    RS K P H0 (fun b => al b ∧ b ≠ p) (upd H p (.lst vs)) (σ.set i (some (.ref p))) (ρ.set i (.ow ds)) ∧ Xt al H (fun b => al b ∧ b ≠ p) (upd H p (.lst vs)) := by
  have x : Xt al H (fun b => al b ∧ b ≠ p) (upd H p (.lst vs)) := fun b o _ hb e => ⟨⟨hb, ne_of_none e hp⟩, by rw [upd_ne (ne_of_none e hp)]; exact e⟩
  have s := same_upd (K := K) (o := HO.lst vs) hp
  have hs : i < σ.length := by rw [← r.len]; exact hi
  refine ⟨⟨r.same.trans s, s.tt r.tt, fun b hb => ?_, fun b hb => r.sub b hb.1, r.pf, by rw [List.length_set, List.length_set]; exact r.len, fun j d h => ?_, fun j ds' h => ?_, fun j k d1 d2 b h1 h2 h3 h4 => ?_⟩, x⟩
  · refine ⟨r.fresh b (s.free hb), fun z => ?_⟩
    rw [z, upd_same] at hb; cases hb
  · by_cases z : i = j
    · subst z; rw [List.getElem?_set_self hi] at h; cases h
    · rw [List.getElem?_set_ne z] at h
      obtain ⟨v, e1, e2⟩ := r.sh j d h
      exact ⟨v, by rw [List.getElem?_set_ne z]; exact e1, e2.mv x⟩
  · by_cases z : i = j
    · subst z
      rw [List.getElem?_set_self hi] at h; cases h
      exact ⟨p, vs, List.getElem?_set_self hs, upd_same, q.mv x, fun w => w.2 rfl, r.same.free hp⟩
    · rw [List.getElem?_set_ne z] at h
      obtain ⟨a, us, e1, e2, e3, e4, e5⟩ := r.ow j ds' h
      exact ⟨a, us, by rw [List.getElem?_set_ne z]; exact e1, s.at' _ _ nt_lst e2, e3.mv x, fun w => e4 w.1, e5⟩
  · have key : ∀ (l : Nat) (d : List D), (ρ.set i (.ow ds))[l]? = some (.ow d) → (σ.set i (some (.ref p)))[l]? = some (some (.ref b)) → (l = i ∧ b = p) ∨ (l ≠ i ∧ b ≠ p ∧ ρ[l]? = some (.ow d) ∧ σ[l]? = some (some (.ref b))) := by
      intro l d z1 z2
      by_cases z : i = l
      · subst z
        rw [List.getElem?_set_self hs] at z2
        left; refine ⟨rfl, ?_⟩
        cases z2; rfl
      · rw [List.getElem?_set_ne z] at z1 z2
        right
        obtain ⟨a, us, e1, e2, _⟩ := r.ow l d z1
        rw [e1] at z2; cases z2
        exact ⟨fun w => z w.symm, ne_of_none e2 hp, z1, e1⟩
    rcases key j d1 h1 h3 with ⟨a1, a2⟩ | ⟨a1, a2, a3, a4⟩
    · rcases key k d2 h2 h4 with ⟨b1, _⟩ | ⟨_, b2, _⟩
      · rw [a1, b1]
      · exact absurd a2 b2
    · rcases key k d2 h2 h4 with ⟨_, b2⟩ | ⟨_, _, b3, b4⟩
      · exact absurd b2 a2
      · exact r.apart j k d1 d2 b a3 b3 a4 b4
theorem RS.write (r : RS K P H0 al H σ ρ) {i : Nat} {a : Addr} {ds0 ds : List D} {vs : List V} (h : ρ[i]? = some (.ow ds0)) (e : σ[i]? = some (some (.ref a))) (q : Reps K al H vs ds) :
    RS K P H0 al (upd H a (.lst vs)) σ (ρ.set i (.ow ds)) ∧ Xt al H al (upd H a (.lst vs)) := by
  obtain ⟨a', us, e1, e2, e3, e4, e5⟩ := r.ow i ds0 h
  rw [e] at e1; cases e1
  have hi : i < ρ.length := (List.getElem?_eq_some_iff.mp h).1
  have ne : ∀ b, al b → b ≠ a := fun b hb z => e4 (z ▸ hb)
  have x : Xt al H al (upd H a (.lst vs)) := fun b o _ hb w => ⟨hb, by rw [upd_ne (ne b hb)]; exact w⟩
  have up : TbOk K H → TbOk K (upd H a (.lst vs)) := fun t => t.upd (fun ps w => by rw [e2] at w; cases w) fun q w => by rw [e2] at w; unfold CodeO at w; cases w
  refine ⟨⟨⟨fun b o n w => ?_, fun b w => ?_, fun t => up (r.same.tt t)⟩, up r.tt, fun b hb => ?_, r.sub, r.pf, by rw [List.length_set]; exact r.len, fun j d z => ?_, fun j d z => ?_, fun j k d1 d2 b z1 z2 z3 z4 => ?_⟩, x⟩
  · rw [upd_ne (ne_of_none w e5)]; exact r.same.at' b o n w
  · by_cases z : b = a
    · rw [z]; exact e5
    · rw [upd_ne z] at w; exact r.same.fr b w
  · by_cases z : b = a
    · rw [z, upd_same] at hb; cases hb
    · rw [upd_ne z] at hb; exact r.fresh b hb
  · by_cases y : i = j
    · subst y; rw [List.getElem?_set_self hi] at z; cases z
    · rw [List.getElem?_set_ne y] at z
      obtain ⟨v, w1, w2⟩ := r.sh j d z
      exact ⟨v, w1, w2.mv x⟩
  · by_cases y : i = j
    · subst y
      rw [List.getElem?_set_self hi] at z; cases z
      exact ⟨a, vs, e, upd_same, q.mv x, e4, e5⟩
    · rw [List.getElem?_set_ne y] at z
      obtain ⟨b, ws, w1, w2, w3, w4, w5⟩ := r.ow j d z
      refine ⟨b, ws, w1, ?_, w3.mv x, w4, w5⟩
      rw [upd_ne]; exact w2
      intro c; subst c
      exact y (r.apart i j ds0 d b h z e w1)
  · have back : ∀ (l : Nat) (d : List D), (ρ.set i (.ow ds))[l]? = some (.ow d) → ∃ d', ρ[l]? = some (.ow d') := fun l d w => by
      by_cases y : i = l
      · subst y; exact ⟨ds0, h⟩
      · rw [List.getElem?_set_ne y] at w; exact ⟨d, w⟩
    obtain ⟨d1', w1⟩ := back j d1 z1
    obtain ⟨d2', w2⟩ := back k d2 z2
    exact r.apart j k d1' d2' b w1 w2 z3 z4
noncomputable def frzS (i : Nat) (ρ : Ev) : Ev := match ρ[i]? with
  | some (.ow ds) => ρ.set i (.sh (.lst ds))
  | _ => ρ
end
section
variable {X : Cx} {E : XK} {e : Expr} {sts : List Stmt} {st : Stmt} {g : Ev → RT} {f : Ev → R D} {fn : Ev → R (List D)} {pos : Pos}
noncomputable def flatD : D → Bool
  | .non => true
  | .bl _ => true
  | .int _ => true
  | .str _ => true
  | _ => false
theorem Rep.flat {K : PySem.W.Frag} {al al' : Addr → Prop} {H H' : Hp} {v : V} {d : D} (r : Rep K al H v d) (h : flatD d = true) : Rep K al' H' v d := by
  cases r with
  | non => exact .non
  | bl b => exact .bl b
  | int b => exact .int b
  | str b => exact .str b
  | _ => cases h
noncomputable def noEx {α : Type} (r : R α) : R α := match r with
  | .ok a => .ok a
  | _ => .bad
noncomputable def sOwn (i : Nat) (f : Ev → R (List D)) : Ev → RT := fun ρ => toS (f ρ) fun ds => if i < ρ.length then .nx (ρ.set i (.ow ds)) else .bad
noncomputable def sApp (i : Nat) (f : Ev → R D) : Ev → RT := fun ρ => match ρ[i]? with
  | some (.ow ds) => toS (f ρ) fun d => if ds.length < sizeLine then .nx (ρ.set i (.ow (ds ++ [d]))) else .bad
  | _ => .bad
end
section
variable {P : Program} {w : World} {K : PySem.W.Frag} {mg : Str → Option Value} {base : Heap} {N : List Str} {qual : Str} {scope : Scope} {f : Addr} {cd : Value} {A : Around} {outer : List Env} {s : Shared} {H : Hp} {E : XK}
end
section
variable {X : Cx} {E : XK}
end
end P2
namespace P2
open PySem L2 PyProof.Rows
noncomputable abbrev bits (x : Int) : Nat := Builtin.Int.intBits x
theorem opr_or {X : Cx} {f : Value → Value → Sem Value} {r r' : R2} (h : OpR X f r) (h' : OpR X f r') : OpR X f (fun x y H Q => r x y H Q ∨ r' x y H Q) :=
  fun pins s σ H x y v u Q I rx ry q => q.elim (h pins s σ H x y v u Q I rx ry) (h' pins s σ H x y v u Q I rx ry)
noncomputable def iB (C : Int → Int → Bool) (g : Int → Int → D) (x y : D) : R D := match x, y with
  | .int i, .int j => if C i j = true then .ok (g i j) else .bad
  | _, _ => .bad
section
variable {X : Cx} {E : XK}
theorem opd_I {op : Value → Value → Sem Value} {C : Int → Int → Prop} {Cb : Int → Int → Bool} {g : Int → Int → V} {gd : Int → Int → D} (ho : OpR X op (rI C g)) (hC : ∀ i j, Cb i j = true → C i j) (hg : ∀ i j K al H, Rep K al H (g i j) (gd i j)) : OpD X E op (iB Cb gd) := by
  refine ⟨_, ho, fun al H x y dx dy Q fr rx ry h => ?_⟩
  unfold iB at h
  split at h
  · rename_i i j
    cases rx; cases ry
    split at h
    · rename_i z
      exact ⟨i, j, rfl, rfl, hC i j z, h H (.refl H) _ (hg i j _ _ _)⟩
    · exact h.elim
  · exact h.elim
theorem opd_I0 {op : Value → Value → Sem Value} {g : Int → Int → V} {gd : Int → Int → D} (ho : OpR X op (rI0 g)) (hg : ∀ i j K al H, Rep K al H (g i j) (gd i j)) : OpD X E op (iB (fun _ _ => true) gd) := by
  refine ⟨_, ho, fun al H x y dx dy Q fr rx ry h => ?_⟩
  unfold iB at h
  split at h
  · rename_i i j
    cases rx; cases ry
    exact ⟨i, j, rfl, rfl, h H (.refl H) _ (hg i j _ _ _)⟩
  · exact h.elim
noncomputable def subD : D → D → R D := iB (fun _ _ => true) fun i j => .int (i - j)
theorem op_subD : OpD X E (binaryOp .Sub) subD := opd_I0 op_sub fun _ _ _ _ _ => .int _
noncomputable def okMul (i j : Int) : Bool := decide (bits i ≤ 1048576) && decide (bits j ≤ 1048576)
noncomputable def okDiv (_ j : Int) : Bool := decide (j ≠ 0) && decide (bits j ≤ 9000)
noncomputable def okPow (i j : Int) : Bool := decide (0 ≤ j) && decide (j ≤ 1000000) && decide (i.natAbs < 2 ^ 64)
noncomputable def fdivD : D → D → R D := iB okDiv fun i j => .int (i.fdiv j)
theorem op_fdivD : OpD X E (binaryOp .FloorDiv) fdivD := opd_I op_fdivB (fun i j h => by unfold okDiv at h; simpa [CDivB] using h) fun _ _ _ _ _ => .int _
noncomputable def modD : D → D → R D := iB (fun _ j => decide (j ≠ 0)) fun i j => .int (i.fmod j)
theorem op_modD : OpD X E (binaryOp .Mod) modD := opd_I op_modN (fun i j h => by simpa using h) fun _ _ _ _ _ => .int _
noncomputable def powD : D → D → R D := iB okPow fun i j => .int (i ^ j.toNat)
theorem op_powD : OpD X E (binaryOp .Pow) powD := opd_I op_pow (fun i j h => by unfold okPow at h; simp only [Bool.and_eq_true, decide_eq_true_eq] at h; exact ⟨h.1.1, h.1.2, h.2⟩) fun _ _ _ _ _ => .int _
noncomputable def ltD : D → D → R D := iB (fun _ _ => true) fun i j => .bl (decide (i < j))
noncomputable def leD : D → D → R D := iB (fun _ _ => true) fun i j => .bl (decide (i ≤ j))
noncomputable def gtD : D → D → R D := iB (fun _ _ => true) fun i j => .bl (decide (j < i))
noncomputable def geD : D → D → R D := iB (fun _ _ => true) fun i j => .bl (decide (j ≤ i))
theorem op_ltD : OpD X E (compareOp .Lt) ltD := opd_I0 op_lt fun _ _ _ _ _ => .bl _
theorem op_gtD : OpD X E (compareOp .Gt) gtD := opd_I0 op_gt fun _ _ _ _ _ => .bl _
noncomputable def negD : D → R D
  | .int i => .ok (.int (-i))
  | _ => .bad
noncomputable def SqF (K : PySem.W.Frag) (H : Hp) (a : Addr) (xs : List V) : Prop := Rd H a (.lst xs) ∨ KL K a xs
theorem SqF.is {X : Cx} {pins : List (Addr × Obj)} {s : Shared} {σ : L2.St} {H : Hp} {a : Addr} {xs : List V} (I : Inv X pins σ H s) (h : SqF X.K H a xs) : ∃ its n, Vals xs its ∧ s.heap.get? a = some { cls := .type "list", data := .seq its.toArray n } := by
  rcases h with h | ⟨its, n, h1, h2, h3⟩
  · obtain ⟨z, its, n, r, e⟩ := h.ok I.hok
    exact ⟨its, n, r, e⟩
  · exact ⟨its, n, h3, I.kIn a _ h1⟩
noncomputable def rCatR (K : PySem.W.Frag) : R2 := fun x y H Q => ∃ l b xs zs, x = .ref l ∧ y = .ref b ∧ SqF K H l xs ∧ SqF K H b zs ∧ xs.length + zs.length ≤ sizeLine ∧ ∀ p, H p = none → Q (.ref p) (upd H p (.lst (xs ++ zs)))
theorem op_catR : OpR X (binaryOp .Add) (rCatR X.K) := by
  intro pins s σ H x y v u Q I rx ry h
  obtain ⟨l, b, xs, zs, rfl, rfl, hH, hB, hz, q⟩ := h
  cases rx
  cases ry
  obtain ⟨its, n, r, e⟩ := hH.is I
  obtain ⟨its2, n2, r2, e2⟩ := hB.is I
  have hl := r.length
  have hl2 := r2.length
  refine PySem.P.add_list e e2 ?_ (by rw [List.size_toArray, List.size_toArray]; omega)
  have ea : its.toArray ++ its2.toArray = (its ++ its2).toArray := by simp
  rw [ea]
  exact ⟨.ref _, _, I.lnew (t' := s.toks) (r.append r2) (by rw [List.length_append]; omega), rfl, q _ I.fresh⟩
noncomputable def addD : D → D → R D
  | .int i, .int j => .ok (.int (i + j))
  | .str i, .str j => if i.length + j.length ≤ sizeLine then .ok (.str (i ++ j)) else .bad
  | .lst xs, .lst ys => if xs.length + ys.length ≤ sizeLine then .ok (.lst (xs ++ ys)) else .bad
  | _, _ => .bad
theorem op_addD : OpD X E (binaryOp .Add) addD := by
  refine ⟨_, opr_or op_add (opr_or op_add_str op_catR), fun al H x y dx dy Q fr rx ry h => ?_⟩
  unfold addD at h
  split at h
  · cases rx; cases ry; exact .inl ⟨_, _, rfl, rfl, h H (.refl H) _ (.int _)⟩
  · cases rx; cases ry
    split at h
    · rename_i z; exact .inr (.inl ⟨_, _, rfl, rfl, z, h H (.refl H) _ (.str _)⟩)
    · exact h.elim
  · split at h
    · rename_i z
      obtain ⟨a, vs, rfl, h1, h2⟩ := rx.lstRd
      obtain ⟨b, ws, rfl, h3, h4⟩ := ry.lstRd
      exact .inr (.inr ⟨a, b, vs, ws, rfl, rfl, h1, h3, by rw [h2.length, h4.length]; exact z, fun p hp => h _ (same_upd hp) _ ((h2.append h4).lstNew hp (fr p hp))⟩)
    · exact h.elim
  · exact h.elim
noncomputable def okMulS (x : Str) (n : Int) : Bool := !(decide (n < -(2 ^ 63 : Int)) || decide (n ≥ 2 ^ 63)) && decide (x.length * n.toNat ≤ 1000000) && decide (x.length ≤ 1000000) && decide (n ≤ 1000000)
theorem op_mul_str : OpR X (binaryOp .Mult) (fun x y H Q => ∃ i n, x = .str i ∧ y = .int n ∧ MulOk i n ∧ Q (.str (Txt.mul i n)) H) := by
  intro pins s σ H x y v u Q I rx ry h
  obtain ⟨i, j, rfl, rfl, hz, q⟩ := h
  obtain ⟨t, rfl⟩ := rx
  obtain ⟨t', rfl⟩ := ry
  exact SB.mul hz fun t'' k => ⟨.str _, H, I.tok _, ⟨_, rfl⟩, q⟩
theorem mulOk_of {x : Str} {n : Int} (h : okMulS x n = true) : MulOk x n := by
  unfold okMulS at h
  simp only [Bool.and_eq_true, decide_eq_true_eq, Bool.not_eq_true'] at h
  obtain ⟨⟨⟨h1, h2⟩, h3⟩, h4⟩ := h
  refine ⟨h1, fun h5 _ => ?_, fun _ _ => ?_⟩
  · have h6 : (1 : Int) ≤ n := by omega
    have h7 : (1000000 : Int) ≤ (2 ^ 63 - 1) / n := by
      apply (Int.le_ediv_iff_mul_le (by omega)).mpr
      have : (1000000 : Int) * n ≤ 1000000 * 1000000 := Int.mul_le_mul_of_nonneg_left h4 (by decide)
      omega
    omega
  · have : sizeLine = 16777216 := sizeLine_eq
    unfold Builtin.Str.tooLong
    simp only [decide_eq_false_iff_not]
    omega
noncomputable def flatEq : D → D → Option Bool
  | .non, .non => some true
  | .int i, .int j => some (decide (i = j))
  | .str i, .str j => some (decide (i = j))
  | .bl i, .bl j => some (decide (i = j))
  | .non, .int _ => some false
  | .int _, .non => some false
  | .non, .str _ => some false
  | .str _, .non => some false
  | .non, .bl _ => some false
  | .bl _, .non => some false
  | .int _, .str _ => some false
  | .str _, .int _ => some false
  | _, _ => none
noncomputable def eqSD (x y : D) : R D := match flatEq x y with
  | some b => .ok (.bl b)
  | none => .bad
noncomputable def neSD (x y : D) : R D := match flatEq x y with
  | some b => .ok (.bl (!b))
  | none => .bad
theorem flat_eq {K : PySem.W.Frag} {al : Addr → Prop} {H : Hp} {x y : V} {dx dy : D} {b : Bool} (rx : Rep K al H x dx) (ry : Rep K al H y dy) (h : flatEq dx dy = some b) : scal x y = true ∧ decide (x = y) = b := by
  unfold flatEq at h
  split at h <;> first | (cases h; done) | (cases rx; cases ry; cases h; refine ⟨rfl, ?_⟩; simp)
theorem op_eqSD : OpD X E (compareOp .Eq) eqSD := by
  refine ⟨_, op_eq, fun al H x y dx dy Q fr rx ry h => ?_⟩
  unfold eqSD at h
  cases q : flatEq dx dy with
  | none => rw [q] at h; exact h.elim
  | some b =>
    rw [q] at h
    obtain ⟨h1, h2⟩ := flat_eq rx ry q
    exact ⟨h1, by rw [h2]; exact h H (.refl H) _ (.bl b)⟩
noncomputable def inSD : D → D → R D
  | .str i, .str j => .ok (.bl (Txt.contains j i))
  | _, _ => .bad
theorem op_inSD : OpD X E (compareOp .In) inSD := by
  refine ⟨_, op_in_str, fun al H x y dx dy Q fr rx ry h => ?_⟩
  unfold inSD at h
  split at h
  · cases rx; cases ry; exact ⟨_, _, rfl, rfl, h H (.refl H) _ (.bl _)⟩
  · exact h.elim
theorem Reps.atI {K : PySem.W.Frag} {al : Addr → Prop} {H : Hp} {vs : List V} {ds : List D} (r : Reps K al H vs ds) {i : Int} {d : D} (h : L2.atI ds i = some d) : ∃ v, L2.atI vs i = some v ∧ Rep K al H v d := by
  unfold L2.atI at h ⊢
  rw [r.length]
  cases q : ixN ds.length i with
  | none => rw [q] at h; cases h
  | some j =>
    rw [q] at h
    exact r.getD h
noncomputable def ixD : D → D → R D
  | .lst ds, .int i => match L2.atI ds i with
    | some d => .ok d
    | none => .bad
  | .tup ds, .int i => match L2.atI ds i with
    | some d => .ok d
    | none => .bad
  | .str z, .int i => if z.length ≤ sizeLine then (match L2.atI z.cps.toList i with
    | some c => .ok (.str ⟨#[c]⟩)
    | none => .bad) else .bad
  | _, _ => .bad
theorem ix_D : IxD X E ixD := by
  refine ⟨_, ix_seq, fun al H x y dx dy Q fr rx ry h => ?_⟩
  unfold ixD at h
  split at h
  · rename_i ds i
    cases ry
    cases q : L2.atI ds i with
    | none => rw [q] at h; exact h.elim
    | some d =>
      rw [q] at h
      obtain ⟨a, vs, rfl, h1, h2⟩ := rx.lstIn
      obtain ⟨v, e1, e2⟩ := Reps.atI h2 q
      exact .inl ⟨a, vs, i, v, rfl, rfl, h1, e1, h H (.refl H) _ e2⟩
  · rename_i ds i
    cases ry
    cases q : L2.atI ds i with
    | none => rw [q] at h; exact h.elim
    | some d =>
      rw [q] at h
      obtain ⟨a, vs, rfl, h1, h2⟩ := rx.tupIn
      obtain ⟨v, e1, e2⟩ := Reps.atI h2 q
      exact .inr (.inl ⟨a, vs, i, v, rfl, rfl, h1, e1, h H (.refl H) _ e2⟩)
  · rename_i z i
    cases rx; cases ry
    split at h
    · rename_i hz
      cases q : L2.atI z.cps.toList i with
      | none => rw [q] at h; exact h.elim
      | some c => rw [q] at h; exact .inr (.inr ⟨z, i, c, rfl, rfl, hz, q, h H (.refl H) _ (.str _)⟩)
    · exact h.elim
  · exact h.elim
noncomputable def rSlS : V → Option Int → Option Int → Hp → VK → Prop := fun x lo hi H Q => ∃ z, x = .str z ∧ z.length ≤ sizeLine ∧ Q (.str (Txt.slice z lo hi)) H
theorem sl_str : SlR X rSlS := by
  intro pins s σ H x v vl vu lo hi sl Q I rx hs pl pu h
  obtain ⟨z, rfl, hz, q⟩ := h
  obtain ⟨t, rfl⟩ := rx
  refine ⟨"str", _, PySem.F.slot_str_getitem.lookup, typeIs_str s z t, ?_⟩
  obtain ⟨o, h1, h2, h3⟩ := hs
  cases pl with
  | none =>
    cases pu with
    | none => exact wpAny_getItem_str_slice (l := none) (u := none) (st := none) ⟨o, h1, h2, h3⟩ rfl (post_val_or_str ⟨Nat.le_trans (Txt.slice_le z none none) hz, fun t' k => ⟨.str _, H, I.tok _, ⟨_, rfl⟩, q⟩⟩)
    | int j u => exact wpAny_getItem_str_slice (l := none) (u := some (j, u)) (st := none) ⟨o, h1, h2, h3⟩ rfl (post_val_or_str ⟨Nat.le_trans (Txt.slice_le z none (some j)) hz, fun t' k => ⟨.str _, H, I.tok _, ⟨_, rfl⟩, q⟩⟩)
  | int i ui =>
    cases pu with
    | none => exact wpAny_getItem_str_slice (l := some (i, ui)) (u := none) (st := none) ⟨o, h1, h2, h3⟩ rfl (post_val_or_str ⟨Nat.le_trans (Txt.slice_le z (some i) none) hz, fun t' k => ⟨.str _, H, I.tok _, ⟨_, rfl⟩, q⟩⟩)
    | int j u => exact wpAny_getItem_str_slice (l := some (i, ui)) (u := some (j, u)) (st := none) ⟨o, h1, h2, h3⟩ rfl (post_val_or_str ⟨Nat.le_trans (Txt.slice_le z (some i) (some j)) hz, fun t' k => ⟨.str _, H, I.tok _, ⟨_, rfl⟩, q⟩⟩)
noncomputable def cutD (xs : List D) (lo hi : Option Int) : List D := (xs.drop (HT.sIx xs.length 0 lo)).take (HT.sIx xs.length xs.length hi - HT.sIx xs.length 0 lo)
theorem Reps.cut {K : PySem.W.Frag} {al : Addr → Prop} {H : Hp} {vs : List V} {ds : List D} (r : Reps K al H vs ds) (lo hi : Option Int) : Reps K al H (cutV vs lo hi) (cutD ds lo hi) := by
  unfold cutV cutD
  rw [r.length]
  exact (r.drop _).take _
noncomputable def slD : D → Option Int → Option Int → R D
  | .lst ds, lo, hi => .ok (.lst (cutD ds lo hi))
  | .str z, lo, hi => if z.length ≤ sizeLine then .ok (.str (Txt.slice z lo hi)) else .bad
  | _, _, _ => .bad
theorem sl_D : SlD X E slD := by
  refine ⟨_, sl_list.or sl_str, fun al H x dx lo hi Q fr rx h => ?_⟩
  unfold slD at h
  split at h
  · obtain ⟨a, vs, rfl, h1, h2⟩ := rx.lstIn
    exact .inl ⟨a, vs, rfl, h1, fun p hp => h _ (same_upd hp) _ ((h2.cut lo hi).lstNew hp (fr p hp))⟩
  · cases rx
    split at h
    · rename_i hz; exact .inr ⟨_, rfl, hz, h H (.refl H) _ (.str _)⟩
    · exact h.elim
  · exact h.elim
noncomputable def lenD : List D → R D
  | [.str z] => if z.length ≤ sizeLine then .ok (.int z.length) else .bad
  | [.lst ds] => .ok (.int ds.length)
  | [.tup ds] => .ok (.int ds.length)
  | _ => .bad
theorem Reps.one {K : PySem.W.Frag} {al : Addr → Prop} {H : Hp} {vs : List V} {d : D} (r : Reps K al H vs [d]) : ∃ v, vs = [v] ∧ Rep K al H v d := by
  cases r with
  | cons a b => cases b; exact ⟨_, rfl, a⟩
theorem Reps.two {K : PySem.W.Frag} {al : Addr → Prop} {H : Hp} {vs : List V} {d e : D} (r : Reps K al H vs [d, e]) : ∃ v u, vs = [v, u] ∧ Rep K al H v d ∧ Rep K al H u e := by
  cases r with
  | cons a b => obtain ⟨u, rfl, q⟩ := Reps.one b; exact ⟨_, _, rfl, a, q⟩
theorem call_lenD : CallD X E (.builtin "len") lenD := by
  refine ⟨_, call_len_str.or call_len_seq, fun al H xs ds Q fr r h => ?_⟩
  unfold lenD at h
  split at h
  · obtain ⟨v, rfl, q⟩ := Reps.one r
    cases q
    split at h
    · rename_i hz; exact .inl ⟨_, rfl, hz, h H (.refl H) _ (.int _)⟩
    · exact h.elim
  · obtain ⟨v, rfl, q⟩ := Reps.one r
    obtain ⟨a, vs, rfl, h1, h2⟩ := q.lstIn
    exact .inr ⟨a, vs, rfl, .inl h1, by rw [h2.length]; exact h H (.refl H) _ (.int _)⟩
  · obtain ⟨v, rfl, q⟩ := Reps.one r
    obtain ⟨a, vs, rfl, h1, h2⟩ := q.tupIn
    exact .inr ⟨a, vs, rfl, .inr h1, by rw [h2.length]; exact h H (.refl H) _ (.int _)⟩
  · exact h.elim
noncomputable def absD : List D → R D
  | [.int i] => .ok (.int (if i < 0 then -i else i))
  | _ => .bad
noncomputable def max2D : List D → R D
  | [.int i, .int j] => .ok (.int (if j > i then j else i))
  | _ => .bad
theorem call_max2D (hc : X.calm = true) : CallD X E (.builtin "max") max2D := by
  refine ⟨_, call_max2 hc, fun al H xs ds Q fr r h => ?_⟩
  unfold max2D at h
  split at h
  · obtain ⟨v, u, rfl, q, q2⟩ := Reps.two r
    cases q; cases q2
    exact ⟨_, _, rfl, h H (.refl H) _ (.int _)⟩
  · exact h.elim
noncomputable def strD : List D → R D
  | [.int i] => if i.natAbs.log2 < 1920 then .ok (.str (toString i)) else .bad
  | _ => .bad
theorem call_strD : CallD X E (.type "str") strD := by
  refine ⟨_, call_str_int, fun al H xs ds Q fr r h => ?_⟩
  unfold strD at h
  split at h
  · obtain ⟨v, rfl, q⟩ := Reps.one r
    cases q
    split at h
    · rename_i hz; exact ⟨_, rfl, hz, h H (.refl H) _ (.str _)⟩
    · exact h.elim
  · exact h.elim
theorem call_int_str : CallR X (.type "int") (fun xs H Q => ∃ z n, xs = [.str z] ∧ PySem.intText? z = some n ∧ z.length ≤ 640 ∧ Q (.int n) H) := by
  intro pins s σ H xs us Q I r h
  obtain ⟨z, n, rfl, h1, h2, q⟩ := h
  obtain ⟨u, rfl, t, rfl⟩ := vals1 r
  exact PySem.W.KIN.call_text h1 h2 ⟨.int n, H, I.tok _, ⟨_, rfl⟩, q⟩
noncomputable def intD : List D → R D
  | [.str z] => match PySem.intText? z with
    | some n => if z.length ≤ 640 then .ok (.int n) else .bad
    | none => .bad
  | _ => .bad
theorem call_intD : CallD X E (.type "int") intD := by
  refine ⟨_, call_int_str, fun al H xs ds Q fr r h => ?_⟩
  unfold intD at h
  split at h
  · rename_i z
    obtain ⟨v, rfl, q⟩ := Reps.one r
    cases q
    cases e : PySem.intText? z with
    | none => rw [e] at h; exact h.elim
    | some n =>
      rw [e] at h
      dsimp only at h
      split at h
      · rename_i hz; exact ⟨z, n, rfl, e, hz, h H (.refl H) _ (.int _)⟩
      · exact h.elim
  · exact h.elim
noncomputable def boolsD : List D → Option (List Bool)
  | [] => some []
  | .bl b :: r => (boolsD r).map (b :: ·)
  | _ => none
theorem Reps.bools {K : PySem.W.Frag} {al : Addr → Prop} {H : Hp} : ∀ {vs : List V} {ds : List D} {bs : List Bool}, Reps K al H vs ds → boolsD ds = some bs → vs = bs.map V.bl
  | _, [], bs, r, h => by cases r; cases h; rfl
  | _, .bl b :: ds, bs, r, h => by
    unfold boolsD at h
    obtain ⟨bs', h1, h2⟩ := Option.map_eq_some_iff.mp h
    subst h2
    cases r with
    | cons a q => cases a; rw [Reps.bools q h1]; rfl
  | _, .non :: _, _, _, h => by cases h
  | _, .int _ :: _, _, _, h => by cases h
  | _, .str _ :: _, _, _, h => by cases h
  | _, .ty _ :: _, _, _, h => by cases h
  | _, .ref _ :: _, _, _, h => by cases h
  | _, .tup _ :: _, _, _, h => by cases h
  | _, .lst _ :: _, _, _, h => by cases h
  | _, .exc _ _ _ :: _, _, _, h => by cases h
noncomputable def allD : List D → R D
  | [.lst ds] => match boolsD ds with
    | some bs => .ok (.bl (bs.all id))
    | none => .bad
  | _ => .bad
noncomputable def anyD : List D → R D
  | [.lst ds] => match boolsD ds with
    | some bs => .ok (.bl (bs.any id))
    | none => .bad
  | _ => .bad
noncomputable def startsD : D → List D → R D
  | .str i, [.str j] => .ok (.bl (Txt.startswith i j))
  | _, _ => .bad
noncomputable def zfillD : D → List D → R D
  | .str z, [.int i] => if PadOk i = true then .ok (.str (Txt.zfill z i)) else .bad
  | _, _ => .bad
noncomputable def fmtD : D → R D
  | .str z => if z.length ≤ sizeLine then .ok (.str z) else .bad
  | .int i => if i.natAbs.log2 < 1920 then .ok (.str (toString i)) else .bad
  | _ => .bad
theorem de_fmt {e : Expr} {f : Ev → R D} {pos : Pos} (he : DE X E e f) : DE X E (.FormattedValue e (-1) none pos) (d1 fmtD f) := by
  obtain ⟨t, p, r⟩ := he
  refine ⟨fun σ H Q => t σ H fun v H1 => (∃ z, v = .str z ∧ z.length ≤ sizeLine ∧ Q (.str z) H1) ∨ ∃ i, v = .int i ∧ i.natAbs.log2 < 1920 ∧ Q (.str (toString i)) H1, fun pins s σ H Q I h => ?_, fun P H0 al H σ ρ Q s h => r _ _ _ _ _ _ _ s (Aft.mono (Aft.split h) fun d H1 s1 h1 v rv => ?_)⟩
  · refine FormattedValue_plain (thn (p pins s σ H _ I h) fun u s1 ⟨v, H1, I1, r1, q1⟩ => ?_)
    rcases q1 with ⟨z, rfl, hz, q⟩ | ⟨i, rfl, hz, q⟩
    · obtain ⟨t1, rfl⟩ := r1
      exact formatField_str (fun t' tk => ⟨.str z, H1, I1.tok _, ⟨_, rfl⟩, q⟩) hz
    · obtain ⟨t1, rfl⟩ := r1
      exact formatField_int_small hz ⟨.str _, H1, I1.tok _, ⟨_, rfl⟩, q⟩
  · unfold fmtD at h1
    split at h1
    · cases rv
      split at h1
      · rename_i hz; exact .inl ⟨_, rfl, hz, h1 H1 (.refl H1) _ (.str _)⟩
      · exact h1.elim
    · cases rv
      split at h1
      · rename_i hz; exact .inr ⟨_, rfl, hz, h1 H1 (.refl H1) _ (.str _)⟩
      · exact h1.elim
    · exact h1.elim
noncomputable def DJ (X : Cx) (E : XK) (es : List Expr) (f : Str → Ev → R D) : Prop := ∃ t : Str → TE, (∀ (out : Str) (pins : List (Addr × Obj)) (s : Shared) (σ : L2.St) (H : Hp) (Q : VK), Inv X pins σ H s → t out σ H Q → wpAny (model X.prog X.w) X.A (joinParts out (evalEach es X.env)) (EP X pins σ Q) X.xe s) ∧
  ∀ out P H0 al H σ ρ (Q : VK), RS X.K P H0 al H σ ρ → Aft X.K al E H (f out ρ) (fun d H' => ∀ v, Rep X.K al H' v d → Q v H') → t out σ H Q
noncomputable def jNil (out : Str) : Ev → R D := fun _ => if out.length ≤ sizeLine then .ok (.str out) else .bad
noncomputable def jCons (a : Ev → R D) (r : Str → Ev → R D) (out : Str) : Ev → R D := fun ρ => (a ρ).bind fun x => match x with
  | .str y => if (out ++ y).length ≤ sizeLine then r (out ++ y) ρ else .bad
  | _ => .bad
theorem dj_nil : DJ X E [] jNil := by
  refine ⟨fun out _ H Q => out.length ≤ sizeLine ∧ Q (.str out) H, fun out pins s σ H Q I h => joinParts_nil ⟨.str out, H, I.tok _, ⟨_, rfl⟩, h.2⟩ h.1, fun out P H0 al H σ ρ Q s h => ?_⟩
  unfold jNil at h
  split at h
  · rename_i z; exact ⟨z, h H (.refl H) _ (.str _)⟩
  · exact h.elim
theorem dj_cons {e : Expr} {es : List Expr} {fa : Ev → R D} {fr : Str → Ev → R D} (ha : DE X E e fa) (hr : DJ X E es fr) : DJ X E (e :: es) (jCons fa fr) := by
  obtain ⟨ta, pa, ra⟩ := ha
  obtain ⟨tr, pr, rr⟩ := hr
  refine ⟨fun out σ H Q => ta σ H fun v H1 => ∃ y, v = .str y ∧ (out ++ y).length ≤ sizeLine ∧ tr (out ++ y) σ H1 Q, fun out pins s σ H Q I h => ?_, fun out P H0 al H σ ρ Q s h => ra _ _ _ _ _ _ _ s (Aft.mono (Aft.split h) fun d H1 s1 h1 v rv => ?_)⟩
  · show wpAny _ _ (joinParts out (eval e X.env :: evalEach es X.env)) _ _ _
    refine joinParts_cons (thn (pa pins s σ H _ I h) fun u s1 ⟨v, H1, I1, r1, y, e1, z, q⟩ => ?_)
    subst e1
    obtain ⟨t1, rfl⟩ := r1
    exact ⟨z, pr _ pins s1 σ H1 Q I1 q⟩
  · cases rv with
    | str y =>
      dsimp only at h1
      split at h1
      · rename_i z; exact ⟨y, rfl, z, rr _ _ _ _ _ _ _ _ (s.grow s1) h1⟩
      · exact h1.elim
    | _ => exact (h1 : False).elim
theorem de_join {e1 e2 : Expr} {es : List Expr} {f : Str → Ev → R D} {pos : Pos} (h : DJ X E (e1 :: e2 :: es) f) : DE X E (.JoinedStr (e1 :: e2 :: es) pos) (f Str.empty) := by
  obtain ⟨t, p, r⟩ := h
  exact ⟨t Str.empty, fun pins s σ H Q I h => JoinedStr_many (p Str.empty pins s σ H Q I h), r Str.empty⟩
end
end P2
namespace P2
open PySem L2 PyProof.Rows
noncomputable def wE (K : PySem.W.Frag) (E : XK) (f : Ev → R D) : TE := fun σ H Q => ∃ P H0 al ρ, RS K P H0 al H σ ρ ∧ Aft K al E H (f ρ) (fun d H' => ∀ v, Rep K al H' v d → Q v H')
noncomputable def wT (K : PySem.W.Frag) (E : XK) (f : Ev → R Bool) : TT := fun σ H Q => ∃ P H0 al ρ, RS K P H0 al H σ ρ ∧ Aft K al E H (f ρ) Q
noncomputable def wG (K : PySem.W.Frag) (l : List Nat) (a : D → Ev → Option Ev) : TG := fun v σ H Q => ∃ P H0 al ρ d, RS K P H0 al H σ ρ ∧ Rep K al H v d ∧ ∃ ρ', a d ρ = some ρ' ∧ ∀ σ', Kp l σ σ' → RS K P H0 al H σ' ρ' → Q σ' H
theorem DE.w {X : Cx} {E : XK} {e : Expr} {f : Ev → R D} (h : DE X E e f) : PE X e (wE X.K E f) := by
  obtain ⟨t, p, r⟩ := h
  intro pins s σ H Q I hq
  obtain ⟨P, H0, al, ρ, s1, a⟩ := hq
  exact p pins s σ H Q I (r P H0 al H σ ρ Q s1 a)
theorem DT.w {X : Cx} {E : XK} {e : Expr} {f : Ev → R Bool} (h : DT X E e f) : PT X e (wT X.K E f) := by
  obtain ⟨t, p, r⟩ := h
  intro pins s σ H Q I hq
  obtain ⟨P, H0, al, ρ, s1, a⟩ := hq
  exact p pins s σ H Q I (r P H0 al H σ ρ Q s1 a)
theorem DG.w {X : Cx} {tg : Expr} {l : List Nat} {a : D → Ev → Option Ev} (h : DG X tg l a) : PG X tg (wG X.K l a) := by
  obtain ⟨t, p, r⟩ := h
  intro pins s σ H v u Q I rv hq
  obtain ⟨P, H0, al, ρ, d, s1, rd, a⟩ := hq
  exact p pins s σ H v u Q I rv (r P H0 al H σ ρ v d Q s1 rd a)
noncomputable def capD (tn : Nat) (ci : List Nat) (ρ : Ev) : Ev := List.replicate tn .no ++ ci.map fun i => match ρ[i]? with
  | some (.sh d) => .sh d
  | _ => .no
noncomputable def okO {α : Type} : R α → Option α
  | .ok a => some a
  | _ => none
noncomputable def ofO {α : Type} : Option α → R α
  | some a => .ok a
  | none => .bad
noncomputable def compO (a : D → Ev → Option Ev) (c : Ev → R Bool) (e : Ev → R D) (ρ0 : Ev) : List D → Option (List D)
  | [] => some []
  | d :: r => (a d ρ0).bind fun ρ1 => (okO (c ρ1)).bind fun b => if b = true then (okO (e ρ1)).bind fun v => (compO a c e ρ0 r).bind fun vs => some (v :: vs) else compO a c e ρ0 r
noncomputable def dComp (fi : Ev → R (List D)) (tn : Nat) (ci : List Nat) (a : D → Ev → Option Ev) (c : Ev → R Bool) (e : Ev → R D) : Ev → R (List D) := fun ρ => (fi ρ).bind fun ds => if ds.length ≤ sizeLine then ofO (compO a c e (capD tn ci ρ) ds) else .bad
section
variable {X : Cx} {E : XK} {tg iter elt : Expr} {ifs : List Expr} {scope : Scope} {pos : Pos} {fi : Ev → R (List D)} {a : D → Ev → Option Ev} {fc : Ev → R Bool} {fe : Ev → R D} {cl : List (Str × Addr)} {tn : Nat} {Nt Nc : List Str} {ci l : List Nat}
end
noncomputable def Its (x : Str) : It := ⟨fun i _ => i < x.cps.size, fun i H v H' => H' = H ∧ ∃ c, x.cps[i]? = some c ∧ v = .str ⟨#[c]⟩, fun i _ => x.cps.size ≤ i⟩
theorem turn_ascii {P : Program} {w : World} {K : PySem.W.Frag} {tg : Expr} (x : Str) (t : Tok) (it : Addr) : Turn P w K tg (Its x) [it] it (fun i h => h.IsStrIter it "str_ascii_iterator" x t i) where
  mem := by simp
  obj := fun i h st b hb => by
    have e : b = it := by simpa using hb
    subst e
    obtain ⟨o, e, c, d⟩ := st
    exact ⟨o, e, fun v z => by rw [d] at z; cases z⟩
  keep := fun i h h' st k => let ⟨o, ho, r⟩ := st; ⟨o, k it (by simp) o ho, r⟩
  item := by
    intro X hP hw hK hcalm i pins s σ H E I hf st hg
    subst hP hw hK
    obtain ⟨f0, f1, f2, f3, f4, f5⟩ := hf it (by simp)
    have hg' : i < x.cps.size := hg
    refine wpAny_pyNext_ascii_item st (c := x.cps[i]) (by simp [hg']) fun h' st' sb => ?_
    have I1 : Inv X pins σ H { s with heap := h', toks := s.toks + 1 } := I.turned (fun b o hb e => (sb.2 b hb).trans e) f0 f1 f3 f4 f5
    obtain ⟨o, e, c, d⟩ := id st'
    exact ⟨_, rfl, go_of (s := { s with heap := h', toks := s.toks + 1 }) e c d (by decide) ⟨.str ⟨#[x.cps[i]]⟩, H, I1, ⟨_, rfl⟩, ⟨rfl, x.cps[i], by simp [hg'], rfl⟩, st', fun b hb => (hf b hb).1⟩⟩
  done := by
    intro X hP hw hK hcalm i pins s σ H E I hf st hg
    subst hP hw hK
    obtain ⟨f0, f1, f2, f3, f4, f5⟩ := hf it (by simp)
    have hg' : x.cps.size ≤ i := hg
    exact wpAny_pyNext_ascii_end (I.ok.hd hcalm) st (by simp [hg']) fun h' eb => ⟨rfl, I.turned (t' := s.toks) (fun b o hb e => eb b o hb e) f0 f1 f3 f4 f5⟩
  self := fun _ _ _ _ _ st h => wpAny_pyIter_striter_ascii st h
theorem turn_wide {P : Program} {w : World} {K : PySem.W.Frag} {tg : Expr} (x : Str) (t : Tok) (it : Addr) : Turn P w K tg (Its x) [it] it (fun i h => h.IsStrIter it "str_iterator" x t i) where
  mem := by simp
  obj := fun i h st b hb => by
    have e : b = it := by simpa using hb
    subst e
    obtain ⟨o, e, c, d⟩ := st
    exact ⟨o, e, fun v z => by rw [d] at z; cases z⟩
  keep := fun i h h' st k => let ⟨o, ho, r⟩ := st; ⟨o, k it (by simp) o ho, r⟩
  item := by
    intro X hP hw hK hcalm i pins s σ H E I hf st hg
    subst hP hw hK
    obtain ⟨f0, f1, f2, f3, f4, f5⟩ := hf it (by simp)
    have hg' : i < x.cps.size := hg
    refine wpAny_pyNext_wide_item st (c := x.cps[i]) (by simp [hg']) fun h' st' sb => ?_
    have I1 : Inv X pins σ H { s with heap := h', toks := s.toks + 1 } := I.turned (fun b o hb e => (sb.2 b hb).trans e) f0 f1 f3 f4 f5
    obtain ⟨o, e, c, d⟩ := id st'
    exact ⟨_, rfl, go_of (s := { s with heap := h', toks := s.toks + 1 }) e c d (by decide) ⟨.str ⟨#[x.cps[i]]⟩, H, I1, ⟨_, rfl⟩, ⟨rfl, x.cps[i], by simp [hg'], rfl⟩, st', fun b hb => (hf b hb).1⟩⟩
  done := by
    intro X hP hw hK hcalm i pins s σ H E I hf st hg
    subst hP hw hK
    obtain ⟨f0, f1, f2, f3, f4, f5⟩ := hf it (by simp)
    have hg' : x.cps.size ≤ i := hg
    exact wpAny_pyNext_wide_end (I.ok.hd hcalm) st (by simp [hg']) fun h' eb => ⟨rfl, I.turned (t' := s.toks) (fun b o hb e => eb b o hb e) f0 f1 f3 f4 f5⟩
  self := fun _ _ _ _ _ st h => wpAny_pyIter_striter_wide st h
section
variable {X : Cx} {E : XK} {tg e : Expr} {f : Ev → R D}
noncomputable def iStr (tl : TE) : TI := fun σ H R => tl σ H fun x H1 => ∃ z, x = .str z ∧ R (Its z) H1
theorem pi_str {l : Expr} {tl : TE} (hl : PE X l tl) : PI X tg l (iStr tl) := by
  intro pins s σ H R I h
  refine thn (hl pins s σ H _ I h) fun v s1 ⟨x, H1, I1, r1, q1⟩ => ?_
  obtain ⟨z, e, q⟩ := q1
  subst e
  obtain ⟨t, rfl⟩ := r1
  have fp : ∀ b ∈ [s1.heap.objs.size], FpOk X pins H1 b := fun b hb => by
    have e : b = s1.heap.objs.size := by simpa using hb
    subst e
    exact I1.fpOk (Nat.le_refl _) (I1.hok.fresh (Nat.le_refl _))
  cases ha : z.cps.all (· < 128) with
  | true =>
    refine wpAny_pyIter_ascii ha ?_
    exact ⟨s1.heap.objs.size, [s1.heap.objs.size], _, _, H1, rfl, I1.kept (t' := s1.toks) fun b o e => Heap.get?_push_of_some _ e, turn_ascii z t _, ⟨_, Heap.get?_push_size _ rfl, rfl, rfl⟩, fp, q⟩
  | false =>
    refine wpAny_pyIter_wide ha ?_
    exact ⟨s1.heap.objs.size, [s1.heap.objs.size], _, _, H1, rfl, I1.kept (t' := s1.toks) fun b o e => Heap.get?_push_of_some _ e, turn_wide z t _, ⟨_, Heap.get?_push_size _ rfl, rfl, rfl⟩, fp, q⟩
noncomputable def signs (z : Str) : List D := z.cps.toList.map fun c => .str ⟨#[c]⟩
theorem wk_str {K : PySem.W.Frag} {al : Addr → Prop} {H : Hp} {z : Str} : Wk K al H (Its z) (signs z) := by
  intro al' H' x fr
  refine ⟨fun i d h => ?_, fun i h => ?_⟩
  · unfold signs at h
    rw [List.getElem?_map, Array.getElem?_toList] at h
    cases q : z.cps[i]? with
    | none => rw [q] at h; cases h
    | some c =>
      rw [q] at h; cases h
      refine ⟨(Array.getElem?_eq_some_iff.mp q).1, fun y H'' w => ⟨w.1, ?_⟩⟩
      obtain ⟨c', e1, e2⟩ := w.2
      rw [q] at e1; cases e1
      subst e2
      exact .str _
  · unfold signs at h
    show z.cps.size ≤ i
    simpa using h
noncomputable def asI (d : D) : R (List D) := match d with
  | .lst ds => .ok ds
  | .tup ds => .ok ds
  | .str z => .ok (signs z)
  | _ => .bad
theorem di_any (he : DE X E e f) : DI X E tg e (fun ρ => (f ρ).bind asI) := by
  obtain ⟨t, p, r⟩ := he
  refine ⟨_, pi_or (pi_list p) (pi_or (pi_tup p) (pi_str p)), fun P H0 al H σ ρ R s h => ?_⟩
  dsimp only at h
  cases q : f ρ with
  | bad => rw [q] at h; exact h.elim
  | ex c ns ds => rw [q] at h; exact .inl (r _ _ _ _ _ _ _ s (by rw [q]; exact h))
  | ok d =>
    rw [q] at h
    cases d with
    | lst ds =>
      left
      refine r _ _ _ _ _ _ _ s ?_
      rw [q]
      intro H1 s1 v rv
      obtain ⟨a, vs, e1, e2, e3⟩ := rv.lstIn
      subst e1
      exact ⟨a, rfl, ⟨vs, e2⟩, h H1 s1 _ (wk_list rv)⟩
    | tup ds =>
      right; left
      refine r _ _ _ _ _ _ _ s ?_
      rw [q]
      intro H1 s1 v rv
      obtain ⟨a, vs, e1, e2, e3⟩ := rv.tupIn
      subst e1
      exact ⟨a, rfl, ⟨vs, e2⟩, h H1 s1 _ (wk_tup rv)⟩
    | str z =>
      right; right
      refine r _ _ _ _ _ _ _ s ?_
      rw [q]
      intro H1 s1 v rv
      cases rv
      exact ⟨z, rfl, h H1 s1 _ wk_str⟩
    | _ => exact (h : False).elim
end
noncomputable def tyName : D → Option String
  | .non => some "NoneType"
  | .bl _ => some "bool"
  | .int _ => some "int"
  | .str _ => some "str"
  | .lst _ => some "list"
  | .tup _ => some "tuple"
  | _ => none
noncomputable def knowT : List String := ["NoneType", "bool", "int", "str", "list", "tuple"]
theorem kit_all (K : PySem.W.Frag) : ∀ T ∈ knowT, ∀ n ∈ knowT, PySem.W.kitOne K (.type T) (.type n) = some (T == n || (T == "bool" && n == "int")) := by
  intro T hT n hn
  simp only [knowT, List.mem_cons, List.not_mem_nil, or_false] at hT hn
  rcases hT with rfl | rfl | rfl | rfl | rfl | rfl <;> rcases hn with rfl | rfl | rfl | rfl | rfl | rfl <;> first | rfl | kernel_rfl
noncomputable def isD : List D → R D
  | [d, .ty n] => match tyName d with
    | some T => if knowT.contains n then .ok (.bl (T == n || (T == "bool" && n == "int"))) else .bad
    | none => .bad
  | _ => .bad
section
variable {X : Cx} {E : XK}
noncomputable def rIsD (X : Cx) : List V → Hp → VK → Prop := fun xs H Q => ∃ x n T, xs = [x, .ty n] ∧ knowT.contains T = true ∧ knowT.contains n = true ∧
  ((x = .non ∧ T = "NoneType") ∨ (∃ b, x = .bl b ∧ T = "bool") ∨ (∃ i, x = .int i ∧ T = "int") ∨ (∃ z, x = .str z ∧ T = "str") ∨ (∃ a vs, x = .ref a ∧ SqL X.K H a vs ∧ T = "list") ∨ (∃ a vs, x = .ref a ∧ SqT X.K H a vs ∧ T = "tuple")) ∧ Q (.bl (T == n || (T == "bool" && n == "int"))) H
theorem call_isD : CallR X (.builtin "isinstance") (rIsD X) := by
  intro pins s σ H xs us Q I r h
  obtain ⟨x, n, T, rfl, kT, kn, hx, q⟩ := h
  obtain ⟨u, c, rfl, ru, rc⟩ := vals2 r
  cases rc
  have e := kit_all X.K T (by simpa using kT) n (by simpa using kn)
  have fin : ∀ tk, EP X pins σ Q (.bool (T == n || (T == "bool" && n == "int"))) { s with toks := tk } := fun tk => ⟨.bl _, H, I.tok tk, rfl, q⟩
  rcases hx with ⟨rfl, rfl⟩ | ⟨b, rfl, rfl⟩ | ⟨i, rfl, rfl⟩ | ⟨z, rfl, rfl⟩ | ⟨a, vs, rfl, ha, rfl⟩ | ⟨a, vs, rfl, ha, rfl⟩
  · cases ru; exact PySem.W.kia_one PySem.W.kitx_none I.kIn True.intro e (fun z => nomatch z) fin
  · cases ru; exact PySem.W.kia_one PySem.W.kitx_bool I.kIn True.intro e (fun z => nomatch z) fin
  · obtain ⟨t, rfl⟩ := ru; exact PySem.W.kia_one PySem.W.kitx_int I.kIn True.intro e (fun z => nomatch z) fin
  · obtain ⟨t, rfl⟩ := ru; exact PySem.W.kia_one PySem.W.kitx_str I.kIn True.intro e (fun z => nomatch z) fin
  · cases ru
    obtain ⟨its, _, pl, _⟩ := I.list ha
    obtain ⟨o, k, e1, e2, _⟩ := pl
    exact PySem.W.kia_one PySem.W.kitx_list I.kIn ⟨o, e1, e2⟩ e (fun z => nomatch z) fin
  · cases ru
    obtain ⟨its, _, pl, _⟩ := I.tuple ha
    obtain ⟨o, e1, e2, _⟩ := pl
    exact PySem.W.kia_one PySem.W.kitx_tuple I.kIn ⟨o, e1, e2⟩ e (fun z => nomatch z) fin
theorem call_isinstD : CallD X E (.builtin "isinstance") isD := by
  refine ⟨_, call_isD, fun al H xs ds Q fr r h => ?_⟩
  unfold isD at h
  split at h
  · rename_i d n
    obtain ⟨v, u, rfl, q, q2⟩ := Reps.two r
    cases q2
    cases e : tyName d with
    | none => rw [e] at h; exact h.elim
    | some T =>
      rw [e] at h
      dsimp only at h
      split at h
      · rename_i hn
        have hq := h H (.refl H) _ (.bl _)
        cases q with
        | non => cases e; exact ⟨_, n, _, rfl, rfl, hn, .inl ⟨rfl, rfl⟩, hq⟩
        | bl b => cases e; exact ⟨_, n, _, rfl, rfl, hn, .inr (.inl ⟨b, rfl, rfl⟩), hq⟩
        | int b => cases e; exact ⟨_, n, _, rfl, rfl, hn, .inr (.inr (.inl ⟨b, rfl, rfl⟩)), hq⟩
        | str b => cases e; exact ⟨_, n, _, rfl, rfl, hn, .inr (.inr (.inr (.inl ⟨b, rfl, rfl⟩))), hq⟩
        | lst p _ => cases e; exact ⟨_, n, _, rfl, rfl, hn, .inr (.inr (.inr (.inr (.inl ⟨_, _, rfl, p.elim (fun z => .inl z.2) KL.sq, rfl⟩)))), hq⟩
        | tup p _ => cases e; exact ⟨_, n, _, rfl, rfl, hn, .inr (.inr (.inr (.inr (.inr ⟨_, _, rfl, p.elim (fun z => .inl z.2) .inr, rfl⟩)))), hq⟩
        | _ => cases e
      · exact h.elim
  · exact h.elim
end
end P2
namespace P2
open PySem L2 PyProof.Rows
theorem bt_isinstance : bootBuiltins "isinstance" = some (.builtin "isinstance") := by decide +kernel
theorem bt_len : bootBuiltins "len" = some (.builtin "len") := by decide +kernel
theorem bt_max : bootBuiltins "max" = some (.builtin "max") := by decide +kernel
theorem bt_int : bootBuiltins "int" = some (.type "int") := by decide +kernel
theorem bt_str : bootBuiltins "str" = some (.type "str") := by decide +kernel
section
variable {X : Cx} {E : XK} {x : Str} {pos : Pos}
inductive GlV (mg : Str → Option Value) (x : Str) : D → Prop
  | int {i : Int} {t : Tok} : mg x = some (.int i t) → GlV mg x (.int i)
  | str {z : Str} {t : Tok} : mg x = some (.str z t) → GlV mg x (.str z)
theorem Reps.look {K : PySem.W.Frag} {al : Addr → Prop} {H : Hp} {field : Str} {d : D} : ∀ {ns : List Str} {vs : List V} {ds : List D}, Reps K al H vs ds → (ns.zip ds).lookup field = some d → ∃ v, (ns.zip vs).lookup field = some v ∧ Rep K al H v d
  | [], _, _, _, h => by simp at h
  | _ :: _, _, [], _, h => by simp at h
  | n :: ns, _, e :: ds, r, h => by
    cases r with
    | cons a b =>
      rw [List.zip_cons_cons, List.lookup_cons] at h ⊢
      cases q : field == n with
      | true => rw [q] at h; cases h; exact ⟨_, rfl, a⟩
      | false => rw [q] at h; exact Reps.look b h
end
section
variable {P : Program} {w : World} {K : PySem.W.Frag} {mg : Str → Option Value} {base : Heap}
end
end P2
namespace P2
open PySem L2 PySem.Spec
open PyProof.Rows hiding St
section
variable {X : Cx} {E : XK} {x : Str} {pos : Pos}
theorem callr_or {f : Value} {r r' : List V → Hp → VK → Prop} (h : CallR X f r) (h' : CallR X f r') : CallR X f (fun xs H Q => r xs H Q ∨ r' xs H Q) :=
  fun pins s σ H xs us Q I rx q => q.elim (h pins s σ H xs us Q I rx) (h' pins s σ H xs us Q I rx)
noncomputable def clsU : D → Option Value
  | .ref C => some (.ref C)
  | .ty T => some (.type T)
  | _ => none
noncomputable def isXD (q : Addr → Value → Option Bool) (ds : List D) : R D := match ds with
  | [.exc c _ _, d] => (match (clsU d).bind (q c) with
    | some b => .ok (.bl b)
    | none => .bad)
  | ds => isD ds
noncomputable def IsOk (K : PySem.W.Frag) (q : Addr → Value → Option Bool) : Prop := ∀ c u b, q c u = some b → YCls K c ∧ PySem.W.kitOne K (.ref c) u = some b
theorem call_isXD {q : Addr → Value → Option Bool} (hI : IsOk X.K q) : CallD X E (.builtin "isinstance") (isXD q) := by
  obtain ⟨r0, c0, d0⟩ := call_isinstD (X := X) (E := E)
  refine ⟨_, callr_or call_isX c0, fun al H xs ds Q fr r h => ?_⟩
  unfold isXD at h
  split at h
  · rename_i c ns es d
    obtain ⟨v, u, rfl, p, p2⟩ := Reps.two r
    left
    cases z : (clsU d).bind (q c) with
    | none => rw [z] at h; exact h.elim
    | some b =>
      rw [z] at h
      have hq := h H (.refl H) _ (.bl _)
      obtain ⟨w, z1, z2⟩ := Option.bind_eq_some_iff.mp z
      obtain ⟨yc, kk⟩ := hI _ _ _ z2
      have ha : ∃ a dx, v = .ref a ∧ H a = some (excX a c dx) := by
        cases p with
        | exc p1 p2 p3 p4 p5 => exact ⟨_, _, rfl, p2⟩
        | exc0 p1 p2 => exact ⟨_, _, rfl, p2⟩
      obtain ⟨a, dx, rfl, ha⟩ := ha
      refine ⟨a, c, dx, u, w, b, rfl, ha, yc, fun y hy => ?_, kk, hq⟩
      cases p2 with
      | ref C => cases z1; exact hy
      | ty T => cases z1; exact hy
      | _ => cases z1
  · exact .inr (d0 al H xs ds Q fr r h)
mutual
noncomputable def pyD : D → Option PyData
  | .non => some .none
  | .bl b => some (.bool b)
  | .int i => some (.int i)
  | .str z => some (.str z)
  | .tup ds => (pyDs ds).map .tuple
  | .lst ds => (pyDs ds).map .list
  | _ => none
noncomputable def pyDs : List D → Option (List PyData)
  | [] => some []
  | d :: ds => (pyD d).bind fun p => (pyDs ds).map (p :: ·)
end
mutual
theorem rep_reads {pins : List (Addr × Obj)} {σ : L2.St} {H : Hp} {s : Shared} (I : Inv X pins σ H s) {al : Addr → Prop} : ∀ {v : V} {d : D} {u : Value} {p : PyData}, Rep X.K al H v d → RelV v u → pyD d = some p → ∃ as, Reads s.heap u p as
  | _, _, _, _, .non, r, e => by cases r; cases e; exact ⟨_, .none⟩
  | _, _, _, _, .bl b, r, e => by cases r; cases e; exact ⟨_, .bool _⟩
  | _, _, _, _, .int b, r, e => by obtain ⟨t, rfl⟩ := r; cases e; exact ⟨_, .int _ _⟩
  | _, _, _, _, .str b, r, e => by obtain ⟨t, rfl⟩ := r; cases e; exact ⟨_, .str _ _⟩
  | _, _, _, _, .ty b, r, e => by cases e
  | _, _, _, _, .ref b, r, e => by cases e
  | _, _, _, _, .tup (vs := vs) z q, r, e => by
    cases r
    have e' : (pyDs _).map PyData.tuple = some _ := e
    obtain ⟨ps, e1, rfl⟩ := Option.map_eq_some_iff.mp e'
    have z' : SqT X.K H _ vs := z.elim (fun z => .inl z.2) .inr
    obtain ⟨its, rv, ⟨o, h1, h2, n, h3⟩, _⟩ := I.tuple z'
    obtain ⟨as, w⟩ := reps_reads I q rv e1
    exact ⟨as, reads_tuple_at h1 h2 h3 (by simpa using w)⟩
  | _, _, _, _, .lst (vs := vs) z q, r, e => by
    cases r
    have e' : (pyDs _).map PyData.list = some _ := e
    obtain ⟨ps, e1, rfl⟩ := Option.map_eq_some_iff.mp e'
    have z' : SqL X.K H _ vs := z.elim (fun z => .inl z.2) KL.sq
    obtain ⟨its, rv, ⟨o, n, h1, h2, h3, h4⟩, _⟩ := I.list z'
    obtain ⟨as, w⟩ := reps_reads I q rv e1
    exact ⟨_, reads_list_at h1 h2 h4 (by simpa using w)⟩
  | _, _, _, _, .exc _ _ _ _ _, r, e => by cases e
  | _, _, _, _, .exc0 _ _, r, e => by cases e
theorem reps_reads {pins : List (Addr × Obj)} {σ : L2.St} {H : Hp} {s : Shared} (I : Inv X pins σ H s) {al : Addr → Prop} : ∀ {vs : List V} {ds : List D} {us : List Value} {ps : List PyData}, Reps X.K al H vs ds → Vals vs us → pyDs ds = some ps → ∃ as, ReadsAll s.heap us ps as
  | _, _, _, _, .nil, r, e => by cases r; cases e; exact ⟨_, .nil⟩
  | _, _, _, _, .cons p q, r, e => by
    cases r with
    | cons r1 r2 =>
      obtain ⟨p1, e1, e2⟩ := Option.bind_eq_some_iff.mp e
      obtain ⟨ps, e3, rfl⟩ := Option.map_eq_some_iff.mp e2
      obtain ⟨as, w1⟩ := rep_reads I p r1 e1
      obtain ⟨bs, w2⟩ := reps_reads I q r2 e3
      exact ⟨_, .cons w1 w2⟩
end
end
section
variable {X : Cx} {E : XK} {tg iter elt : Expr} {ifs : List Expr} {scope : Scope} {pos : Pos} {fi : Ev → R (List D)} {l : List Nat} {a : D → Ev → Option Ev} {fc : Ev → R Bool} {fe : Ev → R D} {tn : Nat} {Nt : List Str}
end
end P2
namespace P2
open PySem L2 PySem.Spec
open PySem.Builtin PySem.Builtin.Str
open PyProof.Rows hiding St
section
variable {prog : Program} {w : World} {A : Around} {E : Value → Shared → Prop} {s : Shared} {x y : PySem.Str} {t u : Tok} {Q : Value → Shared → Prop}
end
section
variable {X : Cx} {E : XK}
noncomputable def okMul64 (i j : Int) : Bool := (decide (-18446744073709551616 < i) && decide (i < 18446744073709551616)) || (decide (-18446744073709551616 < j) && decide (j < 18446744073709551616))
end
end P2
namespace P2
open PySem L2 PySem.Spec
open PyProof.Rows hiding St
theorem pass_cx {CX : CXT} {P : Program} {w : World} {K : PySem.W.Frag} {mg : Str → Option Value} {base : Heap} {N : List Str} {qual : Str} {scope : Scope} {f : Addr} {cd : Value} {A : Around} {outer : List Env} {s : Shared} {H : Hp} {E : XK} :
    PassesOwn (model (cxOf CX P w K mg base N qual scope f cd A outer s H E).prog (cxOf CX P w K mg base N qual scope f cd A outer s H E).w) (cxOf CX P w K mg base N qual scope f cd A outer s H E).A (cxOf CX P w K mg base N qual scope f cd A outer s H E).env (cxOf CX P w K mg base N qual scope f cd A outer s H E).xe :=
  PassesOwn.leaving (Q₁ := fun e s'' => CX outer H s E e s'')
section
variable {X : Cx} {E : XK} {e a b c tg : Expr} {f fa fb fc : Ev → R D} {pos : Pos}
noncomputable def sPar (i j : Nat) (fs : Ev → R (List D)) : Ev → RT := fun ρ => toS (fs ρ) fun ds => match ds with
  | [d1, d2] => if i < ρ.length ∧ j < ρ.length then .nx ((ρ.set i (.sh d1)).set j (.sh d2)) else .bad
  | _ => .bad
noncomputable def sameD : D → D → Option Bool
  | .non, .non => some true
  | .bl a, .bl b => some (a == b)
  | .bl _, .non => some false
  | .int _, .non => some false
  | .str _, .non => some false
  | .tup _, .non => some false
  | .lst _, .non => some false
  | _, _ => none
noncomputable def isD2 (x y : D) : R D := match sameD x y with
  | some b => .ok (.bl b)
  | none => .bad
noncomputable def isnD2 (x y : D) : R D := match sameD x y with
  | some b => .ok (.bl (!b))
  | none => .bad
noncomputable def slWD : D → Option Int → Option Int → R D
  | .tup ds, lo, hi => if ¬ (HT.sIx ds.length 0 lo = 0 ∧ HT.sIx ds.length ds.length hi = ds.length) then .ok (.tup (cutD ds lo hi)) else .bad
  | d, lo, hi => slD d lo hi
theorem sl_WD : SlD X E slWD := by
  obtain ⟨r0, s0, d0⟩ := sl_D (X := X) (E := E)
  refine ⟨_, sl_tup.or s0, fun al H x dx lo hi Q fr rx h => ?_⟩
  unfold slWD at h
  split at h
  · obtain ⟨a, vs, rfl, h1, h2⟩ := rx.tupIn
    split at h
    · rename_i z
      exact .inl ⟨a, vs, rfl, h1, by rw [h2.length]; exact z, fun p hp => h _ (same_upd hp) _ ((h2.cut lo hi).tupNew hp (fr p hp))⟩
    · exact h.elim
  · exact .inr (d0 _ _ _ _ _ _ _ fr rx h)
end
end P2
namespace P2
open PySem L2 PySem.Spec
open PyProof.Rows hiding St
section
variable {X : Cx} {E : XK}
noncomputable def hasV (x : D) (ys : List D) : Option Bool := (pyD x).bind fun p => (pyDs ys).bind fun ps => if (PyData.canLayAll0 ps && PyData.canLay0 p && decide (p.depth ≤ 63)) = true then some (ps.any fun y => PyData.eqv y p) else none
noncomputable def inLD (x y : D) : R D := match y with
  | .lst ys => (match hasV x ys with
    | some b => .ok (.bl b)
    | none => .bad)
  | .tup ys => (match hasV x ys with
    | some b => .ok (.bl b)
    | none => .bad)
  | _ => inSD x y
theorem has_of {pins : List (Addr × Obj)} {σ : L2.St} {H : Hp} {s : Shared} (I : Inv X pins σ H s) (hu : X.A.units + 64 < cLine) {al : Addr → Prop} {x y : V} {d : D} {ys : List D} {u v : Value} {b : Bool} (rd : Rep X.K al H x d) (rl : Rep X.K al H y (.lst ys) ∨ Rep X.K al H y (.tup ys)) (rx : RelV x u) (ry : RelV y v) (e : hasV d ys = some b) :
    ∃ p ps as bs, (Reads s.heap v (.list ps) as ∨ Reads s.heap v (.tuple ps) as) ∧ Reads s.heap u p bs ∧ PyData.canLayAll0 ps = true ∧ PyData.canLay0 p = true ∧ X.A.units + 1 + min (PyData.depthAll ps) p.depth < cLine ∧ (ps.any fun y => PyData.eqv y p) = b := by
  obtain ⟨p, e1, e2⟩ := Option.bind_eq_some_iff.mp e
  obtain ⟨ps, e3, e4⟩ := Option.bind_eq_some_iff.mp e2
  split at e4
  · rename_i z
    simp only [Bool.and_eq_true, decide_eq_true_eq] at z
    obtain ⟨bs, w2⟩ := rep_reads I rd rx e1
    have := Nat.min_le_right (PyData.depthAll ps) p.depth
    rcases rl with rl | rl
    · obtain ⟨as, w1⟩ := rep_reads (p := .list ps) I rl ry (show (pyDs ys).map PyData.list = some _ by rw [e3]; rfl)
      exact ⟨p, ps, as, bs, .inl w1, w2, z.1.1, z.1.2, by omega, Option.some.inj e4⟩
    · obtain ⟨as, w1⟩ := rep_reads (p := .tuple ps) I rl ry (show (pyDs ys).map PyData.tuple = some _ by rw [e3]; rfl)
      exact ⟨p, ps, as, bs, .inr w1, w2, z.1.1, z.1.2, by omega, Option.some.inj e4⟩
  · cases e4
theorem op_inLD (hu : X.A.units + 64 < cLine) : OpD X E (compareOp .In) inLD := by
  obtain ⟨r0, o0, d0⟩ := op_inSD (X := X) (E := E)
  refine ⟨fun x y H Q => (∃ al d ys b, Rep X.K al H x d ∧ (Rep X.K al H y (.lst ys) ∨ Rep X.K al H y (.tup ys)) ∧ hasV d ys = some b ∧ Q (.bl b) H) ∨ r0 x y H Q, fun pins s σ H x y v u Q I rx ry h => ?_, fun al H x y dx dy Q fr rx ry h => ?_⟩
  · rcases h with ⟨al, d, ys, b, h1, h2, h3, h4⟩ | h
    · obtain ⟨p, ps, as, bs, w1, w2, w3, w4, w5, w6⟩ := has_of I hu h1 h2 rx ry h3
      rcases w1 with w1 | w1
      · exact SeqAt.in_list_reads w1 w2 w3 w4 w5 (by rw [w6]; exact ⟨.bl b, H, I, rfl, h4⟩)
      · exact SeqAt.in_tuple_reads w1 w2 w3 w4 w5 (by rw [w6]; exact ⟨.bl b, H, I, rfl, h4⟩)
    · exact o0 pins s σ H x y v u Q I rx ry h
  · unfold inLD at h
    split at h
    · rename_i ys
      cases q : hasV dx ys with
      | none => rw [q] at h; exact h.elim
      | some b => rw [q] at h; exact .inl ⟨al, dx, ys, b, rx, .inl ry, q, h H (.refl H) _ (.bl b)⟩
    · rename_i ys
      cases q : hasV dx ys with
      | none => rw [q] at h; exact h.elim
      | some b => rw [q] at h; exact .inl ⟨al, dx, ys, b, rx, .inr ry, q, h H (.refl H) _ (.bl b)⟩
    · exact .inr (d0 _ _ _ _ _ _ _ fr rx ry h)
end
end P2
namespace L2
open PySem PySem.Spec PyProof.Rows
section
variable {X : Cx} {pos : Pos}
end
end L2
namespace P2
open PySem L2 PySem.Spec
open PyProof.Rows hiding St
section
variable {X : Cx} {E : XK} {a b c : Expr} {pos : Pos}
end
inductive FlatV : V → D → Prop
  | non : FlatV .non .non
  | bl (b : Bool) : FlatV (.bl b) (.bl b)
  | int (i : Int) : FlatV (.int i) (.int i)
  | str (x : Str) : FlatV (.str x) (.str x)
inductive FlatVs : List V → List D → Prop
  | nil : FlatVs [] []
  | cons {v : V} {d : D} {vs : List V} {ds : List D} : FlatV v d → FlatVs vs ds → FlatVs (v :: vs) (d :: ds)
structure GlT (K : PySem.W.Frag) (mg : Str → Option Value) (x : Str) (ds : List D) : Prop where
  ex : ∃ (a : Addr) (vs : List V), mg x = some (.ref a) ∧ KT K a vs ∧ FlatVs vs ds
theorem strs_vals : ∀ l : List (Str × Tok), Vals (l.map fun p => V.str p.1) (l.map fun p => Value.str p.1 p.2)
  | [] => .nil
  | (_, t) :: l => .cons ⟨t, rfl⟩ (strs_vals l)
theorem strs_flat : ∀ l : List (Str × Tok), FlatVs (l.map fun p => V.str p.1) (l.map fun p => D.str p.1)
  | [] => .nil
  | (_, _) :: l => .cons (.str _) (strs_flat l)
theorem GlT.strs {K : PySem.W.Frag} {mg : Str → Option Value} {x : Str} {a : Addr} {dd : Option Addr} {l : List (Str × Tok)} {n : Nat} {sl : Array (Option Value)} (hm : mg x = some (.ref a)) (hl : K.lookup a = some ⟨.type "tuple", dd, .seq (l.map fun p => Value.str p.1 p.2).toArray n, sl⟩) (hz : l.length ≤ sizeLine) :
    GlT K mg x (l.map fun p => .str p.1) := by
  refine ⟨a, l.map fun p => .str p.1, hm, ⟨_, _, n, hl, rfl, rfl, by simpa using hz, ?_⟩, ?_⟩
  · rw [List.toList_toArray]
    exact strs_vals l
  · exact strs_flat l
end P2
namespace P2
open PySem L2 PySem.Spec
open PyProof.Rows hiding St
section
variable {X : Cx} {E : XK} {e : Expr} {fn : Ev → R (List D)} {pos : Pos}
end
end P2
namespace P2
open PySem L2 PySem.Spec
open PyProof.Rows hiding St
section
variable {X : Cx} {E : XK} {tg iter elt : Expr} {ifs : List Expr} {scope : Scope} {pos : Pos} {fi : Ev → R (List D)} {l : List Nat} {a : D → Ev → Option Ev} {fc : Ev → R Bool} {fe : Ev → R D} {tn : Nat} {Nt : List Str}
end
section
variable {X : Cx} {E : XK}
end
end P2
namespace P2
open PySem L2 PySem.Spec
open PyProof.Rows hiding St
section
variable {X : Cx} {E : XK} {a b : Expr} {fa fb : Ev → R D} {pos : Pos}
end
end P2
namespace P2
open PySem L2 PySem.Spec
open PyProof.Rows hiding St
section
variable {X : Cx} {E : XK}
noncomputable def min2D : List D → R D
  | [.int i, .int j] => .ok (.int (if j < i then j else i))
  | _ => .bad
end
end P2
namespace TM
open PySem PySem.NumText PySem.StrLaws Builtin Builtin.Str
noncomputable def cds (x : Str) : List Nat := x.cps.toList
theorem ext {x y : Str} (h : cds x = cds y) : x = y := by
  obtain ⟨x⟩ := x; obtain ⟨y⟩ := y
  have : x = y := Array.toList_inj.mp h
  rw [this]
theorem cds_app (x y : Str) : cds (x ++ y) = cds x ++ cds y := by
  show (x.cps ++ y.cps).toList = x.cps.toList ++ y.cps.toList
  simp
theorem len_cds (x : Str) : x.length = (cds x).length := by simp [Str.length, cds]
noncomputable def num (m : Nat) : List Nat := (Nat.toDigits 10 m).map Char.toNat
theorem cds_num (m : Nat) : cds (Str.ofString (toString ((m : Nat) : Int))) = num m := PySem.W.KIN.signs_num m
theorem num_val (m : Nat) : digitsVal (num m) = m := PySem.W.KIN.val_back m
theorem digit_rng {c : Char} (h : c.isDigit = true) : 48 ≤ c.toNat ∧ c.toNat ≤ 57 := by
  unfold Char.isDigit at h
  simp only [Bool.and_eq_true, decide_eq_true_eq, ge_iff_le] at h
  obtain ⟨h1, h2⟩ := h
  have a : (48 : UInt32).toNat ≤ c.val.toNat := UInt32.le_iff_toNat_le.mp h1
  have b : c.val.toNat ≤ (57 : UInt32).toNat := UInt32.le_iff_toNat_le.mp h2
  exact ⟨a, b⟩
theorem num_digits (m : Nat) : AllDigits (num m) := by
  intro c hc
  obtain ⟨ch, h, rfl⟩ := List.mem_map.mp hc
  exact digit_rng (Nat.isDigit_of_mem_toDigits (by decide) (by decide) h)
theorem num_ne (m : Nat) : num m ≠ [] := by
  intro h
  have := num_val m
  rw [h] at this
  have e : m = 0 := this.symm
  subst e
  exact absurd h (by decide)
noncomputable def Canon (cs : List Nat) : Prop := AllDigits cs ∧ cs ≠ [] ∧ (cs = [48] ∨ ∃ c r, cs = c :: r ∧ c ≠ 48)
theorem num_canon (m : Nat) : Canon (num m) := by
  refine ⟨num_digits m, num_ne m, ?_⟩
  have hd := num_digits m
  cases q : num m with
  | nil => exact absurd q (num_ne m)
  | cons c r =>
    by_cases hc : c = 48
    · left
      subst hc
      cases r with
      | nil => rfl
      | cons d r =>
        exfalso
        have e := toDigits_all (num m) hd
        rw [num_val, q, List.dropWhile_cons, if_pos (by rfl)] at e
        have l1 : (num m).length = r.length + 2 := by rw [q]; rfl
        have l2 : (List.dropWhile (fun x => x == 48) (d :: r)).length ≤ r.length + 1 := List.Sublist.length_le (List.dropWhile_sublist _)
        unfold num at l1
        rw [e, List.length_map] at l1
        cases z : List.dropWhile (fun x => x == 48) (d :: r) with
        | nil => rw [z] at l1; simp at l1
        | cons a b => rw [z] at l1 l2; simp only [List.length_map, List.length_cons] at l1 l2; omega
    · right; exact ⟨c, r, rfl, hc⟩
theorem num_inj {m n : Nat} (h : num m = num n) : m = n := by
  have := congrArg digitsVal h
  rwa [num_val, num_val] at this
theorem num_small {m : Nat} (h : m < 10) : num m = [48 + m] := by
  have : ∀ m : Nat, m < 10 → num m = [48 + m] := by decide
  exact this m h
theorem num_snoc {m : Nat} (h : 10 ≤ m) : num m = num (m / 10) ++ [48 + m % 10] := by
  have hm : m % 10 < 10 := Nat.mod_lt m (by decide)
  have t : Nat.toDigits 10 (m / 10) ++ Nat.toDigits 10 (m % 10) = Nat.toDigits 10 (10 * (m / 10) + m % 10) := Nat.toDigits_append_toDigits (by decide) (by omega) hm
  rw [Nat.div_add_mod] at t
  rw [← num_small hm]
  unfold num
  rw [← t, List.map_append]
theorem num_len {k : Nat} : ∀ {m : Nat}, m < 10 ^ (k + 1) → (num m).length ≤ k + 1 := by
  induction k with
  | zero => intro m h; rw [num_small (by omega)]; simp
  | succ k ih =>
    intro m h
    by_cases hm : m < 10
    · rw [num_small hm]; simp
    · rw [num_snoc (by omega), List.length_append]
      have : m / 10 < 10 ^ (k + 1) := by rw [Nat.pow_succ] at h; omega
      have := ih this
      simp only [List.length_singleton]; omega
noncomputable def two (n : Nat) : List Nat := [48 + n / 10, 48 + n % 10]
end TM
namespace T4
open PySem PySem.NumText TM
noncomputable def dg (c : Nat) : Bool := decide (48 ≤ c) && decide (c ≤ 57)
end T4
namespace T2
open PySem PySem.NumText TM
noncomputable def numI (t : Int) : List Nat := if t < 0 then 45 :: num t.natAbs else num t.natAbs
noncomputable def showF (t b : Int) : List Nat := if b = 1 then numI t else numI t ++ 47 :: num b.natAbs
theorem cds_int (t : Int) : cds (Str.ofString (toString t)) = numI t := by
  cases t with
  | ofNat n =>
    unfold numI
    rw [if_neg (by simp)]
    exact cds_num n
  | negSucc n =>
    unfold numI
    rw [if_pos (Int.negSucc_lt_zero n)]
    have e : cds (Str.ofString (toString (Int.negSucc n))) = 45 :: cds (Str.ofString (toString (((n + 1 : Nat)) : Int))) := by
      unfold cds
      rw [PySem.Str.ofString_eq_toList, PySem.Str.ofString_eq_toList]
      show ("-" ++ Nat.repr (n + 1)).toList.map Char.toNat = 45 :: ((Nat.repr (n + 1)).toList.map Char.toNat)
      rw [String.toList_append, List.map_append]
      rfl
    rw [e, cds_num]
    rfl
noncomputable def splitL (c : Nat) : List Nat → List (List Nat)
  | [] => [[]]
  | x :: r => if x = c then [] :: splitL c r else match splitL c r with
    | p :: ps => (x :: p) :: ps
    | [] => [[x]]
theorem splitL_hit {c : Nat} {r : List Nat} : splitL c (c :: r) = [] :: splitL c r := by
  show (if c = c then [] :: splitL c r else _) = _
  rw [if_pos rfl]
theorem splitL_miss {c x : Nat} {r p : List Nat} {ps : List (List Nat)} (h : x ≠ c) (e : splitL c r = p :: ps) : splitL c (x :: r) = (x :: p) :: ps := by
  show (if x = c then [] :: splitL c r else match splitL c r with | p :: ps => (x :: p) :: ps | [] => [[x]]) = _
  rw [if_neg h, e]
theorem splitL_free {c : Nat} : ∀ {l : List Nat}, c ∉ l → splitL c l = [l]
  | [], _ => rfl
  | x :: r, h => splitL_miss (fun z => h (by rw [z]; exact List.mem_cons_self ..)) (splitL_free fun z => h (List.mem_cons_of_mem _ z))
theorem splitL_app {c : Nat} {r : List Nat} : ∀ {l : List Nat}, c ∉ l → splitL c (l ++ c :: r) = l :: splitL c r
  | [], _ => splitL_hit
  | x :: l, h => splitL_miss (fun z => h (by rw [z]; exact List.mem_cons_self ..)) (splitL_app fun z => h (List.mem_cons_of_mem _ z))
noncomputable def dg (c : Nat) : Bool := decide (48 ≤ c) && decide (c ≤ 57)
noncomputable def figB (cs : List Nat) : Bool := decide (cs ≠ []) && cs.all dg
noncomputable def numB (cs : List Nat) (k : Nat) : Bool := decide (cs.length ≤ k) && figB cs && (decide (cs = [48]) || !decide (cs.head? = some 48))
theorem figB_of {cs : List Nat} (h : AllDigits cs) (h1 : cs ≠ []) : figB cs = true := by
  unfold figB
  simp only [Bool.and_eq_true, decide_eq_true_eq]
  refine ⟨h1, List.all_eq_true.mpr fun c hc => ?_⟩
  have := h c hc
  unfold dg
  simpa using this
theorem numB_num {m k : Nat} (h : (num m).length ≤ k) : numB (num m) k = true := by
  unfold numB
  obtain ⟨h1, h2, h3⟩ := num_canon m
  simp only [Bool.and_eq_true, decide_eq_true_eq]
  refine ⟨⟨h, figB_of h1 h2⟩, ?_⟩
  rcases h3 with e | ⟨c, r, e, hc⟩
  · rw [e]; rfl
  · rw [e]; simp [hc]
theorem not_num {m c : Nat} (h : c < 48 ∨ 57 < c) : c ∉ num m := fun z => by have := num_digits m c z; omega
structure Ok (t b : Int) : Prop where
  low : FM.Low t b
  ht : t.natAbs < 10 ^ 60
  hb : b.natAbs < 10 ^ 60
theorem head_num (m : Nat) : (num m).head? ≠ some 45 := fun z => not_num (m := m) (c := 45) (.inl (by decide)) (List.mem_of_mem_head? z)
theorem top_le (t : Int) {b : Int} (hb : b ≠ 0) : (FM.top t b).natAbs ≤ t.natAbs ∧ (FM.bot t b).natAbs ≤ b.natAbs := by
  obtain ⟨h1, h2⟩ := FM.split (t := t) hb
  have hd := FM.dv_ne (t := t) hb
  have hd1 : 1 ≤ (FM.dv t b).natAbs := by omega
  have e1 : t.natAbs = (FM.dv t b).natAbs * (FM.top t b).natAbs := by rw [← Int.natAbs_mul, ← h1]
  have e2 : b.natAbs = (FM.dv t b).natAbs * (FM.bot t b).natAbs := by rw [← Int.natAbs_mul, ← h2]
  rw [e1, e2]
  exact ⟨Nat.le_mul_of_pos_left _ hd1, Nat.le_mul_of_pos_left _ hd1⟩
end T2
namespace TR
open PySem PySem.NumText TM T2
noncomputable def keyL : List (List Nat) := [[109, 97, 114, 107], [102, 105, 108, 108], [104, 101, 114, 101], [98, 97, 99, 107], [111, 110], [97, 116], [97, 103, 111], [117, 110, 116, 105, 108], [97, 98, 115], [97, 110, 100], [111, 114], [110, 111, 116]]
noncomputable def ltr (c : Nat) : Bool := decide (97 ≤ c) && decide (c ≤ 122)
noncomputable def wordB (m : List Nat) : Bool := decide (m ≠ []) && decide (m.length ≤ 8) && m.all ltr && !decide (m ∈ keyL)
noncomputable def hmL (t : Nat) : List Nat := two (t % 1440 / 60) ++ 58 :: two (t % 1440 % 60)
noncomputable def showR (m : List Nat) (t u : Nat) (n : Int) : List Nat := m ++ 32 :: (num (t / 1440) ++ 32 :: (hmL t ++ 32 :: (num u ++ 32 :: numI n)))
structure Ok (m : List Nat) (t u : Nat) (n : Int) : Prop where
  m : wordB m = true
  t : t ≤ 1000000000
  u : u ≤ 1000000000
  n : n.natAbs < 10 ^ 60
theorem word_all {m : List Nat} (h : wordB m = true) : m ≠ [] ∧ m.length ≤ 8 ∧ (∀ c ∈ m, 97 ≤ c ∧ c ≤ 122) ∧ m ∉ keyL := by
  unfold wordB at h
  simp only [Bool.and_eq_true, decide_eq_true_eq, Bool.not_eq_true', decide_eq_false_iff_not, List.all_eq_true] at h
  refine ⟨h.1.1.1, h.1.1.2, fun c hc => ?_, h.2⟩
  have := h.1.2 c hc
  unfold ltr at this
  simpa using this
theorem no32 {m : List Nat} (h : wordB m = true) : 32 ∉ m := fun z => by have := (word_all h).2.2.1 32 z; omega
theorem num32 (k : Nat) : 32 ∉ num k := not_num (.inl (by decide))
theorem hm32 (t : Nat) : 32 ∉ hmL t := by
  unfold hmL two
  intro z
  simp only [List.mem_append, List.mem_cons, List.not_mem_nil, or_false] at z
  omega
theorem numI32 (n : Int) : 32 ∉ numI n := by
  unfold numI
  split
  · intro z
    rcases List.mem_cons.mp z with z | z
    · cases z
    · exact num32 _ z
  · exact num32 _
theorem parts {m : List Nat} {t u : Nat} {n : Int} (O : Ok m t u n) : splitL 32 (showR m t u n) = [m, num (t / 1440), hmL t, num u, numI n] := by
  unfold showR
  rw [splitL_app (no32 O.m), splitL_app (num32 _), splitL_app (hm32 _), splitL_app (num32 _), splitL_free (numI32 _)]
noncomputable def canB (cs : List Nat) (k : Nat) : Bool := numB cs k
noncomputable def hmB (cs : List Nat) : Bool := match cs with
  | [a, b, c, d, e] => dg a && dg b && decide (c = 58) && dg d && dg e && decide ((a - 48) * 10 + (b - 48) < 24) && decide ((d - 48) * 10 + (e - 48) < 60)
  | _ => false
noncomputable def numIB (cs : List Nat) : Bool := match cs with
  | 45 :: r => canB r 60 && !decide (r = [48])
  | r => canB r 60
noncomputable def chk4 (ps : List (List Nat)) : Bool := match ps with
  | [p1, p2, p3, p4] => canB p1 6 && hmB p2 && canB p3 10 && numIB p4 && decide (digitsVal p3 ≤ 1000000000) && decide (digitsVal p1 * 1440 + (p2.getD 0 0 - 48) * 600 + (p2.getD 1 0 - 48) * 60 + (p2.getD 3 0 - 48) * 10 + (p2.getD 4 0 - 48) ≤ 1000000000)
  | _ => false
noncomputable def chkR (cs : List Nat) : Bool := match splitL 32 cs with
  | m :: ps => wordB m && chk4 ps
  | [] => false
theorem hm_ok (t : Nat) : hmB (hmL t) = true := by
  have h1 : t % 1440 / 60 < 24 := by omega
  have h2 : t % 1440 % 60 < 60 := by omega
  show (dg _ && dg _ && decide (58 = 58) && dg _ && dg _ && decide ((48 + t % 1440 / 60 / 10 - 48) * 10 + (48 + t % 1440 / 60 % 10 - 48) < 24) && decide ((48 + t % 1440 % 60 / 10 - 48) * 10 + (48 + t % 1440 % 60 % 10 - 48) < 60)) = true
  generalize t % 1440 / 60 = x at h1
  generalize t % 1440 % 60 = y at h2
  unfold dg
  simp only [Bool.and_eq_true, decide_eq_true_eq]
  refine ⟨⟨⟨⟨⟨⟨?_, ?_⟩, ?_⟩, ?_⟩, ?_⟩, ?_⟩, ?_⟩ <;> first | omega | trivial
theorem numI_ok {n : Int} (h : n.natAbs < 10 ^ 60) : numIB (numI n) = true := by
  have l : (num n.natAbs).length ≤ 60 := num_len (k := 59) h
  unfold numI
  by_cases hn : n < 0
  · rw [if_pos hn]
    show (canB (num n.natAbs) 60 && !decide (num n.natAbs = [48])) = true
    have : num n.natAbs ≠ [48] := fun z => by
      have : n.natAbs = 0 := num_inj (z.trans rfl)
      omega
    simp [canB, numB_num l, this]
  · rw [if_neg hn]
    have hd := head_num n.natAbs
    unfold numIB
    split
    · rename_i r e; rw [e] at hd; exact absurd rfl hd
    · exact numB_num l
theorem show_chk {m : List Nat} {t u : Nat} {n : Int} (O : Ok m t u n) : chkR (showR m t u n) = true := by
  unfold chkR
  rw [parts O]
  have ht := O.t
  have hu := O.u
  have e : (num (t / 1440)).length ≤ 6 := num_len (k := 5) (by omega)
  have eu : (num u).length ≤ 10 := num_len (k := 9) (by omega)
  show (wordB m && (canB (num (t / 1440)) 6 && hmB (hmL t) && canB (num u) 10 && numIB (numI n) && decide (digitsVal (num u) ≤ 1000000000) &&
    decide (digitsVal (num (t / 1440)) * 1440 + (48 + t % 1440 / 60 / 10 - 48) * 600 + (48 + t % 1440 / 60 % 10 - 48) * 60 + (48 + t % 1440 % 60 / 10 - 48) * 10 + (48 + t % 1440 % 60 % 10 - 48) ≤ 1000000000))) = true
  rw [num_val, num_val]
  simp only [O.m, canB, numB_num e, numB_num eu, hm_ok, numI_ok O.n, Bool.true_and, Bool.and_eq_true, decide_eq_true_eq]
  omega
theorem ne_of {cs : List Nat} (h : chkR cs = false) {m : List Nat} {t u : Nat} {n : Int} (O : Ok m t u n) : showR m t u n ≠ cs := fun e => by
  rw [← e, show_chk O] at h; cases h
end TR
namespace P2
open PySem L2
theorem size_of {n : Nat} (h : n ≤ 1000000) : n ≤ sizeLine := Nat.le_trans h (by decide)
theorem bits_le {i : Int} {k : Nat} (h : i.natAbs < 2 ^ k) : bits i ≤ k := intBits_le_iff.mpr h
theorem log2_lt {i : Int} {k : Nat} (hk : 0 < k) (h : i.natAbs < 2 ^ k) : i.natAbs.log2 < k := by
  by_cases z : i.natAbs = 0
  · rw [z]; exact hk
  · exact (Nat.log2_lt z).mpr h
section
variable {α β : Type} {a : α} {c : Addr} {ns : List Str} {es : List D} {k : α → RT} {h : α → R β} {ρ : Ev} {g u : Ev → RT} {f fa fb : Ev → R D} {fc fd : Ev → R Bool} {fs : Ev → R (List D)} {i j : Int} {x y : Str} {b b2 : Bool} {ds ds2 : List D} {d : D} {n m : Nat} {gd gd2 : D → D → R D} {g1 : D → R D} {gl : List D → R D} {gt : D → List D → R D}
variable {t : String} {g3 : D → Option Int → Option Int → R D} {fl fu : Ev → R (Option Int)} {cs : List Nat} {ga : D → Ev → Option Ev} {lo hi : Option Int} {fj : Str → Ev → R D}
theorem q_bind_k : (R.ok a).bind h = h a := rfl
theorem q_bind_x : (R.ex c ns es : R α).bind h = .ex c ns es := rfl
theorem q_bind_b : (R.bad : R α).bind h = .bad := rfl
theorem q_toS_k : toS (R.ok a) k = k a := rfl
theorem q_toS_x : toS (R.ex c ns es : R α) k = .ex c ns es := rfl
theorem q_toS_b : toS (R.bad : R α) k = .bad := rfl
theorem q_seq_n : seqT (.nx ρ) g = g ρ := rfl
theorem q_seq_r : seqT (.rt d) g = .rt d := rfl
theorem q_seq_x : seqT (.ex c ns es) g = .ex c ns es := rfl
theorem q_seq_b : seqT .bad g = .bad := rfl
theorem q_turn_n : turnT (.nx ρ) g = g ρ := rfl
theorem q_turn_c : turnT (.ct ρ) g = g ρ := rfl
theorem q_turn_k : turnT (.bk ρ) g = .nx ρ := rfl
theorem q_turn_r : turnT (.rt d) g = .rt d := rfl
theorem q_turn_b : turnT .bad g = .bad := rfl
theorem q_turn_x : turnT (.ex c ns es) g = .ex c ns es := rfl
theorem q_fin_r : finT (.rt d) = .ok d := rfl
theorem q_fin_n : finT (.nx ρ) = .ok .non := rfl
theorem q_fin_x : finT (.ex c ns es) = .ex c ns es := rfl
theorem q_noEx_k : noEx (R.ok a) = .ok a := rfl
theorem q_okO_k : okO (R.ok a) = some a := rfl
theorem q_ofO_s : ofO (some a) = .ok a := rfl
theorem q_sSeq_a : sSeq g u ρ = seqT (g ρ) u := rfl
theorem q_sNil_a : sNil ρ = .nx ρ := rfl
theorem q_sRet_a : sRet f ρ = toS (f ρ) .rt := rfl
theorem q_sExpr_a : sExpr f ρ = toS (f ρ) fun _ => .nx ρ := rfl
theorem q_sSet_a : sSet n f ρ = toS (f ρ) fun d => if n < ρ.length then .nx (ρ.set n (.sh d)) else .bad := rfl
theorem q_sIf_a : sIf fc g u ρ = toS (fc ρ) fun k => if k = true then g ρ else u ρ := rfl
theorem q_dC_a : dC d ρ = .ok d := rfl
theorem q_d1_a : d1 g1 f ρ = (f ρ).bind g1 := rfl
theorem q_d2_a : d2 gd fa fb ρ = (fa ρ).bind fun x => (fb ρ).bind fun y => gd x y := rfl
theorem q_b1B_a : b1 P2.tB f ρ = (f ρ).bind P2.tB := rfl
theorem q_b1T_a : b1 tT f ρ = (f ρ).bind tT := rfl
theorem q_bAnd_a : bAnd fc fd ρ = (fc ρ).bind fun c => if c = true then fd ρ else .ok false := rfl
theorem q_bOr_a : bOr fc fd ρ = (fc ρ).bind fun c => if c = true then .ok true else fd ρ := rfl
theorem q_bNot_a : bNot fc ρ = (fc ρ).bind fun c => .ok (!c) := rfl
theorem q_dAnd_a : dAnd fa fb ρ = ((fa ρ).bind P2.tB).bind fun c => if c = true then fb ρ else .ok (.bl false) := rfl
theorem q_dOr_a : dOr fa fb ρ = ((fa ρ).bind P2.tB).bind fun c => if c = true then .ok (.bl true) else fb ρ := rfl
theorem q_dNot_a : dNot fa ρ = ((fa ρ).bind P2.tB).bind fun c => .ok (.bl (!c)) := rfl
theorem q_dIf_a : dIf fc fa fb ρ = (fc ρ).bind fun k => if k = true then fa ρ else fb ρ := rfl
theorem q_dA_a : dA gl fs ρ = (fs ρ).bind gl := rfl
theorem q_aNil_a : aNil ρ = .ok [] := rfl
theorem q_aCons_a : aCons f fs ρ = (f ρ).bind fun x => (fs ρ).bind fun xs => .ok (x :: xs) := rfl
theorem q_asN_a : asN fs ρ = (fs ρ).bind fun ds => .ok (.lst ds) := rfl
theorem q_dMt_a : dMt t gt f fs ρ = (f ρ).bind fun x => if hasT t x = true then (fs ρ).bind fun xs => gt x xs else .bad := rfl
theorem q_dSl_a : dSl g3 f fl fu ρ = (f ρ).bind fun x => (fl ρ).bind fun i => (fu ρ).bind fun j => g3 x i j := rfl
theorem q_dComp_a : dComp fs n cs ga fc f ρ = (fs ρ).bind fun ds => if ds.length ≤ sizeLine then ofO (compO ga fc f (capD n cs ρ) ds) else .bad := rfl
theorem q_sFor_a : sFor fs ga g ρ = toS (fs ρ) fun ds => forD ga g ds ρ := rfl
theorem q_toO_s : toO (some a) k = k a := rfl
theorem q_gV_a : gV n d ρ = if n < ρ.length then some (ρ.set n (.sh d)) else none := rfl
theorem q_tB_b : P2.tB (.bl b) = .ok b := rfl
theorem q_tT_b : tT (.bl b) = .ok b := rfl
theorem q_tT_i : tT (.int i) = .ok (i != 0) := rfl
theorem q_tT_n : tT .non = .ok false := rfl
theorem q_tT_l : tT (.lst ds) = .ok (!ds.isEmpty) := rfl
theorem q_tT_t : tT (.tup ds) = .ok (!ds.isEmpty) := rfl
theorem q_add_i : addD (.int i) (.int j) = .ok (.int (i + j)) := rfl
theorem q_add_s : addD (.str x) (.str y) = if x.length + y.length ≤ sizeLine then .ok (.str (x ++ y)) else .bad := rfl
theorem q_add_l : addD (.lst ds) (.lst ds2) = if ds.length + ds2.length ≤ sizeLine then .ok (.lst (ds ++ ds2)) else .bad := rfl
theorem q_sub_i : subD (.int i) (.int j) = .ok (.int (i - j)) := rfl
theorem q_fdiv_i : fdivD (.int i) (.int j) = if okDiv i j = true then .ok (.int (i.fdiv j)) else .bad := rfl
theorem q_mod_i : modD (.int i) (.int j) = if decide (j ≠ 0) = true then .ok (.int (i.fmod j)) else .bad := rfl
theorem q_lt_i : P2.ltD (.int i) (.int j) = .ok (.bl (decide (i < j))) := rfl
theorem q_le_i : leD (.int i) (.int j) = .ok (.bl (decide (i ≤ j))) := rfl
theorem q_gt_i : gtD (.int i) (.int j) = .ok (.bl (decide (j < i))) := rfl
theorem q_ge_i : geD (.int i) (.int j) = .ok (.bl (decide (j ≤ i))) := rfl
theorem q_neg_i : negD (.int i) = .ok (.int (-i)) := rfl
theorem q_eq_i : eqSD (.int i) (.int j) = .ok (.bl (decide (i = j))) := rfl
theorem q_eq_s : eqSD (.str x) (.str y) = .ok (.bl (decide (x = y))) := rfl
theorem q_eq_b : eqSD (.bl b) (.bl b2) = .ok (.bl (decide (b = b2))) := rfl
theorem q_ne_i : neSD (.int i) (.int j) = .ok (.bl (!decide (i = j))) := rfl
theorem q_ne_s : neSD (.str x) (.str y) = .ok (.bl (!decide (x = y))) := rfl
theorem q_in_s : inSD (.str x) (.str y) = .ok (.bl (Txt.contains y x)) := rfl
theorem q_ix_l : ixD (.lst ds) (.int i) = match L2.atI ds i with | some d => .ok d | none => .bad := rfl
theorem q_ix_t : ixD (.tup ds) (.int i) = match L2.atI ds i with | some d => .ok d | none => .bad := rfl
theorem q_ix_s : ixD (.str x) (.int i) = if x.length ≤ sizeLine then (match L2.atI x.cps.toList i with | some c => .ok (.str ⟨#[c]⟩) | none => .bad) else .bad := rfl
theorem q_sl_l : slD (.lst ds) lo hi = .ok (.lst (cutD ds lo hi)) := rfl
theorem q_sl_s : slD (.str x) lo hi = if x.length ≤ sizeLine then .ok (.str (Txt.slice x lo hi)) else .bad := rfl
theorem q_pI_i : pI (.int i) = .ok (some i) := rfl
theorem q_len_s : lenD [.str x] = if x.length ≤ sizeLine then .ok (.int x.length) else .bad := rfl
theorem q_len_l : lenD [.lst ds] = .ok (.int ds.length) := rfl
theorem q_len_t : lenD [.tup ds] = .ok (.int ds.length) := rfl
theorem q_abs_i : absD [.int i] = .ok (.int (if i < 0 then -i else i)) := rfl
theorem q_max_i : max2D [.int i, .int j] = .ok (.int (if j > i then j else i)) := rfl
theorem q_str_i : strD [.int i] = if i.natAbs.log2 < 1920 then .ok (.str (toString i)) else .bad := rfl
theorem q_int_s : intD [.str x] = match PySem.intText? x with | some n => if x.length ≤ 640 then .ok (.int n) else .bad | none => .bad := rfl
theorem q_all_l : allD [.lst ds] = match boolsD ds with | some bs => .ok (.bl (bs.all id)) | none => .bad := rfl
theorem q_any_l : anyD [.lst ds] = match boolsD ds with | some bs => .ok (.bl (bs.any id)) | none => .bad := rfl
theorem q_st_s : startsD (.str x) [.str y] = .ok (.bl (Txt.startswith x y)) := rfl
theorem q_zf_s : zfillD (.str x) [.int i] = if PadOk i = true then .ok (.str (Txt.zfill x i)) else .bad := rfl
theorem q_hs_s : hasT "str" (.str x) = true := by rfl
theorem q_mkT_a : mkT ds = if ds.length ≤ sizeLine then .ok (.tup ds) else .bad := rfl
theorem q_fitL_a : fitL ds = if ds.length ≤ sizeLine then .ok ds else .bad := rfl
theorem q_asI_l : asI (.lst ds) = .ok ds := rfl
theorem q_asI_t : asI (.tup ds) = .ok ds := rfl
theorem q_asI_s : asI (.str x) = .ok (signs x) := rfl
theorem q_fmt_s : fmtD (.str x) = if x.length ≤ sizeLine then .ok (.str x) else .bad := rfl
theorem q_fmt_i : fmtD (.int i) = if i.natAbs.log2 < 1920 then .ok (.str (toString i)) else .bad := rfl
theorem q_jNil_a : jNil x ρ = if x.length ≤ sizeLine then .ok (.str x) else .bad := rfl
theorem q_jCons_k : jCons f fj x ρ = (f ρ).bind fun z => match z with | .str y => if (x ++ y).length ≤ sizeLine then fj (x ++ y) ρ else .bad | _ => .bad := rfl
theorem q_v0 {r : Ev} : dV 0 (.sh d :: r) = .ok d := rfl
theorem q_v1 {s0 : Sl} {r : Ev} : dV 1 (s0 :: .sh d :: r) = .ok d := rfl
theorem q_v2 {s0 s1 : Sl} {r : Ev} : dV 2 (s0 :: s1 :: .sh d :: r) = .ok d := rfl
theorem q_v3 {s0 s1 s2 : Sl} {r : Ev} : dV 3 (s0 :: s1 :: s2 :: .sh d :: r) = .ok d := rfl
theorem q_v4 {s0 s1 s2 s3 : Sl} {r : Ev} : dV 4 (s0 :: s1 :: s2 :: s3 :: .sh d :: r) = .ok d := rfl
theorem q_v5 {s0 s1 s2 s3 s4 : Sl} {r : Ev} : dV 5 (s0 :: s1 :: s2 :: s3 :: s4 :: .sh d :: r) = .ok d := rfl
theorem q_v6 {s0 s1 s2 s3 s4 s5 : Sl} {r : Ev} : dV 6 (s0 :: s1 :: s2 :: s3 :: s4 :: s5 :: .sh d :: r) = .ok d := rfl
theorem q_v7 {s0 s1 s2 s3 s4 s5 s6 : Sl} {r : Ev} : dV 7 (s0 :: s1 :: s2 :: s3 :: s4 :: s5 :: s6 :: .sh d :: r) = .ok d := rfl
theorem q_v8 {s0 s1 s2 s3 s4 s5 s6 s7 : Sl} {r : Ev} : dV 8 (s0 :: s1 :: s2 :: s3 :: s4 :: s5 :: s6 :: s7 :: .sh d :: r) = .ok d := rfl
theorem q_v9 {s0 s1 s2 s3 s4 s5 s6 s7 s8 : Sl} {r : Ev} : dV 9 (s0 :: s1 :: s2 :: s3 :: s4 :: s5 :: s6 :: s7 :: s8 :: .sh d :: r) = .ok d := rfl
theorem q_v10 {s0 s1 s2 s3 s4 s5 s6 s7 s8 s9 : Sl} {r : Ev} : dV 10 (s0 :: s1 :: s2 :: s3 :: s4 :: s5 :: s6 :: s7 :: s8 :: s9 :: .sh d :: r) = .ok d := rfl
theorem q_v11 {s0 s1 s2 s3 s4 s5 s6 s7 s8 s9 s10 : Sl} {r : Ev} : dV 11 (s0 :: s1 :: s2 :: s3 :: s4 :: s5 :: s6 :: s7 :: s8 :: s9 :: s10 :: .sh d :: r) = .ok d := rfl
theorem q_v12 {s0 s1 s2 s3 s4 s5 s6 s7 s8 s9 s10 s11 : Sl} {r : Ev} : dV 12 (s0 :: s1 :: s2 :: s3 :: s4 :: s5 :: s6 :: s7 :: s8 :: s9 :: s10 :: s11 :: .sh d :: r) = .ok d := rfl
theorem q_v13 {s0 s1 s2 s3 s4 s5 s6 s7 s8 s9 s10 s11 s12 : Sl} {r : Ev} : dV 13 (s0 :: s1 :: s2 :: s3 :: s4 :: s5 :: s6 :: s7 :: s8 :: s9 :: s10 :: s11 :: s12 :: .sh d :: r) = .ok d := rfl
theorem q_mod_p (hj : 0 < j) : modD (.int i) (.int j) = .ok (.int (i % j)) := by
  rw [q_mod_i, if_pos (by simp; omega), Int.fmod_eq_emod_of_nonneg _ (by omega)]
theorem q_fdiv_p (hj : 0 < j) (h2 : j < 18446744073709551616) : fdivD (.int i) (.int j) = .ok (.int (i / j)) := by
  have hb : bits j ≤ 64 := bits_le (by omega)
  rw [q_fdiv_i, if_pos (by unfold okDiv; simp only [Bool.and_eq_true, decide_eq_true_eq]; omega), Int.fdiv_eq_ediv_of_nonneg _ (by omega)]
theorem q_add_sp {x y : Str} (h1 : x.length ≤ 1000) (h2 : y.length ≤ 1000) : addD (.str x) (.str y) = .ok (.str (x ++ y)) := by
  rw [q_add_s, if_pos (Nat.le_trans (Nat.add_le_add h1 h2) (by decide))]
theorem q_add_lp {x y : List D} (h1 : x.length ≤ 1000) (h2 : y.length ≤ 1000) : addD (.lst x) (.lst y) = .ok (.lst (x ++ y)) := by
  rw [q_add_l, if_pos (Nat.le_trans (Nat.add_le_add h1 h2) (by decide))]
theorem q_fit_p {x : List D} (h1 : x.length ≤ 1000) : fitL x = .ok x := by
  rw [q_fitL_a, if_pos (Nat.le_trans h1 (by decide))]
theorem q_mkT_p {x : List D} (h1 : x.length ≤ 1000) : mkT x = .ok (.tup x) := by
  rw [q_mkT_a, if_pos (Nat.le_trans h1 (by decide))]
end
end P2
namespace P2
open PySem L2 PySem.Spec
open PyProof.Rows hiding St
section
variable {X : Cx} {E : XK}
noncomputable def okMulU (i j : Int) : Bool := okMul i j || okMul64 i j
noncomputable def mulUD : D → D → R D
  | .int i, .int j => if okMulU i j = true then .ok (.int (i * j)) else .bad
  | .str x, .int n => if okMulS x n = true then .ok (.str (Txt.mul x n)) else .bad
  | _, _ => .bad
theorem op_mulUD : OpD X E (binaryOp .Mult) mulUD := by
  refine ⟨_, opr_or (opr_or op_mul op_mulB) op_mul_str, fun al H x y dx dy Q fr rx ry h => ?_⟩
  unfold mulUD at h
  split at h
  · cases rx; cases ry
    split at h
    · rename_i z
      unfold okMulU at z
      rw [Bool.or_eq_true] at z
      rcases z with z | z
      · unfold okMul at z
        simp only [Bool.and_eq_true, decide_eq_true_eq] at z
        exact .inl (.inr ⟨_, _, rfl, rfl, z, h H (.refl H) _ (.int _)⟩)
      · refine .inl (.inl ⟨_, _, rfl, rfl, ?_, h H (.refl H) _ (.int _)⟩)
        unfold okMul64 at z
        simp only [Bool.or_eq_true, Bool.and_eq_true, decide_eq_true_eq] at z
        exact z
    · exact h.elim
  · cases rx; cases ry
    split at h
    · rename_i z; exact .inr ⟨_, _, rfl, rfl, mulOk_of z, h H (.refl H) _ (.str _)⟩
    · exact h.elim
  · exact h.elim
end
theorem p400 : (10 : Nat) ^ 400 < 2 ^ 1500 := by decide +kernel
theorem bits400 {i : Int} (h : i.natAbs < 10 ^ 400) : bits i ≤ 1500 := bits_le (Nat.lt_trans h p400)
theorem q_mulU_r {i j : Int} (h1 : -18446744073709551616 < j) (h2 : j < 18446744073709551616) : mulUD (.int i) (.int j) = .ok (.int (i * j)) := by
  show (if okMulU i j = true then R.ok (D.int (i * j)) else .bad) = _
  rw [if_pos (by unfold okMulU okMul64; simp only [Bool.or_eq_true, Bool.and_eq_true, decide_eq_true_eq]; right; right; exact ⟨h1, h2⟩)]
theorem q_mulU_l {i j : Int} (h1 : -18446744073709551616 < i) (h2 : i < 18446744073709551616) : mulUD (.int i) (.int j) = .ok (.int (i * j)) := by
  show (if okMulU i j = true then R.ok (D.int (i * j)) else .bad) = _
  rw [if_pos (by unfold okMulU okMul64; simp only [Bool.or_eq_true, Bool.and_eq_true, decide_eq_true_eq]; right; left; exact ⟨h1, h2⟩)]
theorem q_mulU_s {x : Str} {n : Int} (h : okMulS x n = true) : mulUD (.str x) (.int n) = .ok (.str (Txt.mul x n)) := by
  show (if okMulS x n = true then R.ok (D.str (Txt.mul x n)) else .bad) = _
  rw [if_pos h]
theorem q_fdivU {i j : Int} (hj : j ≠ 0) (h2 : j.natAbs < 10 ^ 400) : fdivD (.int i) (.int j) = .ok (.int (i.fdiv j)) := by
  have hb := bits400 h2
  rw [q_fdiv_i, if_pos (by unfold okDiv; simp only [Bool.and_eq_true, decide_eq_true_eq]; omega)]
theorem q_strU {i : Int} (h : i.natAbs < 10 ^ 400) : strD [.int i] = .ok (.str (toString i)) := by
  have p : (2 : Nat) ^ 1500 ≤ 2 ^ 1920 := Nat.pow_le_pow_right (by decide) (by decide)
  rw [q_str_i, if_pos (log2_lt (by decide) (Nat.lt_of_lt_of_le (Nat.lt_trans h p400) p))]
theorem q_fmtU {i : Int} (h : i.natAbs < 10 ^ 400) : fmtD (.int i) = .ok (.str (toString i)) := by
  have p : (2 : Nat) ^ 1500 ≤ 2 ^ 1920 := Nat.pow_le_pow_right (by decide) (by decide)
  rw [q_fmt_i, if_pos (log2_lt (by decide) (Nat.lt_of_lt_of_le (Nat.lt_trans h p400) p))]
theorem q_isX_i {q : Addr → Value → Option Bool} {i : Int} : isXD q [.int i, .ty "int"] = .ok (.bl true) := rfl
theorem q_isX_b {q : Addr → Value → Option Bool} {i : Int} : isXD q [.int i, .ty "bool"] = .ok (.bl false) := rfl
theorem q_isX_s {q : Addr → Value → Option Bool} {x : Str} : isXD q [.str x, .ty "str"] = .ok (.bl true) := rfl
theorem q_isX_t {q : Addr → Value → Option Bool} {ds : List D} : isXD q [.tup ds, .ty "tuple"] = .ok (.bl true) := rfl
theorem q_isX_l {q : Addr → Value → Option Bool} {ds : List D} : isXD q [.lst ds, .ty "list"] = .ok (.bl true) := rfl
theorem q_slW_l {ds : List D} {lo hi : Option Int} : slWD (.lst ds) lo hi = .ok (.lst (cutD ds lo hi)) := rfl
theorem q_slW_s {x : Str} {lo hi : Option Int} : slWD (.str x) lo hi = if x.length ≤ sizeLine then .ok (.str (Txt.slice x lo hi)) else .bad := rfl
theorem q_is_bb {a b : Bool} : isD2 (.bl a) (.bl b) = .ok (.bl (a == b)) := rfl
theorem q_isn_bb {a b : Bool} : isnD2 (.bl a) (.bl b) = .ok (.bl (!(a == b))) := rfl
theorem q_is_nn : isD2 .non .non = .ok (.bl true) := rfl
theorem q_isn_nn : isnD2 .non .non = .ok (.bl false) := rfl
theorem q_is_tn {ds : List D} : isD2 (.tup ds) .non = .ok (.bl false) := rfl
theorem q_isn_tn {ds : List D} : isnD2 (.tup ds) .non = .ok (.bl true) := rfl
theorem q_whileD {c : Ev → R Bool} {b : Ev → RT} {n : Nat} {ρ : Ev} : whileD c b (n + 1) ρ = toS (c ρ) fun k => if k = true then turnT (b ρ) (whileD c b n) else .nx ρ := rfl
end P2
namespace P2
open PySem L2 PySem.Spec
open PyProof.Rows hiding St
section
variable {X : Cx} {σ : L2.St} {pins : List (Addr × Obj)} {f l it S : Addr} {dv : Value} {vs : List V} {H0 : Hp} {R : Result → Shared → Prop}
end
section
variable {X : Cx} {σ : L2.St} {pins : List (Addr × Obj)} {f l it S : Addr} {dv : Value} {vs : List V} {H0 : Hp} {R : Result → Shared → Prop}
end
section
variable {X : Cx} {E : XK} {k : Nat} {x fn p : Str} {F : List D → R D} {fa fb : Ev → R D} {e de : Expr} {pos p0 p1 p2 p3 : Pos}
end
end P2
namespace PySem.F
end PySem.F
namespace P2
open PySem
section
variable {prog : Program} {w : World} {A : Around} {E : Value → Shared → Prop} {s : Shared} {R : Result → Shared → Prop}
variable {I : Addr} {fp wr : List Addr} {G : Array GenState → Array GenState → Prop} {n : Nat} {P : Nat → Value → Prop} {St : Nat → Shared → Prop}
end
end P2
namespace P2
open PySem L2 PySem.Spec
open PyProof.Rows hiding St
section
variable {X : Cx} {E : XK} {e : Expr} {ta : TE} {f : Ev → R D} {p1 p2 pos pos2 : Pos}
end
end P2
namespace P2
open PySem L2 PySem.Spec
open PyProof.Rows hiding St
section
variable {X : Cx} {E : XK} {a b : Expr} {rest : List Expr} {pos : Pos} {ta tb : TE} {fa fb : Ev → R D}
noncomputable def dOrV (a b : Ev → R D) : Ev → R D := fun ρ => (a ρ).bind fun x => (tT x).bind fun c => if c = true then .ok x else b ρ
theorem q_dOrV_a {ρ : Ev} : dOrV fa fb ρ = (fa ρ).bind fun x => (tT x).bind fun c => if c = true then .ok x else fb ρ := rfl
end
end P2
namespace P2
open PySem L2 PySem.Spec PySem.Calls
open PyProof.Rows hiding St
noncomputable def BM (mg : Str → Option Value) (h : Heap) : Prop := ∃ bm ob, mg "__builtins__" = some (.ref bm) ∧ bm ≠ builtinsNs ∧ h.get? bm = some ob ∧ ob.cls = .type "module" ∧ ob.dict = some builtinsNs ∧ ob.data = .plain
noncomputable def LamO (f : Addr) (o : Obj) : HO := .ext fun h => h.get? f = some o
noncomputable def LamH (H : Hp) (f : Addr) (qual : Str) (params : Arguments) (body : Expr) (scope : Scope) (pm : Value) : Prop :=
  ∃ c' ctv, H f = some (LamO f (PySem.W.kla_obj "<lambda>" qual params body scope [] pm c' ctv)) ∧ H c' = some (CodeO c' qual)
theorem LamH.up {K : PySem.W.Frag} {H H' : Hp} {f : Addr} {qual : Str} {params : Arguments} {body : Expr} {scope : Scope} {pm : Value} (h : LamH H f qual params body scope pm) (s : Same K H H') : LamH H' f qual params body scope pm := by
  obtain ⟨c', ctv, e1, e2⟩ := h
  exact ⟨c', ctv, s.at' _ _ nt_ext e1, s.at' _ _ nt_ext e2⟩
section
variable {X : Cx} {pins : List (Addr × Obj)} {σ : List (Option V)} {H : Hp} {s : Shared}
end
section
variable {X : Cx} {E : XK} {k : Nat} {p : Str} {fa fb g : Ev → R D} {e de body : Expr} {pos p0 p2 p3 p4 : Pos} {x qual : Str} {c P : Addr} {params : Arguments} {scope : Scope} {N : List Str}
end
section
variable {P : Program} {w : World} {K : PySem.W.Frag} {mg : Str → Option Value} {base : Heap}
end
end P2
namespace P2
open PySem L2 PySem.Spec PySem.Calls
open PyProof.Rows hiding St
section
variable {X : Cx} {E : XK} {e : Expr} {ta : TE} {f : Ev → R D} {p1 pos : Pos}
end
end P2
namespace P2
open PySem PySem.W PyProof.Rows
noncomputable def KOk {α : Type} (n : Nat) (c : Nat → Nat → Bool) : KasT α → (α → Prop) → Prop
  | .ret a, Q => Q a
  | .ask i j k, Q => i < n ∧ j < n ∧ KOk n c (k (c i j)) Q
theorem KOk.bind {α β : Type} {n : Nat} {c : Nat → Nat → Bool} {f : α → KasT β} {Q : β → Prop} : ∀ {t : KasT α}, KOk n c t (fun a => KOk n c (f a) Q) → KOk n c (t.bind f) Q
  | .ret _, h => h
  | .ask i j k, h => ⟨h.1, h.2.1, KOk.bind (t := k (c i j)) h.2.2⟩
section
variable {n : Nat} {c : Nat → Nat → Bool} {rk : Nat → Int}
noncomputable def KK (rk : Nat → Int) (p : Array Nat) (i : Nat) : Int := rk ((p[i]?).getD 0)
noncomputable def Inr (n : Nat) (p : Array Nat) : Prop := p.Perm (List.toArray (List.range n))
theorem Inr.size {p : Array Nat} (h : Inr n p) : p.size = n := by rw [h.size_eq]; simp
theorem Inr.lt {p : Array Nat} (h : Inr n p) (h0 : 0 < n) (k : Nat) : p.getD k 0 < n := by
  rw [Array.getD_eq_getD_getElem?]
  cases e : p[k]? with
  | none => simpa using h0
  | some x =>
    have hm : x ∈ p.toList := by
      have := Array.mem_of_getElem? e
      exact Array.mem_toList_iff.mpr this
    have := (Array.perm_iff_toList_perm.mp h).mem_iff.mp hm
    simpa using this
variable (hc : ∀ i j, i < n → j < n → c i j = decide (rk i < rk j))
include hc
noncomputable def Asc (rk : Nat → Int) (p : Array Nat) (m : Nat) : Prop := ∀ i j, i ≤ j → j < m → KK rk p i ≤ KK rk p j
noncomputable def Dsc (rk : Nat → Int) (p : Array Nat) (m : Nat) : Prop := ∀ i j, i ≤ j → j < m → KK rk p j ≤ KK rk p i
omit hc in
theorem Asc.snoc {p : Array Nat} {m : Nat} (h : Asc rk p m) (h1 : 1 ≤ m) (e : KK rk p (m - 1) ≤ KK rk p m) : Asc rk p (m + 1) := fun i j hij hj => by
  by_cases z : j = m
  · subst z
    by_cases y : i = j
    · subst y; omega
    · have := h i (j - 1) (by omega) (by omega); omega
  · exact h i j hij (by omega)
omit hc in
theorem Dsc.snoc {p : Array Nat} {m : Nat} (h : Dsc rk p m) (h1 : 1 ≤ m) (e : KK rk p m ≤ KK rk p (m - 1)) : Dsc rk p (m + 1) := fun i j hij hj => by
  by_cases z : j = m
  · subst z
    by_cases y : i = j
    · subst y; omega
    · have := h i (j - 1) (by omega) (by omega); omega
  · exact h i j hij (by omega)
omit hc in
end
end P2
namespace P2
open PySem L2 PySem.Spec PySem.Calls PySem.W
open PyProof.Rows hiding St K
section
variable {prog : Program} {w : World} {A : Around} {E : Value → Shared → Prop} {s : Shared}
end
end P2
namespace P2
open PySem L2 PySem.Spec PySem.Calls PySem.W
open PyProof.Rows hiding St K
noncomputable def sgL : List D → Option (List Nat)
  | [] => some []
  | .int _ :: r => (sgL r).map (0 :: ·)
  | .str _ :: r => (sgL r).map (1 :: ·)
  | _ => none
theorem sgL_int {i : Int} {r : List D} {s : List Nat} (h : sgL (.int i :: r) = some s) : ∃ t, s = 0 :: t ∧ sgL r = some t := by
  obtain ⟨t, h1, h2⟩ := Option.map_eq_some_iff.mp (show (sgL r).map (0 :: ·) = some s from h)
  exact ⟨t, h2.symm, h1⟩
theorem sgL_str {i : Str} {r : List D} {s : List Nat} (h : sgL (.str i :: r) = some s) : ∃ t, s = 1 :: t ∧ sgL r = some t := by
  obtain ⟨t, h1, h2⟩ := Option.map_eq_some_iff.mp (show (sgL r).map (1 :: ·) = some s from h)
  exact ⟨t, h2.symm, h1⟩
inductive Two : List D → List D → Prop
  | nil : Two [] []
  | int (i j : Int) {xs ys : List D} : Two xs ys → Two (.int i :: xs) (.int j :: ys)
  | str (i j : Str) {xs ys : List D} : Two xs ys → Two (.str i :: xs) (.str j :: ys)
theorem two_of : ∀ {a b : List D} {s : List Nat}, sgL a = some s → sgL b = some s → Two a b
  | [], b, s, h1, h2 => by
    cases h1
    cases b with
    | nil => exact .nil
    | cons d r =>
      cases d with
      | int i => obtain ⟨t, e, _⟩ := sgL_int h2; cases e
      | str i => obtain ⟨t, e, _⟩ := sgL_str h2; cases e
      | _ => cases h2
  | .int i :: xs, b, s, h1, h2 => by
    obtain ⟨t, rfl, e1⟩ := sgL_int h1
    cases b with
    | nil => cases h2
    | cons d r =>
      cases d with
      | int j => obtain ⟨t', e, e2⟩ := sgL_int h2; cases e; exact .int i j (two_of e1 e2)
      | str j => obtain ⟨t', e, _⟩ := sgL_str h2; cases e
      | _ => cases h2
  | .str i :: xs, b, s, h1, h2 => by
    obtain ⟨t, rfl, e1⟩ := sgL_str h1
    cases b with
    | nil => cases h2
    | cons d r =>
      cases d with
      | str j => obtain ⟨t', e, e2⟩ := sgL_str h2; cases e; exact .str i j (two_of e1 e2)
      | int j => obtain ⟨t', e, _⟩ := sgL_int h2; cases e
      | _ => cases h2
  | .non :: _, _, _, h1, _ => by cases h1
  | .bl _ :: _, _, _, h1, _ => by cases h1
  | .ty _ :: _, _, _, h1, _ => by cases h1
  | .ref _ :: _, _, _, h1, _ => by cases h1
  | .tup _ :: _, _, _, h1, _ => by cases h1
  | .lst _ :: _, _, _, h1, _ => by cases h1
  | .exc _ _ _ :: _, _, _, h1, _ => by cases h1
inductive TwoQ : D → D → Prop
  | int (i j : Int) : TwoQ (.int i) (.int j)
  | str (i j : Str) : TwoQ (.str i) (.str j)
  | tup {a b : List D} {d e : D} : Two (d :: a) (e :: b) → TwoQ (.tup (d :: a)) (.tup (e :: b))
end P2
namespace P2
open PySem L2 PySem.Spec PySem.Calls PySem.W
open PyProof.Rows hiding St K
noncomputable def FlV : D → Value → Prop
  | .int i, .int j _ => i = j
  | .str x, .str y _ => x = y
  | _, _ => False
inductive Fl2 : List D → List Value → Prop
  | nil : Fl2 [] []
  | cons {d : D} {v : Value} {ds : List D} {vs : List Value} : FlV d v → Fl2 ds vs → Fl2 (d :: ds) (v :: vs)
noncomputable def TupAt (h : Heap) (u : Value) (ds : List D) : Prop := ∃ a o xs n, u = .ref a ∧ h.get? a = some o ∧ o.cls = .type "tuple" ∧ o.data = .seq xs n ∧ Fl2 ds xs.toList
theorem TupAt.keep {h h' : Heap} {u : Value} {ds : List D} (t : TupAt h u ds) (k : ∀ b o, h.get? b = some o → h'.get? b = some o) : TupAt h' u ds :=
  let ⟨a, o, xs, n, h1, h2, r⟩ := t; ⟨a, o, xs, n, h1, k a o h2, r⟩
noncomputable def ItemAt (h : Heap) (u : Value) : D → Prop
  | .int i => FlV (.int i) u
  | .str x => FlV (.str x) u
  | .tup ds => TupAt h u ds
  | _ => False
theorem ItemAt.keep {h h' : Heap} {u : Value} {d : D} (t : ItemAt h u d) (k : ∀ b o, h.get? b = some o → h'.get? b = some o) : ItemAt h' u d := by
  cases d with
  | tup ds => exact TupAt.keep t k
  | _ => exact t
section
variable {prog : Program} {w : World} {A : Around} {E : Value → Shared → Prop} {s : Shared}
theorem Two.len {xs ys : List D} (q : Two xs ys) : xs.length = ys.length := by
  induction q with
  | nil => rfl
  | int i j h ih => rw [List.length_cons, List.length_cons, ih]
  | str i j h ih => rw [List.length_cons, List.length_cons, ih]
end
section
variable {prog : Program} {w : World} {A : Around} {E : Value → Shared → Prop} {s : Shared}
inductive Items (h : Heap) : List Value → List D → Prop
  | nil : Items h [] []
  | cons {u : Value} {d : D} {us : List Value} {ds : List D} : ItemAt h u d → Items h us ds → Items h (u :: us) (d :: ds)
theorem Items.keep {h h' : Heap} {us : List Value} {ds : List D} (t : Items h us ds) (k : ∀ b o, h.get? b = some o → h'.get? b = some o) : Items h' us ds := by
  induction t with
  | nil => exact .nil
  | cons a _ ih => exact .cons (a.keep k) ih
theorem Items.len {h : Heap} {us : List Value} {ds : List D} (t : Items h us ds) : us.length = ds.length := by
  induction t with
  | nil => rfl
  | cons a _ ih => rw [List.length_cons, List.length_cons, ih]
theorem Items.get {h : Heap} {us : List Value} {ds : List D} (t : Items h us ds) : ∀ {i : Nat}, i < ds.length → ItemAt h (us.getD i .none) (ds.getD i .non) := by
  induction t with
  | nil => intro i hi; simp at hi
  | cons a _ ih =>
    intro i hi
    cases i with
    | zero => simpa using a
    | succ i => simpa using ih (by simpa using hi)
end
end P2
namespace P2
open PySem L2 PySem.Spec PySem.Calls PySem.W
open PyProof.Rows hiding St K
section
variable {X : Cx} {E : XK} {e : Expr} {ta : TE} {f : Ev → R D} {p1 pos : Pos}
end
end P2
namespace P2
open PySem
mutual
noncomputable def okQ : D → Bool
  | .non => true
  | .int _ => true
  | .str z => PyData.strOk z
  | .tup ds => okQs ds
  | .lst ds => okQs ds
  | _ => false
noncomputable def okQs : List D → Bool
  | [] => true
  | d :: r => okQ d && okQs r
end
mutual
noncomputable def dpQ : D → Nat
  | .tup ds => dpQs ds + 1
  | .lst ds => dpQs ds + 1
  | _ => 0
noncomputable def dpQs : List D → Nat
  | [] => 0
  | d :: r => max (dpQ d) (dpQs r)
end
mutual
theorem py_ok : ∀ {d : D}, okQ d = true → ∃ p, pyD d = some p ∧ PyData.canLay0 p = true ∧ p.depth ≤ dpQ d
  | .non, _ => ⟨.none, rfl, by simp [PyData.canLay0], by simp [PyData.depth]⟩
  | .int i, _ => ⟨.int i, rfl, by simp [PyData.canLay0], by simp [PyData.depth]⟩
  | .str z, h => ⟨.str z, rfl, by have h2 : PyData.strOk z = true := h; simpa [PyData.canLay0] using h2, by simp [PyData.depth]⟩
  | .tup ds, h => by
    obtain ⟨ps, e1, e2, e3⟩ := pys_ok (show okQs ds = true from h)
    exact ⟨.tuple ps, by show (pyDs ds).map PyData.tuple = _; rw [e1]; rfl, by simpa [PyData.canLay0] using e2, by simp only [PyData.depth, dpQ]; omega⟩
  | .lst ds, h => by
    obtain ⟨ps, e1, e2, e3⟩ := pys_ok (show okQs ds = true from h)
    exact ⟨.list ps, by show (pyDs ds).map PyData.list = _; rw [e1]; rfl, by simpa [PyData.canLay0] using e2, by simp only [PyData.depth, dpQ]; omega⟩
  | .bl _, h => by cases h
  | .ty _, h => by cases h
  | .ref _, h => by cases h
  | .exc _ _ _, h => by cases h
theorem pys_ok : ∀ {ds : List D}, okQs ds = true → ∃ ps, pyDs ds = some ps ∧ PyData.canLayAll0 ps = true ∧ PyData.depthAll ps ≤ dpQs ds
  | [], _ => ⟨[], rfl, by simp [PyData.canLayAll0], by simp [PyData.depthAll]⟩
  | d :: r, h => by
    have h' : (okQ d && okQs r) = true := h
    rw [Bool.and_eq_true] at h'
    obtain ⟨p, e1, e2, e3⟩ := py_ok h'.1
    obtain ⟨ps, f1, f2, f3⟩ := pys_ok h'.2
    refine ⟨p :: ps, ?_, ?_, ?_⟩
    · show (pyD d).bind (fun p => (pyDs r).map (p :: ·)) = _
      rw [e1, f1]; rfl
    · simp [PyData.canLayAll0, e2, f2]
    · simp only [PyData.depthAll, dpQs]; omega
end
theorem py_tup {ds : List D} {p : PyData} (h : pyD (.tup ds) = some p) : ∃ ps, p = .tuple ps ∧ pyDs ds = some ps := by
  obtain ⟨ps, h1, h2⟩ := Option.map_eq_some_iff.mp (show (pyDs ds).map PyData.tuple = some p from h)
  exact ⟨ps, h2.symm, h1⟩
theorem py_lst {ds : List D} {p : PyData} (h : pyD (.lst ds) = some p) : ∃ ps, p = .list ps ∧ pyDs ds = some ps := by
  obtain ⟨ps, h1, h2⟩ := Option.map_eq_some_iff.mp (show (pyDs ds).map PyData.list = some p from h)
  exact ⟨ps, h2.symm, h1⟩
mutual
theorem eqv_iff : ∀ {a b : D} {p q : PyData}, okQ a = true → okQ b = true → pyD a = some p → pyD b = some q → (PyData.eqv p q = true ↔ a = b)
  | a, b, p, q, ha, hb, ep, eq => by
    cases a with
    | non =>
      cases ep
      cases b with
      | non => cases eq; simp [PyData.eqv]
      | int i => cases eq; simp [PyData.eqv]
      | str i => cases eq; simp [PyData.eqv]
      | tup r => obtain ⟨ps, rfl, _⟩ := py_tup eq; simp [PyData.eqv]
      | lst r => obtain ⟨ps, rfl, _⟩ := py_lst eq; simp [PyData.eqv]
      | _ => cases hb
    | int i =>
      cases ep
      cases b with
      | non => cases eq; simp [PyData.eqv]
      | int i => cases eq; simp [PyData.eqv]
      | str i => cases eq; simp [PyData.eqv]
      | tup r => obtain ⟨ps, rfl, _⟩ := py_tup eq; simp [PyData.eqv]
      | lst r => obtain ⟨ps, rfl, _⟩ := py_lst eq; simp [PyData.eqv]
      | _ => cases hb
    | str i =>
      cases ep
      cases b with
      | non => cases eq; simp [PyData.eqv]
      | int i => cases eq; simp [PyData.eqv]
      | str i => cases eq; simp [PyData.eqv]
      | tup r => obtain ⟨ps, rfl, _⟩ := py_tup eq; simp [PyData.eqv]
      | lst r => obtain ⟨ps, rfl, _⟩ := py_lst eq; simp [PyData.eqv]
      | _ => cases hb
    | tup ds =>
      obtain ⟨ps, rfl, e1⟩ := py_tup ep
      cases b with
      | non => cases eq; simp [PyData.eqv]
      | int i => cases eq; simp [PyData.eqv]
      | str i => cases eq; simp [PyData.eqv]
      | tup r =>
        obtain ⟨qs, rfl, e2⟩ := py_tup eq
        have := eqvs_iff (show okQs ds = true from ha) (show okQs r = true from hb) e1 e2
        simp only [PyData.eqv, this, D.tup.injEq]
      | lst r => obtain ⟨qs, rfl, _⟩ := py_lst eq; simp [PyData.eqv]
      | _ => cases hb
    | lst ds =>
      obtain ⟨ps, rfl, e1⟩ := py_lst ep
      cases b with
      | non => cases eq; simp [PyData.eqv]
      | int i => cases eq; simp [PyData.eqv]
      | str i => cases eq; simp [PyData.eqv]
      | tup r => obtain ⟨qs, rfl, _⟩ := py_tup eq; simp [PyData.eqv]
      | lst r =>
        obtain ⟨qs, rfl, e2⟩ := py_lst eq
        have := eqvs_iff (show okQs ds = true from ha) (show okQs r = true from hb) e1 e2
        simp only [PyData.eqv, this, D.lst.injEq]
      | _ => cases hb
    | _ => cases ha
  termination_by a => sizeOf a
theorem eqvs_iff : ∀ {a b : List D} {p q : List PyData}, okQs a = true → okQs b = true → pyDs a = some p → pyDs b = some q → (PyData.eqvAll p q = true ↔ a = b)
  | [], [], p, q, _, _, ep, eq => by cases ep; cases eq; simp [PyData.eqvAll]
  | [], d :: r, p, q, _, _, ep, eq => by
    cases ep
    obtain ⟨x, _, h⟩ := Option.bind_eq_some_iff.mp (show (pyD d).bind (fun p => (pyDs r).map (p :: ·)) = some q from eq)
    obtain ⟨xs, _, rfl⟩ := Option.map_eq_some_iff.mp h
    simp [PyData.eqvAll]
  | d :: r, [], p, q, _, _, ep, eq => by
    cases eq
    obtain ⟨x, _, h⟩ := Option.bind_eq_some_iff.mp (show (pyD d).bind (fun p => (pyDs r).map (p :: ·)) = some p from ep)
    obtain ⟨xs, _, rfl⟩ := Option.map_eq_some_iff.mp h
    simp [PyData.eqvAll]
  | d :: r, e :: s, p, q, ha, hb, ep, eq => by
    have ha' : (okQ d && okQs r) = true := ha
    have hb' : (okQ e && okQs s) = true := hb
    rw [Bool.and_eq_true] at ha' hb'
    obtain ⟨x, x1, h⟩ := Option.bind_eq_some_iff.mp (show (pyD d).bind (fun p => (pyDs r).map (p :: ·)) = some p from ep)
    obtain ⟨xs, x2, rfl⟩ := Option.map_eq_some_iff.mp h
    obtain ⟨y, y1, h'⟩ := Option.bind_eq_some_iff.mp (show (pyD e).bind (fun p => (pyDs s).map (p :: ·)) = some q from eq)
    obtain ⟨ys, y2, rfl⟩ := Option.map_eq_some_iff.mp h'
    have i1 := eqv_iff ha'.1 hb'.1 x1 y1
    have i2 := eqvs_iff ha'.2 hb'.2 x2 y2
    simp only [PyData.eqvAll, Bool.and_eq_true, i1, i2, List.cons.injEq]
  termination_by a => sizeOf a
end
end P2
namespace P2
open PySem L2 PySem.Spec PySem.Calls
open PyProof.Rows hiding St
theorem law_callT {P : Program} {w : World} {K : PySem.W.Frag} {mg mb : Str → Option Value} {CX : CXT} {k : Nat} {fa a : Addr} {fd : FuncData} {x : Str} {sp : Sp} {s₁ : Shared} {vs : List Value} {ns : List Int}
    (KX : K.In s₁.heap) (hns : s₁.heap.Ns mainGlobals mg) (hb : s₁.heap.Ns builtinsNs mb) (hbb : ∀ x : Str, x ≠ "__name__" → mb x = bootBuiltins x) (hlim : s₁.heap.NoLimit) (hg : s₁.gens = #[])
    (ha : s₁.heap.get? a = some { cls := .type "list", data := .seq vs.toArray }) (hi : IntsAre vs ns) (hl : ns.length ≤ sizeLine) (hr : Room k callerA) (hT : ∀ t ∈ tabsOf K, PySem.W.CodeHd s₁.heap t.2.1 t.2.2 ∧ s₁.heap.get? t.2.2 = some (PySem.W.tabObj #[])) (hN : PySem.W.noTabs K = true)
    (hB : BM mg s₁.heap)
    (F : ∀ base : Heap, K.In base → base.Ns mainGlobals mg → BM mg base → FnOk P w K mg base CX k fa fd [x] sp) (hbind : ∀ (s : Shared) (u : Value), BindsTo s fd ⟨[u], []⟩ [(x, u)])
    (hsp : ∀ H : Hp, TbOk K H → SqL K H a (ns.map V.int) → sp [.ref a] H (fun v _ => v = .bl true) fun _ _ _ => False)
    (hCX : ∀ H e s', CX [] H s₁ (fun _ _ _ => False) e s' → False) :
    codeAny (model P w) callerA (.call (.ref fa) ⟨[.ref a], []⟩) (fun r s' => r = .ok (.ret (.bool true)) ∧ OldK s₁.heap s'.heap ∧ s'.os = s₁.os ∧ AllBare s'.gens) s₁ := by
  have rv := vals_ints hi
  have lenV := hi.length
  have na : ∀ t ∈ tabsOf K, t.2.2 ≠ a := fun t ht e => by
    have := (hT t ht).2
    rw [e, ha] at this
    cases this
  have nK : ∀ t ∈ tabsOf K, K.lookup t.2.2 = none := fun t ht => by
    cases q : K.lookup t.2.2 with
    | none => rfl
    | some o =>
      have e1 := KX _ _ q
      rw [(hT t ht).2] at e1
      cases e1
      have h2 := List.all_eq_true.mp hN (t.2.2, PySem.W.tabObj #[]) (PySem.W.mem_of_lookupK q)
      exact absurd (show false = true from h2) Bool.false_ne_true
  -- the heap's own view
  have core : ∀ H : Hp, (∀ b, H b = none ∨ (∃ o xs, H b = some (.frz o (.lst xs)) ∧ b = a ∧ K.lookup a = none) ∨ ∃ t ∈ tabsOf K, b = t.2.2 ∧ H b = some (.tbl #[])) → (∀ t ∈ tabsOf K, H t.2.2 = some (.tbl #[])) → SqL K H a (ns.map V.int) → HOk P w H s₁.heap →
      codeAny (model P w) callerA (.call (.ref fa) ⟨[.ref a], []⟩) (fun r s' => r = .ok (.ret (.bool true)) ∧ OldK s₁.heap s'.heap ∧ s'.os = s₁.os ∧ AllBare s'.gens) s₁ := by
    intro H hO hTb hS hok
    have base_of : ∀ {b : Addr} {o : Obj}, s₁.heap.get? b = some o → H b = none → (hidT s₁.heap H).get? b = some o := fun e n => hidT_get e n
    have noA : ∀ {b : Addr} {o : Obj} {es : Array DictEntry} {ep : Nat}, s₁.heap.get? b = some o → o.data = .dict es ep → H b = none := fun {b o es ep} e d => by
      rcases hO b with z | ⟨ob, xs, z, e', _⟩ | ⟨t, ht, e', z⟩
      · exact z
      · subst e'
        rw [ha] at e; cases e
        have d' : Data.seq vs.toArray _ = Data.dict es ep := d
        cases d'
      · subst e'
        rw [(hT t ht).2] at e; cases e
        have d' : Data.fields #[] = Data.dict es ep := d
        cases d'
    have nsK : ∀ {b : Addr} {m : Str → Option Value}, s₁.heap.Ns b m → (hidT s₁.heap H).Ns b m := fun {b m} ⟨o, es, ep, e, d, r⟩ => ⟨o, es, ep, base_of e (noA e d), d, r⟩
    have hKb : K.In (hidT s₁.heap H) := fun b o e => base_of (KX b o e) (by
      rcases hO b with z | ⟨ob, xs, z, e', hk⟩ | ⟨t, ht, e', z⟩
      · exact z
      · subst e'; rw [hk] at e; cases e
      · subst e'; rw [nK t ht] at e; cases e)
    have hBb : BM mg (hidT s₁.heap H) := by
      obtain ⟨bm, ob, b1, b2, b3, b4, b5, b6⟩ := hB
      refine ⟨bm, ob, b1, b2, base_of b3 ?_, b4, b5, b6⟩
      rcases hO bm with z | ⟨o2, xs, z, e', _⟩ | ⟨t, ht, e', z⟩
      · exact z
      · subst e'; rw [ha] at b3; cases b3; cases b6
      · subst e'; rw [(hT t ht).2] at b3; cases b3; cases b6
    have hM : Mod K mg (hidT s₁.heap H) := ⟨hKb, nsK hns, ⟨mb, nsK hb, hbb⟩, let ⟨mc, h1, h2⟩ := hlim; ⟨mc, nsK h1, h2⟩⟩
    have e0 : Env0 P w K mg (hidT s₁.heap H) callerA [] s₁ H := ⟨rfl, hM, fun b o e => of_hidT e, Nat.le_of_eq (hidT_size _ _), trivial, fun b hb => absurd (show b ∈ ([] : List Addr) from hb) (by simp), hok, .of_eq hg⟩
    have tb : TbOk K H := fun t ht => ⟨#[], hTb t ht, trivial, fun pos cv e => by cases e⟩
    refine codeAny_mono ((F _ hKb (nsK hns) hBb).run callerA [] s₁ H ⟨[.ref a], []⟩ [.ref a] [.ref a] _ _ hr e0 (hbind s₁ (.ref a)) (.cons rfl .nil) (hsp H tb hS)) fun r s' h => ?_
    cases r with
    | error e => exact (hCX H e s' h).elim
    | ok fl =>
      cases fl with
      | next => exact False.elim h
      | brk => exact False.elim h
      | cont => exact False.elim h
      | ret u =>
        obtain ⟨v, H', os, bare, un, hok', r', q⟩ := h
        have q' : v = .bl true := q
        subst q'
        obtain rfl : u = Value.bool true := r'
        have kept : ∀ b o, s₁.heap.get? b = some o → s'.heap.get? b = some o ∨ ∃ t ∈ tabsOf K, b = t.2.2 ∧ ∃ ps, s'.heap.get? b = some (PySem.W.tabObj ps) := fun b o e => by
          rcases hO b with z | ⟨ob, xs, z, _⟩ | ⟨t, ht, e', z⟩
          · exact .inl (un.keep b o e z (by intro y; exact absurd (show b ∈ ([] : List Addr) from y) (by simp)) (by simp))
          · have z2 := un.frzs b ob _ z
            obtain ⟨e1, _⟩ := hok b _ z
            obtain ⟨e2, _⟩ := hok' b _ z2
            rw [e] at e1; cases e1
            exact .inl e2
          · obtain ⟨more, z2⟩ := un.tbls b #[] z
            have e2 : s'.heap.get? b = some { cls := .none, data := .fields (#[] ++ more) } := hok' b _ z2
            exact .inr ⟨t, ht, e', _, e2⟩
        refine ⟨rfl, ⟨fun b o e => ?_, fun b o e => ?_⟩, os, bare⟩
        · rcases kept b o e with z | ⟨t, ht, e', ps, z⟩
          · exact .inl z
          · subst e'
            have e2 := (hT t ht).2
            rw [e] at e2
            cases e2
            exact .inr (.inl ⟨((hT t ht).1.tab (hT t ht).2).isCodeTable, rfl, #[], ps, rfl, by rw [Array.empty_append]; exact z⟩)
        · rcases kept b o e with z | ⟨_, _, _, ps, z⟩
          · exact ⟨o, z⟩
          · exact ⟨_, z⟩
  have nz : ¬ ∃ t ∈ tabsOf K, a = t.2.2 := fun ⟨t, ht, e⟩ => na t ht e.symm
  have tbl : ∀ (H : Hp) (b : Addr), (∃ t ∈ tabsOf K, b = t.2.2) → ObjOk P w H s₁.heap b (.tbl #[]) := fun H b ⟨t, ht, e⟩ => by subst e; exact (hT t ht).2
  cases hk : K.lookup a with
  | some o =>
    have e := KX a o hk
    rw [ha] at e
    cases e
    refine core (fun b => if (∃ t ∈ tabsOf K, b = t.2.2) then some (.tbl #[]) else none) (fun b => ?_) (fun t ht => if_pos ⟨t, ht, rfl⟩) (.inr ⟨_, vs.toArray, _, hk, rfl, rfl, rfl, by rw [List.size_toArray, lenV]; exact hl, by simpa using rv⟩) (fun b u e => ?_)
    · by_cases z : ∃ t ∈ tabsOf K, b = t.2.2
      · obtain ⟨t, ht, e⟩ := z
        exact .inr (.inr ⟨t, ht, e, if_pos ⟨t, ht, e⟩⟩)
      · exact .inl (if_neg z)
    · by_cases z : ∃ t ∈ tabsOf K, b = t.2.2
      · have e' := (if_pos z).symm.trans e
        cases e'
        exact tbl _ b z
      · have e' := (if_neg z).symm.trans e
        cases e'
  | none =>
    refine core (fun b => if (∃ t ∈ tabsOf K, b = t.2.2) then some (.tbl #[]) else if b = a then some (.frz { cls := .type "list", data := .seq vs.toArray } (.lst (ns.map V.int))) else none) (fun b => ?_) (fun t ht => if_pos ⟨t, ht, rfl⟩) (.inl (.inr ⟨{ cls := .type "list", data := .seq vs.toArray }, (if_neg nz).trans (if_pos rfl)⟩)) (fun b u e => ?_)
    · by_cases z : ∃ t ∈ tabsOf K, b = t.2.2
      · obtain ⟨t, ht, e⟩ := z
        exact .inr (.inr ⟨t, ht, e, if_pos ⟨t, ht, e⟩⟩)
      · by_cases y : b = a
        · exact .inr (.inl ⟨_, _, (if_neg z).trans (if_pos y), y, hk⟩)
        · exact .inl ((if_neg z).trans (if_neg y))
    · by_cases z : ∃ t ∈ tabsOf K, b = t.2.2
      · have e' := (if_pos z).symm.trans e
        cases e'
        exact tbl _ b z
      · by_cases y : b = a
        · have e' := ((if_neg z).trans (if_pos y)).symm.trans e
          cases e'
          subst y
          exact ⟨ha, by rw [List.length_map]; exact hl, vs, _, rv, ha⟩
        · have e' := ((if_neg z).trans (if_neg y)).symm.trans e
          cases e'
theorem tabs_of {p : Program} {loose : List Str} {mean : ExcName → Option Value} {mg mb : Str → Option Value} {h : Heap} {K : PySem.W.Frag} (T : Top p loose mean mg mb h) (X : K.In h) (hq : (tabsOf K).all (fun t => ((recsOf p).find? fun e => e.name == t.1).isSome) = true) :
    ∀ t ∈ tabsOf K, PySem.W.CodeHd h t.2.1 t.2.2 ∧ h.get? t.2.2 = some (PySem.W.tabObj #[]) := fun t ht => by
  have h1 := List.all_eq_true.mp hq t ht
  obtain ⟨d, hd⟩ := Option.isSome_iff_exists.mp h1
  unfold tabsOf at ht
  obtain ⟨x, _, e⟩ := List.mem_filterMap.mp ht
  split at e
  · obtain ⟨q, e1, e2⟩ := Option.map_eq_some_iff.mp e
    subst e2
    exact PySem.W.tab_of T X hd e1
  · cases e
end P2
namespace WP
open PySem L2 P2
structure Ad where
  WeatherError : Addr := 0
  NoFraction : Addr := 0
  NoText : Addr := 0
  Twice : Addr := 0
  TooMany : Addr := 0
  NoRow : Addr := 0
  fI_row : Addr := 0
  fI_mast : Addr := 0
  fI_most : Addr := 0
  isx : Addr → Value → Option Bool := fun _ _ => none
noncomputable def g_show_fraction (a : Ad) : Ev → RT := (sSeq (sSet 1 (d2 ixD (dV 0) (dC (.int 0))))
    (sSeq (sSet 2 (d2 ixD (dV 0) (dC (.int 1))))
    (sSeq (sIf (b1 tB (d2 eqSD (dV 2) (dC (.int 1)))) (sRet (dA strD (aCons (dV 1) aNil))) sNil)
    (sRet ((jCons (d1 fmtD (dV 1)) (jCons (dC (.str "/")) (jCons (d1 fmtD (dV 2)) jNil))) Str.empty)))))
noncomputable def g_joined (a : Ad) : Ev → RT := (sRet ((jCons (d1 fmtD (dV 0)) (jCons (dC (.str " ")) (jCons (d1 fmtD (dV 1)) (jCons (dC (.str " ")) (jCons (d1 fmtD (dV 2)) jNil))))) Str.empty))
noncomputable def g_show_tight (a : Ad) (F_show_term : List D → R D) : Ev → RT := (sSeq (sSet 2 (dA F_show_term (aCons (dV 0) aNil)))
    (sRet (dIf (b1 tB (d2 inLD (d2 ixD (dV 0) (dC (.int 0))) (dV 1))) ((jCons (dC (.str "(")) (jCons (d1 fmtD (dV 2)) (jCons (dC (.str ")")) jNil))) Str.empty) (dV 2))))
noncomputable def g_show_term (a : Ad) (F_show_tight : List D → R D) (F_show_term : List D → R D) (F_joined : List D → R D) (F_show_fraction : List D → R D) : Ev → RT := (sSeq (sSet 1 (d2 ixD (dV 0) (dC (.int 0))))
    (sSeq (sIf (b1 tB (d2 inLD (dV 1) (dA mkT (aCons (dC (.str "+")) (aCons (dC (.str "-")) aNil))))) (sRet (dA F_joined (aCons (dA F_show_term (aCons (d2 ixD (dV 0) (dC (.int 1))) aNil)) (aCons (dV 1) (aCons (dA F_show_tight (aCons (d2 ixD (dV 0) (dC (.int 2))) (aCons (dA mkT (aCons (dC (.str "+")) (aCons (dC (.str "-")) aNil))) aNil))) aNil))))) sNil)
    (sSeq (sIf (b1 tB (d2 eqSD (dV 1) (dC (.str "times")))) (sRet (dA F_joined (aCons (dA F_show_fraction (aCons (d2 ixD (dV 0) (dC (.int 1))) aNil)) (aCons (dC (.str "*")) (aCons (dA F_show_tight (aCons (d2 ixD (dV 0) (dC (.int 2))) (aCons (dA mkT (aCons (dC (.str "+")) (aCons (dC (.str "-")) (aCons (dC (.str "times")) aNil)))) aNil))) aNil))))) sNil)
    (sSeq (sIf (b1 tB (d2 eqSD (dV 1) (dC (.str "abs")))) (sSeq (sSet 2 (dA F_show_term (aCons (d2 ixD (dV 0) (dC (.int 1))) aNil)))
    (sRet ((jCons (dC (.str "abs(")) (jCons (d1 fmtD (dV 2)) (jCons (dC (.str ")")) jNil))) Str.empty))) sNil)
    (sSeq (sIf (b1 tB (d2 eqSD (dV 1) (dC (.str "num")))) (sRet (dA F_show_fraction (aCons (d2 ixD (dV 0) (dC (.int 1))) aNil))) sNil)
    (sSeq (sIf (b1 tB (d2 eqSD (dV 1) (dC (.str "here")))) (sRet (dV 1)) sNil)
    (sSeq (sSet 3 (d2 ixD (dV 0) (dC (.int 1))))
    (sRet ((jCons (d1 fmtD (dV 1)) (jCons (dC (.str " ")) (jCons (d1 fmtD (dV 3)) jNil))) Str.empty)))))))))
noncomputable def g_show_bound (a : Ad) (F_show_condition : List D → R D) : Ev → RT := (sSeq (sSet 2 (dA F_show_condition (aCons (dV 0) aNil)))
    (sRet (dIf (b1 tB (d2 inLD (d2 ixD (dV 0) (dC (.int 0))) (dV 1))) ((jCons (dC (.str "[")) (jCons (d1 fmtD (dV 2)) (jCons (dC (.str "]")) jNil))) Str.empty) (dV 2))))
noncomputable def g_show_condition (a : Ad) (F_show_bound : List D → R D) (F_show_condition : List D → R D) (F_joined : List D → R D) (F_show_term : List D → R D) : Ev → RT := (sSeq (sSet 1 (d2 ixD (dV 0) (dC (.int 0))))
    (sSeq (sIf (b1 tB (d2 eqSD (dV 1) (dC (.str "or")))) (sRet (dA F_joined (aCons (dA F_show_condition (aCons (d2 ixD (dV 0) (dC (.int 1))) aNil)) (aCons (dV 1) (aCons (dA F_show_bound (aCons (d2 ixD (dV 0) (dC (.int 2))) (aCons (dA mkT (aCons (dC (.str "or")) aNil)) aNil))) aNil))))) sNil)
    (sSeq (sIf (b1 tB (d2 eqSD (dV 1) (dC (.str "and")))) (sRet (dA F_joined (aCons (dA F_show_bound (aCons (d2 ixD (dV 0) (dC (.int 1))) (aCons (dA mkT (aCons (dC (.str "or")) aNil)) aNil))) (aCons (dV 1) (aCons (dA F_show_bound (aCons (d2 ixD (dV 0) (dC (.int 2))) (aCons (dA mkT (aCons (dC (.str "or")) (aCons (dC (.str "and")) aNil))) aNil))) aNil))))) sNil)
    (sSeq (sIf (b1 tB (d2 eqSD (dV 1) (dC (.str "not")))) (sRet (d2 addD (dC (.str "not ")) (dA F_show_bound (aCons (d2 ixD (dV 0) (dC (.int 1))) (aCons (dA mkT (aCons (dC (.str "or")) (aCons (dC (.str "and")) aNil))) aNil))))) sNil)
    (sRet (dA F_joined (aCons (dA F_show_term (aCons (d2 ixD (dV 0) (dC (.int 1))) aNil)) (aCons (dV 1) (aCons (dA F_show_term (aCons (d2 ixD (dV 0) (dC (.int 2))) aNil)) aNil)))))))))
end WP
set_option exponentiation.threshold 500
namespace WP
open PySem L2 P2 TM T2 PySem.NumText
local macro_rules | `(tactic| walk_at "den") => `(tactic| try simp (disch := first | assumption | decide | exact Nat.le_of_ble_eq_true rfl) only [q_bind_k, q_bind_x, q_bind_b, q_toS_k, q_toS_x, q_toS_b, q_seq_n, q_seq_r, q_seq_x, q_seq_b, q_turn_n, q_turn_c, q_turn_k, q_turn_r, q_turn_b, q_turn_x, q_fin_r, q_fin_n, q_fin_x, q_noEx_k, q_okO_k, q_ofO_s, q_sSeq_a, q_sNil_a, q_sRet_a, q_sExpr_a, q_sSet_a, q_sIf_a, q_dC_a, q_d1_a, q_d2_a, q_b1B_a, q_b1T_a, q_bAnd_a, q_bOr_a, q_bNot_a, q_dAnd_a, q_dOr_a, q_dNot_a, q_dIf_a, q_dA_a, q_aNil_a, q_aCons_a, q_asN_a, q_dMt_a, q_dSl_a, q_dComp_a, q_sFor_a, q_toO_s, q_gV_a, q_tB_b, q_tT_b, q_tT_i, q_tT_n, q_tT_l, q_tT_t, q_add_i, q_sub_i, q_fdiv_p, q_mod_p, q_lt_i, q_le_i, q_gt_i, q_ge_i, q_neg_i, q_eq_i, q_eq_s, q_eq_b, q_ne_i, q_ne_s, q_in_s, q_ix_l, q_ix_t, q_ix_s, q_sl_l, q_sl_s, q_pI_i, q_len_s, q_len_l, q_len_t, q_abs_i, q_max_i, q_int_s, q_all_l, q_any_l, q_st_s, q_zf_s, q_hs_s, q_fit_p, q_add_sp, q_add_lp, q_mkT_p, q_asI_l, q_asI_t, q_asI_s, q_fmt_s, q_jNil_a, q_jCons_k, q_isX_i, q_isX_b, q_isX_s, q_isX_t, q_isX_l, q_slW_l, q_slW_s, q_is_bb, q_isn_bb, q_is_nn, q_isn_nn, q_is_tn, q_isn_tn, q_v0, q_v1, q_v2, q_v3, q_v4, q_v5, q_v6, q_v7, q_v8, q_v9, q_v10, q_v11, q_v12, q_v13, startD, List.map_cons, List.map_nil, List.length_cons, List.length_nil, Nat.sub_self, Nat.reduceAdd, Nat.reduceSub, List.replicate_zero, List.replicate_succ, List.append_nil, List.nil_append, List.cons_append, List.set_cons_zero, List.set_cons_succ, if_true, if_false, Nat.reduceLT, Nat.zero_lt_succ, Bool.not_true, Bool.not_false, Bool.false_eq_true, reduceIte, decide_true, decide_false, Int.reduceLT, Int.reduceEq, Int.reduceNeg, Int.reducePow, Int.reduceSub, Int.reduceAdd, Int.reduceMul,  List.length_set])
variable {a : Ad}
noncomputable def mkS (cs : List Nat) : Str := ⟨cs.toArray⟩
theorem cds_mk (cs : List Nat) : cds (mkS cs) = cs := rfl
theorem mk_cds (z : Str) : mkS (cds z) = z := ext (cds_mk _)
theorem dv_lt {t b : Int} (hb : b ≠ 0) (h : b.natAbs < 10 ^ 400) : (FM.dv t b).natAbs < 10 ^ 400 := by
  have := FM.dv_le (t := t) (b := b) hb
  omega
noncomputable abbrev fr (t b : Int) : D := .tup [.int (FM.top t b), .int (FM.bot t b)]
theorem len_numI {t : Int} (h : t.natAbs < 10 ^ 400) : (numI t).length ≤ 402 := by
  have := num_len (k := 399) (m := t.natAbs) h
  unfold numI
  split
  · rw [List.length_cons]; omega
  · omega
theorem len_str {t : Int} (h : t.natAbs < 10 ^ 400) : (Str.ofString (toString t)).length ≤ 402 := by rw [len_cds, cds_int]; exact len_numI h
theorem m_showF (t b : Int) (hb : 0 < b) (h1 : t.natAbs < 10 ^ 400) (h2 : b.natAbs < 10 ^ 400) : finT (g_show_fraction a (startD 3 [.tup [.int t, .int b]])) = .ok (.str (mkS (showF t b))) := by
  have i0 : L2.atI [D.int t, D.int b] 0 = some (.int t) := rfl
  have i1 : L2.atI [D.int t, D.int b] 1 = some (.int b) := rfl
  have s1 := q_strU h1
  have f1 := q_fmtU h1
  have f2 := q_fmtU h2
  have l1 := len_str h1
  have l2 := len_str h2
  have e1 := cds_int t
  have e2 := cds_int b
  generalize hx : Str.ofString (toString t) = x at *
  generalize hy : Str.ofString (toString b) = y at *
  have c0 : cds Str.empty = [] := rfl
  have c1 : cds (Str.ofString "/") = [47] := by decide
  have z1 : (Str.empty ++ x).length ≤ sizeLine := size_of (by rw [len_cds, cds_app, c0, List.nil_append, ← len_cds]; omega)
  have z2 : (Str.empty ++ x ++ Str.ofString "/").length ≤ sizeLine := size_of (by rw [len_cds, cds_app, cds_app, c0, c1, List.nil_append, List.length_append, ← len_cds, List.length_singleton]; omega)
  have z3 : (Str.empty ++ x ++ Str.ofString "/" ++ y).length ≤ sizeLine := size_of (by rw [len_cds, cds_app, cds_app, cds_app, c0, c1, List.nil_append, List.length_append, List.length_append, ← len_cds, ← len_cds, List.length_singleton]; omega)
  unfold g_show_fraction
  by_cases hb1 : b = 1
  · have ez : x = mkS (showF t b) := ext (by rw [cds_mk, e1]; unfold showF; rw [if_pos hb1])
    subst hb1
    rw [← ez]
    iterate 6 (walk_at "den"; try simp only [i0, i1, s1, decide_true])
  · have ez : Str.empty ++ x ++ Str.ofString "/" ++ y = mkS (showF t b) := ext (by
      rw [cds_mk]
      simp only [cds_app, c0, c1, e1, e2]
      unfold showF
      rw [if_neg hb1]
      have : numI b = num b.natAbs := by unfold numI; rw [if_neg (by omega)]
      rw [this]
      simp)
    iterate 8 (walk_at "den"; try simp only [i0, i1, hb1, f1, f2, if_pos z1, if_pos z2, if_pos z3, decide_false])
    rw [← ez]
end WP
namespace WP
open PySem L2 P2 TM T2 PySem.NumText
local macro_rules | `(tactic| walk_at "den") => `(tactic| try simp (disch := first | assumption | decide | exact Nat.le_of_ble_eq_true rfl) only [q_bind_k, q_bind_x, q_bind_b, q_toS_k, q_toS_x, q_toS_b, q_seq_n, q_seq_r, q_seq_x, q_seq_b, q_turn_n, q_turn_c, q_turn_k, q_turn_r, q_turn_b, q_turn_x, q_fin_r, q_fin_n, q_fin_x, q_noEx_k, q_okO_k, q_ofO_s, q_sSeq_a, q_sNil_a, q_sRet_a, q_sExpr_a, q_sSet_a, q_sIf_a, q_dC_a, q_d1_a, q_d2_a, q_b1B_a, q_b1T_a, q_bAnd_a, q_bOr_a, q_bNot_a, q_dAnd_a, q_dOr_a, q_dNot_a, q_dIf_a, q_dA_a, q_aNil_a, q_aCons_a, q_asN_a, q_dMt_a, q_dSl_a, q_dComp_a, q_sFor_a, q_toO_s, q_gV_a, q_tB_b, q_tT_b, q_tT_i, q_tT_n, q_tT_l, q_tT_t, q_add_i, q_sub_i, q_fdiv_p, q_mod_p, q_lt_i, q_le_i, q_gt_i, q_ge_i, q_neg_i, q_eq_i, q_eq_s, q_eq_b, q_ne_i, q_ne_s, q_in_s, q_ix_l, q_ix_t, q_ix_s, q_sl_l, q_sl_s, q_pI_i, q_len_s, q_len_l, q_len_t, q_abs_i, q_max_i, q_int_s, q_all_l, q_any_l, q_st_s, q_zf_s, q_hs_s, q_fit_p, q_add_sp, q_add_lp, q_mkT_p, q_asI_l, q_asI_t, q_asI_s, q_fmt_s, q_jNil_a, q_jCons_k, q_isX_i, q_isX_b, q_isX_s, q_isX_t, q_isX_l, q_slW_l, q_slW_s, q_is_bb, q_isn_bb, q_is_nn, q_isn_nn, q_is_tn, q_isn_tn, q_v0, q_v1, q_v2, q_v3, q_v4, q_v5, q_v6, q_v7, q_v8, q_v9, q_v10, q_v11, q_v12, q_v13, startD, List.map_cons, List.map_nil, List.length_cons, List.length_nil, Nat.sub_self, Nat.reduceAdd, Nat.reduceSub, List.replicate_zero, List.replicate_succ, List.append_nil, List.nil_append, List.cons_append, List.set_cons_zero, List.set_cons_succ, if_true, if_false, Nat.reduceLT, Nat.zero_lt_succ, Bool.not_true, Bool.not_false, Bool.false_eq_true, reduceIte, decide_true, decide_false, Int.reduceLT, Int.reduceEq, Int.reduceNeg, Int.reducePow, Int.reduceSub, Int.reduceAdd, Int.reduceMul,  List.length_set])
variable {a : Ad}
section
variable {Fn Ff Fs : List D → R D} (hn : ∀ (z : Str) (k : Nat), z.length ≤ 1000000 → Fn [.str z, .int k] = .ok (.bl (numB (cds z) k)))
  (hf : ∀ t b : Int, b ≠ 0 → b.natAbs < 10 ^ 400 → Ff [.int t, .int b] = .ok (.tup [.int (FM.top t b), .int (FM.bot t b)]))
  (hs : ∀ t b : Int, 0 < b → t.natAbs < 10 ^ 400 → b.natAbs < 10 ^ 400 → Fs [.tup [.int t, .int b]] = .ok (.str (mkS (showF t b))))
include hn hf hs
end
section
variable {Fn Ff Fs : List D → R D} (hn : ∀ (z : Str) (k : Nat), z.length ≤ 1000000 → Fn [.str z, .int k] = .ok (.bl (numB (cds z) k)))
  (hf : ∀ t b : Int, b ≠ 0 → b.natAbs < 10 ^ 400 → Ff [.int t, .int b] = .ok (.tup [.int (FM.top t b), .int (FM.bot t b)]))
  (hs : ∀ t b : Int, 0 < b → t.natAbs < 10 ^ 400 → b.natAbs < 10 ^ 400 → Fs [.tup [.int t, .int b]] = .ok (.str (mkS (showF t b))))
include hn hf hs
end
end WP
namespace CK
theorem fr_eq {x y x' y' : Int} (hy : y ≠ 0) (hy' : y' ≠ 0) (h : x * y' = x' * y) : FM.top x y = FM.top x' y' ∧ FM.bot x y = FM.bot x' y' := by
  have c1 := FM.cross (t := x) hy
  have c2 := FM.cross (t := x') hy'
  refine FM.low_eq (FM.low_of hy) (FM.low_of hy') ?_
  have e : (FM.top x y * FM.bot x' y') * (y * y') = (FM.top x' y' * FM.bot x y) * (y * y') := by grind
  exact Int.eq_of_mul_eq_mul_right (Int.mul_ne_zero hy hy') e
section
variable {α : Type} (k : α → Int)
noncomputable def pickC : α → List α → α
  | b, c :: cs => if k b < k c then pickC c cs else pickC b cs
  | b, [] => b
noncomputable def maxC : List α → Option α
  | [] => none
  | c :: cs => some (pickC k c cs)
end
theorem share {p1 q1 p2 q2 t t1 t2 : Int} (L1 : FM.Low p1 q1) (L2 : FM.Low p2 q2) (h : t1 < t2) {s1 s2 m1 m2 g1 g2 : Int}
    (hs : s1 = FM.top (t - t1) (t2 - t1) ∧ s2 = FM.bot (t - t1) (t2 - t1)) (hm : m1 = FM.top (p2 * q1 - p1 * q2) (q2 * q1) ∧ m2 = FM.bot (p2 * q1 - p1 * q2) (q2 * q1))
    (hg : g1 = FM.top (s1 * m1) (s2 * m2) ∧ g2 = FM.bot (s1 * m1) (s2 * m2)) :
    FM.top (p1 * g2 + g1 * q1) (q1 * g2) = FM.top (p1 * (t2 - t) * q2 + p2 * (t - t1) * q1) ((t2 - t1) * q1 * q2) ∧ FM.bot (p1 * g2 + g1 * q1) (q1 * g2) = FM.bot (p1 * (t2 - t) * q2 + p2 * (t - t1) * q1) ((t2 - t1) * q1 * q2) := by
  have hq1 := L1.pos
  have hq2 := L2.pos
  have hT : t2 - t1 ≠ 0 := by omega
  have hQ : q2 * q1 ≠ 0 := Int.mul_ne_zero (by omega) (by omega)
  have c1 := FM.cross (t := t - t1) hT
  have z1 := (FM.low_of (t := t - t1) hT).pos
  have c2 := FM.cross (t := p2 * q1 - p1 * q2) hQ
  have z2 := (FM.low_of (t := p2 * q1 - p1 * q2) hQ).pos
  rw [← hs.1, ← hs.2] at c1
  rw [← hs.2] at z1
  rw [← hm.1, ← hm.2] at c2
  rw [← hm.2] at z2
  have hG : s2 * m2 ≠ 0 := Int.mul_ne_zero (by omega) (by omega)
  have c3 := FM.cross (t := s1 * m1) hG
  have z3 := (FM.low_of (t := s1 * m1) hG).pos
  rw [← hg.1, ← hg.2] at c3
  rw [← hg.2] at z3
  refine fr_eq (Int.mul_ne_zero (by omega) (by omega)) (Int.mul_ne_zero (Int.mul_ne_zero hT (by omega)) (by omega)) ?_
  refine Int.eq_of_mul_eq_mul_right hG ?_
  grind
end CK
namespace WP
open PySem L2 P2 TM T2 PySem.NumText
local macro_rules | `(tactic| walk_at "den") => `(tactic| try simp (disch := first | assumption | decide | exact Nat.le_of_ble_eq_true rfl) only [q_bind_k, q_bind_x, q_bind_b, q_toS_k, q_toS_x, q_toS_b, q_seq_n, q_seq_r, q_seq_x, q_seq_b, q_turn_n, q_turn_c, q_turn_k, q_turn_r, q_turn_b, q_turn_x, q_fin_r, q_fin_n, q_fin_x, q_noEx_k, q_okO_k, q_ofO_s, q_sSeq_a, q_sNil_a, q_sRet_a, q_sExpr_a, q_sSet_a, q_sIf_a, q_dC_a, q_d1_a, q_d2_a, q_b1B_a, q_b1T_a, q_bAnd_a, q_bOr_a, q_bNot_a, q_dAnd_a, q_dOr_a, q_dNot_a, q_dIf_a, q_dA_a, q_aNil_a, q_aCons_a, q_asN_a, q_dMt_a, q_dSl_a, q_dComp_a, q_sFor_a, q_toO_s, q_gV_a, q_tB_b, q_tT_b, q_tT_i, q_tT_n, q_tT_l, q_tT_t, q_add_i, q_sub_i, q_fdiv_p, q_mod_p, q_lt_i, q_le_i, q_gt_i, q_ge_i, q_neg_i, q_eq_i, q_eq_s, q_eq_b, q_ne_i, q_ne_s, q_in_s, q_ix_l, q_ix_t, q_ix_s, q_sl_l, q_sl_s, q_pI_i, q_len_s, q_len_l, q_len_t, q_abs_i, q_max_i, q_int_s, q_all_l, q_any_l, q_st_s, q_zf_s, q_hs_s, q_fit_p, q_add_sp, q_add_lp, q_mkT_p, q_asI_l, q_asI_t, q_asI_s, q_fmt_s, q_jNil_a, q_jCons_k, q_isX_i, q_isX_b, q_isX_s, q_isX_t, q_isX_l, q_slW_l, q_slW_s, q_is_bb, q_isn_bb, q_is_nn, q_isn_nn, q_is_tn, q_isn_tn, q_v0, q_v1, q_v2, q_v3, q_v4, q_v5, q_v6, q_v7, q_v8, q_v9, q_v10, q_v11, q_v12, q_v13, startD, List.map_cons, List.map_nil, List.length_cons, List.length_nil, Nat.sub_self, Nat.reduceAdd, Nat.reduceSub, List.replicate_zero, List.replicate_succ, List.append_nil, List.nil_append, List.cons_append, List.set_cons_zero, List.set_cons_succ, if_true, if_false, Nat.reduceLT, Nat.zero_lt_succ, Bool.not_true, Bool.not_false, Bool.false_eq_true, reduceIte, decide_true, decide_false, Int.reduceLT, Int.reduceEq, Int.reduceNeg, Int.reducePow, Int.reduceSub, Int.reduceAdd, Int.reduceMul,  List.length_set])
variable {a : Ad}
noncomputable def Sz (n : Nat) (i : Int) : Prop := i.natAbs < 10 ^ n
theorem Sz.mono {m n : Nat} {i : Int} (h : Sz m i) (le : m ≤ n) : Sz n i := Nat.lt_of_lt_of_le h (Nat.pow_le_pow_right (by decide) le)
theorem Sz.mul {m n : Nat} {i j : Int} (h : Sz m i) (g : Sz n j) : Sz (m + n) (i * j) := by
  unfold Sz at *
  rw [Int.natAbs_mul, Nat.pow_add]
  exact Nat.mul_lt_mul'' h g
theorem Sz.sub {n : Nat} {i j : Int} (h : Sz n i) (g : Sz n j) : Sz (n + 1) (i - j) := by
  unfold Sz at *
  have : (10 : Nat) ^ (n + 1) = 10 ^ n * 10 := Nat.pow_succ ..
  omega
theorem Sz.top {n : Nat} {t b : Int} (h : Sz n t) (hb : b ≠ 0) : Sz n (FM.top t b) := Nat.lt_of_le_of_lt (top_le t hb).1 h
theorem Sz.bot {n : Nat} {t b : Int} (h : Sz n b) (hb : b ≠ 0) : Sz n (FM.bot t b) := Nat.lt_of_le_of_lt (top_le t hb).2 h
noncomputable abbrev pr (p q : Int) : D := .tup [.int p, .int q]
section
variable {Ff : List D → R D} (hf : ∀ t b : Int, b ≠ 0 → b.natAbs < 10 ^ 400 → Ff [.int t, .int b] = .ok (fr t b)) {p q x y : Int} (h1 : Sz 190 p) (h2 : Sz 190 q) (h3 : Sz 190 x) (h4 : Sz 190 y)
include hf h1 h2 h3 h4
end
structure Ck where
  m : Str
  t : Int
  p : Int
  q : Int
noncomputable abbrev Ck.d (c : Ck) : D := .tup [.str c.m, .int c.t, pr c.p c.q]
noncomputable def ahead (L : List Ck) (m : Str) (t : Int) : Option Ck := CK.maxC (fun c => c.t) (L.filter fun c => decide (c.t ≤ t) && decide (c.m = m))
noncomputable def behind (L : List Ck) (m : Str) (t : Int) : Option Ck := CK.maxC (fun c => - c.t) (L.filter fun c => decide (t ≤ c.t) && decide (c.m = m))
noncomputable def shareD (t t1 t2 : Int) : Int × Int := if t1 = t2 then (0, 1) else (FM.top (t - t1) (t2 - t1), FM.bot (t - t1) (t2 - t1))
noncomputable def betw (t : Int) (c d : Ck) : Int × Int :=
  let s := shareD t c.t d.t
  let mt := FM.top (d.p * c.q - c.p * d.q) (d.q * c.q)
  let mb := FM.bot (d.p * c.q - c.p * d.q) (d.q * c.q)
  let gt := FM.top (s.1 * mt) (s.2 * mb)
  let gb := FM.bot (s.1 * mt) (s.2 * mb)
  (FM.top (c.p * gb + gt * c.q) (c.q * gb), FM.bot (c.p * gb + gt * c.q) (c.q * gb))
structure Ck.Ok (c : Ck) : Prop where
  low : FM.Low c.p c.q
  p : Sz 9 c.p
  q : Sz 6 c.q
  t : 0 ≤ c.t ∧ c.t ≤ 1000000000
  s : PyData.strOk c.m = true
noncomputable abbrev Ck.y (c : Ck) : PyData := .tuple [.str c.m, .int c.t, .tuple [.int c.p, .int c.q]]
structure Os (a : Ad) (Ff Ft Fs Fm Fx Fp : List D → R D) : Prop where
  f : ∀ t b : Int, b ≠ 0 → b.natAbs < 10 ^ 400 → Ff [.int t, .int b] = .ok (fr t b)
  t : ∀ c : Ck, Ft [c.d] = .ok (.int c.t)
  s : ∀ t t1 t2 : Int, Sz 20 t1 → Sz 20 t2 → Fs [.int t, .int t1, .int t2] = .ok (pr (shareD t t1 t2).1 (shareD t t1 t2).2)
  m : ∀ p q x y : Int, Sz 190 p → Sz 190 q → Sz 190 x → Sz 190 y → q ≠ 0 → y ≠ 0 → Fm [pr p q, pr x y] = .ok (fr (p * y - x * q) (q * y))
  x : ∀ p q x y : Int, Sz 190 p → Sz 190 q → Sz 190 x → Sz 190 y → q ≠ 0 → y ≠ 0 → Fx [pr p q, pr x y] = .ok (fr (p * x) (q * y))
  p : ∀ p q x y : Int, Sz 190 p → Sz 190 q → Sz 190 x → Sz 190 y → q ≠ 0 → y ≠ 0 → Fp [pr p q, pr x y] = .ok (fr (p * y + x * q) (q * y))
structure Ov (a : Ad) (Ff Ft Fv : List D → R D) : Prop where
  f : ∀ t b : Int, b ≠ 0 → b.natAbs < 10 ^ 400 → Ff [.int t, .int b] = .ok (fr t b)
  t : ∀ c : Ck, Ft [c.d] = .ok (.int c.t)
  v : ∀ {t : Int}, (0 ≤ t ∧ t ≤ 1000000000) → ∀ {c d : Ck}, c.Ok → d.Ok → Fv [.int t, c.d, d.d] = .ok (pr (betw t c d).1 (betw t c d).2)
end WP
namespace WP
open PySem L2 P2
noncomputable def g_law_cell_at (a : Ad) : Ev → RT := (sSeq (sIf (b1 tB (d2 ltD (dV 1) (dA lenD (aCons (dV 0) aNil)))) (sRet (d2 ixD (dV 0) (dV 1))) sNil)
    (sRet (dC (.int 0))))
end WP
namespace P2
open PySem L2
theorem q_sOwn_a {i : Nat} {f : Ev → R (List D)} {ρ : Ev} : sOwn i f ρ = toS (f ρ) fun ds => if i < ρ.length then .nx (ρ.set i (.ow ds)) else .bad := rfl
theorem q_sPar_a {i j : Nat} {fs : Ev → R (List D)} {ρ : Ev} : sPar i j fs ρ = toS (fs ρ) fun ds => match ds with
  | [d1, d2] => if i < ρ.length ∧ j < ρ.length then .nx ((ρ.set i (.sh d1)).set j (.sh d2)) else .bad
  | _ => .bad := rfl
theorem q_app3 {f : Ev → R D} {s0 s1 s2 : Sl} {ds : List D} {r : Ev} : sApp 3 f (s0 :: s1 :: s2 :: .ow ds :: r) = toS (f (s0 :: s1 :: s2 :: .ow ds :: r)) fun d => if ds.length < sizeLine then .nx (s0 :: s1 :: s2 :: .ow (ds ++ [d]) :: r) else .bad := rfl
theorem q_app4 {f : Ev → R D} {s0 s1 s2 s3 : Sl} {ds : List D} {r : Ev} : sApp 4 f (s0 :: s1 :: s2 :: s3 :: .ow ds :: r) = toS (f (s0 :: s1 :: s2 :: s3 :: .ow ds :: r)) fun d => if ds.length < sizeLine then .nx (s0 :: s1 :: s2 :: s3 :: .ow (ds ++ [d]) :: r) else .bad := rfl
theorem q_frz3 {s0 s1 s2 : Sl} {ds : List D} {r : Ev} : frzS 3 (s0 :: s1 :: s2 :: .ow ds :: r) = s0 :: s1 :: s2 :: .sh (.lst ds) :: r := rfl
theorem q_frz4 {s0 s1 s2 s3 : Sl} {ds : List D} {r : Ev} : frzS 4 (s0 :: s1 :: s2 :: s3 :: .ow ds :: r) = s0 :: s1 :: s2 :: s3 :: .sh (.lst ds) :: r := rfl
theorem q_min_i {i j : Int} : min2D [.int i, .int j] = .ok (.int (if j < i then j else i)) := rfl
theorem q_rng1_p {j : Int} (h1 : 0 ≤ j) (h2 : j < 1000000) : rng1 [.int j] = .ok (rangeL 0 j.toNat) := by
  show (if -(2 ^ 62) ≤ j ∧ j < 2 ^ 62 then R.ok (rangeL 0 j.toNat) else .bad) = _
  rw [if_pos (by omega)]
end P2
namespace WP
open PySem L2 P2 TM T2 PySem.NumText
local macro_rules | `(tactic| walk_at "den") => `(tactic| try simp (disch := first | assumption | decide | exact Nat.le_of_ble_eq_true rfl) only [q_bind_k, q_bind_x, q_bind_b, q_toS_k, q_toS_x, q_toS_b, q_seq_n, q_seq_r, q_seq_x, q_seq_b, q_turn_n, q_turn_c, q_turn_k, q_turn_r, q_turn_b, q_turn_x, q_fin_r, q_fin_n, q_fin_x, q_noEx_k, q_okO_k, q_ofO_s, q_sSeq_a, q_sNil_a, q_sRet_a, q_sExpr_a, q_sSet_a, q_sIf_a, q_dC_a, q_d1_a, q_d2_a, q_b1B_a, q_b1T_a, q_bAnd_a, q_bOr_a, q_bNot_a, q_dAnd_a, q_dOr_a, q_dOrV_a, q_dNot_a, q_dIf_a, q_dA_a, q_aNil_a, q_aCons_a, q_asN_a, q_dMt_a, q_dSl_a, q_dComp_a, q_sFor_a, q_sOwn_a, q_sPar_a, q_app3, q_app4, q_frz3, q_frz4, q_min_i, q_rng1_p, q_toO_s, q_gV_a, q_tB_b, q_tT_b, q_tT_i, q_tT_n, q_tT_l, q_tT_t, q_add_i, q_sub_i, q_fdiv_p, q_mod_p, q_lt_i, q_le_i, q_gt_i, q_ge_i, q_neg_i, q_eq_i, q_eq_s, q_eq_b, q_ne_i, q_ne_s, q_in_s, q_ix_l, q_ix_t, q_ix_s, q_sl_l, q_sl_s, q_pI_i, q_len_s, q_len_l, q_len_t, q_abs_i, q_max_i, q_int_s, q_all_l, q_any_l, q_st_s, q_zf_s, q_hs_s, q_fit_p, q_add_sp, q_add_lp, q_mkT_p, q_asI_l, q_asI_t, q_asI_s, q_fmt_s, q_jNil_a, q_jCons_k, q_isX_i, q_isX_b, q_isX_s, q_isX_t, q_isX_l, q_slW_l, q_slW_s, q_is_bb, q_isn_bb, q_is_nn, q_isn_nn, q_is_tn, q_isn_tn, q_v0, q_v1, q_v2, q_v3, q_v4, q_v5, q_v6, q_v7, q_v8, q_v9, q_v10, q_v11, q_v12, q_v13, startD, List.map_cons, List.map_nil, List.length_cons, List.length_nil, Nat.sub_self, Nat.reduceAdd, Nat.reduceSub, List.replicate_zero, List.replicate_succ, List.append_nil, List.nil_append, List.cons_append, List.set_cons_zero, List.set_cons_succ, if_true, if_false, Nat.reduceLT, Nat.zero_lt_succ, Bool.not_true, Bool.not_false, Bool.false_eq_true, reduceIte, decide_true, decide_false, Int.reduceLT, Int.reduceEq, Int.reduceNeg, Int.reducePow, Int.reduceSub, Int.reduceAdd, Int.reduceMul,  List.length_set])
variable {a : Ad}
theorem lt_size {n : Nat} (h : n < 1000000) : n < sizeLine := Nat.lt_of_lt_of_le h (by decide)
theorem atI_getD (ns : List Int) (k : Nat) (h : k < ns.length) : L2.atI (ns.map D.int) (k : Int) = some (.int (ns.getD k 0)) := by
  refine atI_nat ?_
  rw [List.getElem?_map, List.getElem?_eq_getElem h, List.getD_eq_getElem?_getD, List.getElem?_eq_getElem h]; rfl
theorem m_cell (ns : List Int) (k : Nat) : finT (g_law_cell_at a (startD 2 [.lst (ns.map .int), .int k])) = .ok (.int (ns.getD k 0)) := by
  unfold g_law_cell_at
  walk_at "den"
  rw [List.length_map]
  by_cases h : k < ns.length
  · rw [if_pos (decide_eq_true (by omega)), atI_getD ns k h]
    walk_at "den"
  · rw [if_neg (by simp; omega)]
    walk_at "den"
    rw [List.getD_eq_getElem?_getD, List.getElem?_eq_none (by omega)]; rfl
structure FOk (p q : Int) : Prop where
  low : FM.Low p q
  p : Sz 9 p
  q : Sz 6 q
end WP
namespace L2
open PySem PySem.Spec PyProof.Rows
section
variable {κ : Type} [DecidableEq κ]
noncomputable def valV (kvs : List (κ × V)) (k : κ) : Option V := (kvs.find? fun kv => decide (kv.1 = k)).map (·.2)
noncomputable def putK (kvs : List (κ × V)) (k : κ) (v : V) : List (κ × V) :=
  if (kvs.any fun kv => decide (kv.1 = k)) = true then kvs.map (fun kv => if kv.1 = k then (kv.1, v) else kv) else kvs ++ [(k, v)]
noncomputable def dropK (kvs : List (κ × V)) (k : κ) : List (κ × V) := kvs.filter fun kv => decide (kv.1 ≠ k)
theorem valV_pos {p : κ × V} {r : List (κ × V)} {k : κ} (e : p.1 = k) : valV (p :: r) k = some p.2 := by simp [valV, List.find?_cons, e]
theorem valV_neg {p : κ × V} {r : List (κ × V)} {k : κ} (e : ¬ p.1 = k) : valV (p :: r) k = valV r k := by simp [valV, List.find?_cons, e]
theorem valV_any (k : κ) : ∀ kvs : List (κ × V), (kvs.any fun kv => decide (kv.1 = k)) = (valV kvs k).isSome
  | [] => rfl
  | p :: r => by
    rw [List.any_cons]
    by_cases e : p.1 = k
    · simp only [valV_pos e, decide_eq_true e, Bool.true_or, Option.isSome_some]
    · rw [valV_neg e, decide_eq_false e, Bool.false_or]; exact valV_any k r
theorem length_putK (kvs : List (κ × V)) (k : κ) (v : V) : (putK kvs k v).length ≤ kvs.length + 1 := by
  unfold putK
  split
  · rw [List.length_map]; omega
  · rw [List.length_append, List.length_cons, List.length_nil]; omega
theorem RelO.isSome_eq {o : Option V} {u : Option Value} (r : RelO o u) : o.isSome = u.isSome := by
  cases o with
  | none => cases u with
    | none => rfl
    | some _ => exact (show False from r).elim
  | some _ => cases u with
    | none => exact (show False from r).elim
    | some _ => rfl
theorem RelO.getD {o : Option V} {u : Option Value} {d : V} {d' : Value} (r : RelO o u) (rd : RelV d d') : RelV (o.getD d) (u.getD d') := by
  cases o with
  | none => cases u with
    | none => exact rd
    | some _ => exact (show False from r).elim
  | some _ => cases u with
    | none => exact (show False from r).elim
    | some _ => exact r
theorem KV.val {kvs : List (κ × V)} {vs : List (κ × Value)} (r : KV kvs vs) (k : κ) : RelO (valV kvs k) (valueAt vs k) := by
  unfold KV at r
  induction r with
  | nil => exact True.intro
  | @cons p q ps qs h t ih =>
    obtain ⟨h1, h2⟩ := h
    by_cases e : p.1 = k
    · have e' : q.1 = k := h1.symm.trans e
      have b : valueAt (q :: qs) k = some q.2 := by simp [valueAt, List.find?_cons, e']
      rw [valV_pos e, b]; exact h2
    · have e' : ¬ q.1 = k := fun z => e (h1.trans z)
      have b : valueAt (q :: qs) k = valueAt qs k := by simp [valueAt, List.find?_cons, e']
      rw [valV_neg e, b]; exact ih
theorem KV.any {kvs : List (κ × V)} {vs : List (κ × Value)} (r : KV kvs vs) (k : κ) : (kvs.any fun kv => decide (kv.1 = k)) = vs.any fun kv => decide (kv.1 = k) := by
  unfold KV at r
  induction r with
  | nil => rfl
  | cons h t ih => rw [List.any_cons, List.any_cons, ih, h.1]
theorem KV.repl {kvs : List (κ × V)} {vs : List (κ × Value)} (r : KV kvs vs) (k : κ) {y : V} {u : Value} (ry : RelV y u) :
    KV (kvs.map fun kv => if kv.1 = k then (kv.1, y) else kv) (vs.map fun kv => if kv.1 = k then (kv.1, u) else kv) := by
  unfold KV at r ⊢
  induction r with
  | nil => exact .nil
  | @cons p q ps qs h t ih =>
    rw [List.map_cons, List.map_cons]
    refine .cons ?_ ih
    obtain ⟨h1, h2⟩ := h
    by_cases e : p.1 = k
    · rw [if_pos e, if_pos (h1.symm.trans e)]; exact ⟨h1, ry⟩
    · rw [if_neg e, if_neg (fun z => e (h1.trans z))]; exact ⟨h1, h2⟩
theorem KV.put {kvs : List (κ × V)} {vs : List (κ × Value)} (r : KV kvs vs) (k : κ) {y : V} {u : Value} (ry : RelV y u) : KV (putK kvs k y) (stored vs k u) := by
  unfold putK stored
  rw [r.any k]
  by_cases e : (vs.any fun kv => decide (kv.1 = k)) = true
  · rw [if_pos e, if_pos e]; exact r.repl k ry
  · rw [if_neg e, if_neg e]; exact Paired.snoc r ⟨rfl, ry⟩
theorem KV.drop {kvs : List (κ × V)} {vs : List (κ × Value)} (r : KV kvs vs) (k : κ) : KV (dropK kvs k) (without vs k) := by
  unfold KV at r ⊢
  unfold dropK without
  induction r with
  | nil => exact .nil
  | @cons p q ps qs h t ih =>
    obtain ⟨h1, h2⟩ := h
    rw [List.filter_cons, List.filter_cons]
    by_cases e : p.1 = k
    · have a : ¬ decide (p.1 ≠ k) = true := by simp [e]
      have b : ¬ decide (q.1 ≠ k) = true := by simp [h1.symm.trans e]
      rw [if_neg a, if_neg b]; exact ih
    · have e' : ¬ q.1 = k := fun z => e (h1.trans z)
      have a : decide (p.1 ≠ k) = true := by simp [e]
      have b : decide (q.1 ≠ k) = true := by simp [e']
      rw [if_pos a, if_pos b]; exact .cons ⟨h1, h2⟩ ih
theorem KV.keys {kvs : List (κ × V)} {vs : List (κ × Value)} (r : KV kvs vs) : kvs.map (·.1) = vs.map (·.1) := by
  unfold KV at r
  induction r with
  | nil => rfl
  | cons h t ih => rw [List.map_cons, List.map_cons, ih, h.1]
theorem KV.length {kvs : List (κ × V)} {vs : List (κ × Value)} (r : KV kvs vs) : kvs.length = vs.length := Paired.length r
end
theorem kV_is {P : Program} {w : World} {k : Key} {u : Value} (r : RelV (kV k) u) : (mixKind P w).is k u = true := by
  cases k with
  | inl i => obtain ⟨t, e⟩ := (show ∃ t, u = Value.int i t from r); subst e; exact mixKind_int P w i t
  | inr x => obtain ⟨t, e⟩ := (show ∃ t, u = Value.str x t from r); subst e; exact mixKind_str P w x t
theorem items_are {P : Program} {w : World} : ∀ {ks : List Key} {us : List Value}, Vals (ks.map kV) us → ItemsAre (mixKind P w) ks us
  | [], _, r => by rw [List.map_nil] at r; cases r; exact .nil
  | k :: ks, _, r => by
    rw [List.map_cons] at r
    cases r with
    | cons h t => exact .cons (kV_is h) (items_are t)
noncomputable abbrev KT (H : Hp) : List (List Key × V) → List (List Key × Addr × Value) → Prop := Paired fun p q => p.1 = q.1 ∧ H q.2.1 = some (.tup (p.1.map kV)) ∧ RelV p.2 q.2.2
theorem KT.val {H : Hp} {kvs : List (List Key × V)} {xs : List (List Key × Addr × Value)} (r : KT H kvs xs) (k : List Key) : RelO (valV kvs k) ((atKey xs k).map (·.2)) := by
  induction r with
  | nil => exact True.intro
  | @cons p q ps qs h t ih =>
    obtain ⟨h1, _, h2⟩ := h
    by_cases e : p.1 = k
    · have e' : q.1 = k := h1.symm.trans e
      have b : atKey (q :: qs) k = some q.2 := by simp [atKey, List.find?_cons, e']
      rw [valV_pos e, b]; exact h2
    · have e' : ¬ q.1 = k := fun z => e (h1.trans z)
      have b : atKey (q :: qs) k = atKey qs k := by simp [atKey, List.find?_cons, e']
      rw [valV_neg e, b]; exact ih
theorem KT.repl {H : Hp} {kvs : List (List Key × V)} {xs : List (List Key × Addr × Value)} (r : KT H kvs xs) (k : List Key) {y : V} {u : Value} (ry : RelV y u) :
    KT H (kvs.map fun kv => if kv.1 = k then (kv.1, y) else kv) (xs.map (putAt k u)) := by
  induction r with
  | nil => exact .nil
  | @cons p q ps qs h t ih =>
    rw [List.map_cons, List.map_cons]
    refine .cons ?_ ih
    obtain ⟨h1, h2, h3⟩ := h
    unfold putAt
    by_cases e : p.1 = k
    · rw [if_pos e, if_pos (h1.symm.trans e)]; exact ⟨h1, h2, ry⟩
    · rw [if_neg e, if_neg (fun z => e (h1.trans z))]; exact ⟨h1, h2, h3⟩
theorem KT.put {H : Hp} {kvs : List (List Key × V)} {xs : List (List Key × Addr × Value)} (r : KT H kvs xs) (k : List Key) {b : Addr} {y : V} {u : Value} (hb : H b = some (.tup (k.map kV))) (ry : RelV y u) :
    KT H (putK kvs k y) (storedH xs k b u) := by
  have e : (kvs.any fun kv => decide (kv.1 = k)) = (atKey xs k).isSome := by
    rw [valV_any, (r.val k).isSome_eq, Option.isSome_map]
  unfold putK storedH
  rw [e]
  by_cases q : (atKey xs k).isSome = true
  · rw [if_pos q, if_pos q]; exact r.repl k ry
  · rw [if_neg q, if_neg q]; exact Paired.snoc r ⟨rfl, hb, ry⟩
theorem KT.keeps {H H' : Hp} {kvs : List (List Key × V)} {xs : List (List Key × Addr × Value)} (r : KT H kvs xs) (ht : ∀ b ys, H b = some (.tup ys) → H' b = some (.tup ys)) : KT H' kvs xs :=
  Paired.mapP r fun _ _ z => ⟨z.1, ht _ _ z.2.1, z.2.2⟩
section
variable {P : Program} {w : World} {H : Hp} {h : Heap} {a : Addr}
theorem rd_of {u : HO} (ok : HOk P w H h) (e : Rd H a u) : ObjOk P w H h a u := e.ok ok
theorem dk_rd {kvs : List (Key × V)} (ok : HOk P w H h) (e : Rd H a (.dK kvs)) : kvs.length ≤ sizeLine ∧ (a == sysModules) = false ∧ ∃ vs, KV kvs vs ∧ h.DictOf (mixKind P w) a vs :=
  show ObjOk P w H h a (.dK kvs) from rd_of ok e
theorem dk_of {kvs : List (Key × V)} (ok : HOk P w H h) (e : H a = some (.dK kvs)) : kvs.length ≤ sizeLine ∧ (a == sysModules) = false ∧ ∃ vs, KV kvs vs ∧ h.DictOf (mixKind P w) a vs := dk_rd ok (.inl e)
theorem key_of {ks : List Key} (ok : HOk P w H h) (e : H a = some (.tup (ks.map kV))) : (tupleKind (mixKind P w)).is h ks a := by
  obtain ⟨_, its, r, o, h1, h2, n, h3⟩ := (show ObjOk P w H h a (.tup (ks.map kV)) from ok a _ e)
  exact ⟨o, its.toArray, n, h1, h2, h3, by simpa using items_are r⟩
theorem dt_rd {kvs : List (List Key × V)} (ok : HOk P w H h) (e : Rd H a (.dT kvs)) : kvs.length ≤ sizeLine ∧ (a == sysModules) = false ∧
    ∃ xs, KT H kvs xs ∧ h.DictOfH (tupleKind (mixKind P w)) a xs := by
  obtain ⟨z, y, xs, r, o, es, ep, h1, h2, h3, h4, h5⟩ := (show ObjOk P w H h a (.dT kvs) from rd_of ok e)
  refine ⟨z, y, xs, r, o, es, ep, h1, h2, h3, h4, fun x hx => ?_, h5⟩
  have all : ∀ {l : List (List Key × V)} {m : List (List Key × Addr × Value)}, KT H l m → ∀ x ∈ m, (tupleKind (mixKind P w)).is h x.1 x.2.1 := by
    intro l m q
    induction q with
    | nil => intro x hx; exact nomatch hx
    | @cons p q ps qs hq t ih =>
      intro x hx
      rcases List.mem_cons.mp hx with e | hx
      · subst e
        exact key_of ok (by rw [← hq.1]; exact hq.2.1)
      · exact ih x hx
  exact all r x hx
theorem dt_of {kvs : List (List Key × V)} (ok : HOk P w H h) (e : H a = some (.dT kvs)) : kvs.length ≤ sizeLine ∧ (a == sysModules) = false ∧
    ∃ xs, KT H kvs xs ∧ h.DictOfH (tupleKind (mixKind P w)) a xs := dt_rd ok (.inl e)
end
noncomputable def DGet (H : Hp) (a : Addr) (y : V) (r : Option V) : Prop :=
  (∃ kvs k, Rd H a (.dK kvs) ∧ y = kV k ∧ r = valV kvs k) ∨ ∃ kvs k b, Rd H a (.dT kvs) ∧ y = .ref b ∧ H b = some (.tup (k.map kV)) ∧ r = valV kvs k
noncomputable def DPut (H : Hp) (a : Addr) (y v : V) (H' : Hp) : Prop :=
  (∃ kvs k, H a = some (.dK kvs) ∧ y = kV k ∧ kvs.length < sizeLine ∧ H' = upd H a (.dK (putK kvs k v))) ∨
  ∃ kvs k b, H a = some (.dT kvs) ∧ y = .ref b ∧ H b = some (.tup (k.map kV)) ∧ kvs.length < sizeLine ∧ H' = upd H a (.dT (putK kvs k v))
theorem DGet.k {H : Hp} {a : Addr} {kvs : List (Key × V)} {k : Key} (e : H a = some (.dK kvs)) : DGet H a (kV k) (valV kvs k) := .inl ⟨kvs, k, .inl e, rfl, rfl⟩
theorem DGet.t {H : Hp} {a b : Addr} {kvs : List (List Key × V)} {k : List Key} (e : H a = some (.dT kvs)) (eb : H b = some (.tup (k.map kV))) : DGet H a (.ref b) (valV kvs k) := .inr ⟨kvs, k, b, .inl e, rfl, eb, rfl⟩
theorem DPut.k {H : Hp} {a : Addr} {kvs : List (Key × V)} {k : Key} {v : V} (e : H a = some (.dK kvs)) (hl : kvs.length < sizeLine) : DPut H a (kV k) v (upd H a (.dK (putK kvs k v))) := .inl ⟨kvs, k, e, rfl, hl, rfl⟩
theorem DPut.t {H : Hp} {a b : Addr} {kvs : List (List Key × V)} {k : List Key} {v : V} (e : H a = some (.dT kvs)) (eb : H b = some (.tup (k.map kV))) (hl : kvs.length < sizeLine) :
    DPut H a (.ref b) v (upd H a (.dT (putK kvs k v))) := .inr ⟨kvs, k, b, e, rfl, eb, hl, rfl⟩
section
variable {X : Cx} {pins : List (Addr × Obj)} {σ : St} {H : Hp} {s : Shared} {a : Addr} {y v : V} {u r : Value} {o : Option V} {A : Around} {E : Value → Shared → Prop}
theorem Inv.big (I : Inv X pins σ H s) : sysModules < s.heap.objs.size := by
  have h : mainGlobals < s.heap.objs.size := (I.mod.glob.keeps I.bk).lt
  exact Nat.lt_trans (by decide) h
theorem d_getItem {Q : Value → Shared → Prop} (hu : A.units + 1 < cLine) (I : Inv X pins σ H s) (g : DGet H a y (some v)) (ry : RelV y u) (h : ∀ w' s', Inv X pins σ H s' → RelV v w' → Q w' s') :
    wpAny (model X.prog X.w) A (getItem (.ref a) u) Q E s := by
  rcases g with ⟨kvs, k, e, ey, l⟩ | ⟨kvs, k, b, e, ey, eb, l⟩
  · subst ey
    obtain ⟨z, hd, vs, rel, dd⟩ := dk_rd I.hok e
    obtain ⟨w', hw, rw'⟩ := RelO.some_of (v := v) (o := valueAt vs k) (by rw [l]; exact rel.val k)
    exact wpAny_getItem_of (kV_is ry) dd.mapOf hw (h w' _ (I.tok _) rw')
  · subst ey
    cases (show u = Value.ref b from ry)
    obtain ⟨z, hd, xs, rel, dd⟩ := dt_rd I.hok e
    obtain ⟨w', hw, rw'⟩ := RelO.some_of (v := v) (o := (atKey xs k).map (·.2)) (by rw [l]; exact rel.val k)
    obtain ⟨p, hp, hp2⟩ := Option.map_eq_some_iff.mp hw
    refine wpAny_getItem_heap (tupleKind_room_in1 hu) (key_of I.hok eb) dd hp ?_
    rw [hp2]
    exact h w' _ (I.tok _) rw'
theorem d_write {h' : Heap} {t' : Nat} {ob : HO} (I : Inv X pins σ H s) (mu : Mut (H a)) (hs : Heap.SameBut a s.heap h') (he : ∃ q, h'.get? a = some q) (new : ObjOk X.prog X.w (upd H a ob) h' a ob) :
    Inv X pins σ (upd H a ob) { s with heap := h', toks := t' } :=
  I.write (x := a) (e := a) mu (.inl rfl) (fun b q hb z => (hs.2 b hb).trans z) he new
theorem dk_new {P : Program} {w : World} {H' : Hp} {h' : Heap} {kvs : List (Key × V)} {vs : List (Key × Value)} (z : kvs.length ≤ sizeLine) (hd : (a == sysModules) = false) (rel : KV kvs vs) (dd : h'.DictOf (mixKind P w) a vs) :
    ObjOk P w H' h' a (.dK kvs) := ⟨z, hd, vs, rel, dd⟩
theorem d_setItem {H' : Hp} {Q : Unit → Shared → Prop} (hu : A.units + 1 < cLine) (I : Inv X pins σ H s) (g : DPut H a y v H') (ry : RelV y u) (rv : RelV v r) (h : ∀ s', Inv X pins σ H' s' → Q () s') :
    wpAny (model X.prog X.w) A (setItem (.ref a) u r) Q E s := by
  rcases g with ⟨kvs, k, e, ey, l, eH⟩ | ⟨kvs, k, b, e, ey, eb, l, eH⟩
  · subst ey eH
    obtain ⟨z, hd, vs, rel, dd⟩ := dk_of I.hok e
    have hz : vs.length ≤ sizeLine := by rw [← rel.length]; exact z
    have hl : (putK kvs k v).length ≤ sizeLine := by have := length_putK kvs k v; omega
    refine wpAny_setItem_pairs (hsz := hz) (kV_is ry) dd fun h' dd' hs => h _ ?_
    have he : ∃ q, h'.get? a = some q := let ⟨q, _, _, hq, _⟩ := dd'; ⟨q, hq⟩
    exact d_write I (by rw [e]; exact True.intro) hs he (dk_new hl hd (rel.put k rv) dd')
  · subst ey eH
    cases (show u = Value.ref b from ry)
    obtain ⟨z, hd, xs, rel, dd⟩ := dt_of I.hok e
    have hz : xs.length ≤ sizeLine := by rw [← Paired.length rel]; exact z
    have hl : (putK kvs k v).length ≤ sizeLine := by have := length_putK kvs k v; omega
    refine wpAny_setItem_heap (hsz := hz) (tupleKind_room_in1 hu) (key_of I.hok eb) dd fun h' dd' hs => h _ ?_
    obtain ⟨q, es, ep, hq, h2, h3, h4, _, h5⟩ := dd'
    refine d_write I (by rw [e]; exact True.intro) hs ⟨q, hq⟩ ⟨hl, hd, _, (rel.put k eb rv).keeps fun c ys ec => ?_, q, es, ep, hq, h2, h3, h4, h5⟩
    rw [upd_ne (ne_of ec e (fun z => nomatch z))]
    exact ec
end
section
variable {X : Cx} {pins : List (Addr × Obj)} {σ : St} {H : Hp} {s : Shared} {a : Addr} {kvs : List (Key × V)} {k : Key} {u : Value} {A : Around} {E : Value → Shared → Prop}
end
noncomputable def NoSl (i : Expr) : Prop := ∀ ov iv, subscripted i false ov iv = operate [ov, iv] (getItem ov iv)
theorem subD_of {prog : Program} {w : World} {A : Around} {E : Value → Shared → Prop} {s : Shared} {env : Env} {value slice : Expr} {pos : Pos} {T id : String} {Q : Value → Shared → Prop}
    (hl : typeLookup (.type T) "__getitem__" = pure (some (.builtin id))) (hs : NoSl slice)
    (h : wpAny (model prog w) A (eval value env) (fun o s₁ => wpAny (model prog w) A (eval slice env) (fun i s₂ => s₂.TypeIs o T ∧ wpAny (model prog w) A (getItem o i) Q E s₂) E s₁) E s) :
    wpAny (model prog w) A (eval (.Subscript value slice pos) env) Q E s := by
  refine Subscript_ (wpAny_mono h (fun o s₁ h₁ => wpAny_mono h₁ (fun i s₂ h₂ => ?_) fun _ _ x => x) fun _ _ x => x)
  obtain ⟨hT, h₂⟩ := h₂
  unfold subscriptTail
  refine wpAny_bind ?_
  rw [getitemInPython_of_ne hT.not_modules]
  refine wpAny_bind (wpAny_specialOf hT hl ?_)
  have fin : wpAny (model prog w) A (subscripted slice false o i) (fun r s₃ => wpAny (model prog w) A (letTemporaryGo value o r >>= fun _ => pure r) Q E s₃) E s₂ := by
    rw [hs o i]
    exact wpAny_operating (wpAny_mono h₂ (fun r s₃ h₃ => wpAny_bind (wpAny_letTemporaryGo (wpAny_pure h₃))) fun _ _ x => x)
  first
    | exact wpAny_pure (wpAny_bind fin)
    | exact wpAny_bind (wpAny_pure (wpAny_bind fin))
    | exact wpAny_bind fin
theorem dict_typeIs {X : Cx} {pins : List (Addr × Obj)} {σ : St} {H : Hp} {s : Shared} {a : Addr} {y : V} {o : Option V} (I : Inv X pins σ H s) (g : DGet H a y o) : s.TypeIs (.ref a) "dict" := by
  rcases g with ⟨kvs, k, e, _, _⟩ | ⟨kvs, k, b, e, _, _, _⟩
  · obtain ⟨_, _, vs, _, dd⟩ := dk_rd I.hok e
    exact dd.typeIs
  · obtain ⟨_, _, xs, _, dd⟩ := dt_rd I.hok e
    exact dd.typeIs
noncomputable def tDGet (td ty : TE) : TE := fun σ H Q => td σ H fun x H1 => ty σ H1 fun y H2 => ∃ a v, x = .ref a ∧ DGet H2 a y (some v) ∧ Q v H2
noncomputable def sDPut (td ty tv : TE) : TS := fun D σ H => tv σ H fun v H1 => td σ H1 fun x H2 => ty σ H2 fun y H3 => ∃ a H4, x = .ref a ∧ DPut H3 a y v H4 ∧ D.nx σ H4
section
variable {X : Cx} {o i e value : Expr} {pos pos' tpos : Pos} {td ty tv : TE}
theorem pe_dget (hu : X.A.units + 1 < cLine) (ho : PE X o td) (hi : PE X i ty) (hs : NoSl i) : PE X (.Subscript o i pos) (tDGet td ty) := by
  intro pins s σ H Q I h
  refine subD_of PySem.F.slot_dict_getitem.lookup hs (thn (ho pins s σ H _ I h) fun u s1 ⟨x, H1, I1, rx, q1⟩ => thn (hi pins s1 σ H1 _ I1 q1) fun iv s2 ⟨y, H2, I2, ry, a, v, ex, g, q2⟩ => ?_)
  subst ex
  obtain rfl : u = Value.ref a := rx
  exact ⟨dict_typeIs I2 g, d_getItem hu I2 g ry fun w' s3 I3 rw' => ⟨v, H2, I3, rw', q2⟩⟩
theorem ps_dput (hu : X.A.units + 1 < cLine) (ho : PE X o td) (hi : PE X i ty) (hv : PE X value tv) (hs : swapsWith value (some (.Subscript o i pos')) pos.line X.env = pure false) :
    PS X (.Assign [.Subscript o i pos'] value pos) (sDPut td ty tv) := by
  intro pins s σ H D I h
  refine wpAny_Assign_Subscript (thn (hv pins s σ H _ I h) fun r s1 ⟨v, H1, I1, rv, q1⟩ => thn (ho pins s1 σ H1 _ I1 q1) fun u s2 ⟨x, H2, I2, rx, q2⟩ => thn (hi pins s2 σ H2 _ I2 q2) fun iv s3 ⟨y, H3, I3, ry, a, H4, ex, g, q3⟩ => ?_) hs
  subst ex
  obtain rfl : u = Value.ref a := rx
  exact d_setItem hu I3 g ry rv fun s4 I4 => ⟨σ, H4, I4, q3⟩
end
theorem dk_empty {P : Program} {w : World} {H : Hp} (h : Heap) (hb : sysModules < h.objs.size) : ObjOk P w H (h.push { cls := .type "dict", data := .dict #[] }) h.objs.size (.dK []) :=
  ⟨Nat.zero_le _, beq_eq_false_iff_ne.mpr (Ne.symm (Nat.ne_of_lt hb)), [], .nil, Heap.DictOf.new h⟩
section
variable {X : Cx} {pos : Pos}
end
noncomputable def tPairs : List (TE × TE) → St → Hp → (List (V × V) → Hp → Prop) → Prop
  | [], _, H, Q => Q [] H
  | (tk, tv) :: r, σ, H, Q => tk σ H fun x H1 => tv σ H1 fun y H2 => tPairs r σ H2 fun ps H3 => Q ((x, y) :: ps) H3
noncomputable abbrev VV : List (V × V) → List (Value × Value) → Prop := Paired fun p q => RelV p.1 q.1 ∧ RelV p.2 q.2
noncomputable def PPs (X : Cx) (pos : Pos) (keys : List (Option Expr)) (values : List Expr) (trs : List (TE × TE)) : Prop :=
  ∀ (pins : List (Addr × Obj)) (s : Shared) (σ : St) (H : Hp) (Q : List (V × V) → Hp → Prop), Inv X pins σ H s → tPairs trs σ H Q →
    wpAny (model X.prog X.w) X.A (evalPairs (pairTrees keys values X.env pos)) (fun vs s' => ∃ ps H', Inv X pins σ H' s' ∧ VV ps vs ∧ Q ps H') X.xe s
theorem pps_nil {X : Cx} {pos : Pos} : PPs X pos [] [] [] := fun pins s σ H Q I h => pairTrees_nil_walk ⟨[], H, I, .nil, h⟩
theorem pps_cons {X : Cx} {pos : Pos} {k v : Expr} {ks : List (Option Expr)} {vs : List Expr} {tk tv : TE} {trs : List (TE × TE)} (hk : PE X k tk) (hv : PE X v tv) (hr : PPs X pos ks vs trs) :
    PPs X pos (some k :: ks) (v :: vs) ((tk, tv) :: trs) := fun pins s σ H Q I h =>
  pairTrees_cons_walk (thn (hk pins s σ H _ I h) fun u s1 ⟨x, H1, I1, rx, q1⟩ => thn (hv pins s1 σ H1 _ I1 q1) fun w2 s2 ⟨y, H2, I2, ry, q2⟩ =>
    thn (hr pins s2 σ H2 _ I2 q2) fun ws s3 ⟨ps, H3, I3, rel, q3⟩ => ⟨(x, y) :: ps, H3, I3, .cons ⟨rx, ry⟩ rel, q3⟩)
noncomputable def mergeK (kvs more : List (Key × V)) : List (Key × V) := more.foldl (fun acc kv => putK acc kv.1 kv.2) kvs
theorem KV.merge : ∀ {more : List (Key × V)} {rs : List (Key × Value)} {kvs : List (Key × V)} {vs : List (Key × Value)}, KV more rs → KV kvs vs → KV (mergeK kvs more) (merged vs rs) := by
  intro more rs kvs vs r
  unfold KV at r
  induction r generalizing kvs vs with
  | nil => intro q; exact q
  | @cons p q ps qs h t ih =>
    intro r0
    have e : KV (putK kvs p.1 p.2) (stored vs q.1 q.2) := by
      have := r0.put p.1 h.2
      rw [← h.1]; exact this
    exact ih e
theorem length_mergeK : ∀ (more kvs : List (Key × V)), (mergeK kvs more).length ≤ kvs.length + more.length
  | [], kvs => by show kvs.length ≤ kvs.length + 0; omega
  | p :: r, kvs => by
    have h1 := length_mergeK r (putK kvs p.1 p.2)
    have h2 := length_putK kvs p.1 p.2
    show (mergeK (putK kvs p.1 p.2) r).length ≤ _
    rw [List.length_cons]; omega
theorem carries_of {P : Program} {w : World} : ∀ {kvs : List (Key × V)} {ws : List (Value × Value)}, VV (kvs.map fun kv => (kV kv.1, kv.2)) ws → ∃ rs, Carries (mixKind P w) ws rs ∧ KV kvs rs
  | [], _, r => by rw [List.map_nil] at r; cases r; exact ⟨[], True.intro, .nil⟩
  | p :: kvs, _, r => by
    rw [List.map_cons] at r
    cases r with
    | @cons a b as bs h t =>
      obtain ⟨rs, c, q⟩ := carries_of (P := P) (w := w) t
      obtain ⟨b1, b2⟩ := b
      exact ⟨(p.1, b2) :: rs, ⟨kV_is h.1, rfl, c⟩, .cons ⟨rfl, h.2⟩ q⟩
noncomputable def tDisp (trs : List (TE × TE)) : TE := fun σ H Q => ∀ p, H p = none → tPairs trs σ (upd H p (.dK [])) fun ps H2 => H2 p = some (.dK []) ∧ ∃ kvs : List (Key × V), ps = kvs.map (fun kv => (kV kv.1, kv.2)) ∧ kvs.length ≤ 15 ∧ Q (.ref p) (upd H2 p (.dK (mergeK [] kvs)))
theorem pe_disp {X : Cx} {pos : Pos} {keys : List (Option Expr)} {values : List Expr} {trs : List (TE × TE)} (h : PPs X pos keys values trs) (hall : keys.all (·.isSome) = true) (hl : keys.length = values.length) (h0 : keys ≠ [])
    (h15 : keys.length ≤ 15) : PE X (.Dict keys values pos) (tDisp trs) := by
  intro pins s σ H Q I q
  have hn := I.hok.fresh (Nat.le_refl s.heap.objs.size)
  have I1 := I.laid (a := s.heap.objs.size) (o := .dK []) (h' := s.heap.push { cls := .type "dict", data := .dict #[] }) (t' := s.toks) (fun _ _ q => Heap.get?_push_of_some _ q) (Nat.le_refl _) (dk_empty s.heap I.big)
  refine wpAny_Dict_walk (knd := mixKind X.prog X.w) hall hl h0 h15 (thn (h pins _ σ _ _ I1 (q _ hn)) fun ws s2 ⟨ps, H2, I2, rel, e, kvs, ep, lk, q2⟩ => ?_)
  subst ep
  obtain ⟨rs, c, rk⟩ := carries_of (P := X.prog) (w := X.w) rel
  obtain ⟨z, hd, vs0, r0, dd⟩ := dk_of I2.hok e
  cases r0
  refine ⟨rs, c, dd, fun h' dd' hs => ⟨.ref s.heap.objs.size, _, ?_, rfl, q2⟩⟩
  have hz : (mergeK [] kvs).length ≤ sizeLine := by
    have h1 := length_mergeK kvs []
    rw [List.length_nil] at h1
    rw [sizeLine_eq]; omega
  have he : ∃ q, h'.get? s.heap.objs.size = some q := let ⟨q, _, _, hq, _⟩ := dd'; ⟨q, hq⟩
  exact d_write I2 (by rw [e]; exact True.intro) hs he (dk_new hz hd (rk.merge .nil) dd')
structure M1 (X : Cx) (o : Expr) (m : Str) (apos : Pos) (e : Expr) (cpos : Pos) : Prop where
  base : attributeBase o m X.env (eval o X.env) = eval o X.env
  few : ((backTo cpos (starEach [e] X.env)).all (fun x => !x.1) && (backToKw cpos (keywordEach [] X.env)).all (fun x => x.1.isSome)
    && decide (([e] : List Expr).length + ([] : List Keyword).length + (if ([] : List Keyword).isEmpty then 0 else 1) < 30)) = true
  line : (apos.endLine == cpos.line) = true
  trees : backTo cpos (starEach [e] X.env) = [(false, eval e X.env)]
structure M2 (X : Cx) (o : Expr) (m : Str) (apos : Pos) (e f : Expr) (cpos : Pos) : Prop where
  base : attributeBase o m X.env (eval o X.env) = eval o X.env
  few : ((backTo cpos (starEach [e, f] X.env)).all (fun x => !x.1) && (backToKw cpos (keywordEach [] X.env)).all (fun x => x.1.isSome)
    && decide (([e, f] : List Expr).length + ([] : List Keyword).length + (if ([] : List Keyword).isEmpty then 0 else 1) < 30)) = true
  line : (apos.endLine == cpos.line) = true
  trees : backTo cpos (starEach [e, f] X.env) = [(false, eval e X.env), (false, eval f X.env)]
section
variable {X : Cx} {pins : List (Addr × Obj)} {σ : St} {H : Hp} {s : Shared} {a : Addr} {y d : V} {u r : Value} {o : Option V} {A : Around} {E : Value → Shared → Prop}
end
section
variable {X : Cx} {o e f : Expr} {apos cpos : Pos} {td ty tx : TE}
end
section
variable {X : Cx} {pins : List (Addr × Obj)} {σ : St} {H : Hp} {s : Shared} {a : Addr} {kvs : List (Key × V)} {A : Around} {E : Value → Shared → Prop}
end
section
variable {X : Cx} {pins : List (Addr × Obj)} {σ : St} {H : Hp} {s : Shared} {a : Addr} {y : V} {u : Value} {A : Around} {E : Value → Shared → Prop}
end
end L2
namespace P2
open PySem L2
inductive Z where
  | d (x : D) | loc (n : Nat)
inductive Cell where
  | li (zs : List Z) | ob (C : Addr) (fs : List (Str × Z)) | dk (kvs : List (Key × Z)) | dt (kvs : List (List Key × Z)) | no
noncomputable abbrev Sto := List Cell
noncomputable abbrev Lo := Nat → Option Addr
noncomputable abbrev ZEv := List (Option Z)
noncomputable def RepZ (K : PySem.W.Frag) (al : Addr → Prop) (lo : Lo) (H : Hp) (v : V) : Z → Prop
  | .d x => Rep K al H v x
  | .loc n => ∃ a, lo n = some a ∧ v = .ref a
inductive RepZs (K : PySem.W.Frag) (al : Addr → Prop) (lo : Lo) (H : Hp) : List V → List Z → Prop
  | nil : RepZs K al lo H [] []
  | cons {v : V} {z : Z} {vs : List V} {zs : List Z} : RepZ K al lo H v z → RepZs K al lo H vs zs → RepZs K al lo H (v :: vs) (z :: zs)
inductive RepK {κ : Type} (K : PySem.W.Frag) (al : Addr → Prop) (lo : Lo) (H : Hp) : List (κ × V) → List (κ × Z) → Prop
  | nil : RepK K al lo H [] []
  | cons {k : κ} {v : V} {z : Z} {vs : List (κ × V)} {zs : List (κ × Z)} : RepZ K al lo H v z → RepK K al lo H vs zs → RepK K al lo H ((k, v) :: vs) ((k, z) :: zs)
noncomputable def CellAt (K : PySem.W.Frag) (al : Addr → Prop) (lo : Lo) (H : Hp) (a : Addr) : Cell → Prop
  | .li zs => ∃ vs, H a = some (.lst vs) ∧ RepZs K al lo H vs zs
  | .ob C fs => ∃ dx us, H a = some (.ins C dx us) ∧ RepK K al lo H us fs
  | .dk kvs => ∃ us, H a = some (.dK us) ∧ RepK K al lo H us kvs
  | .dt kvs => ∃ us, H a = some (.dT us) ∧ RepK K al lo H us kvs
  | .no => False
structure StOk (K : PySem.W.Frag) (al : Addr → Prop) (lo : Lo) (H : Hp) (S : Sto) : Prop where
  at' : ∀ n a, lo n = some a → ∃ c, S[n]? = some c ∧ CellAt K al lo H a c
  has : ∀ n c, S[n]? = some c → c ≠ .no → ∃ a, lo n = some a
  na : ∀ n a, lo n = some a → ¬ al a
  inj : ∀ m n a, lo m = some a → lo n = some a → m = n
structure Z0 where
  H : Hp
  al : Addr → Prop
  lo : Lo
  n : Nat
structure EZ (K : PySem.W.Frag) (B : Z0) (al : Addr → Prop) (lo : Lo) (H : Hp) (S : Sto) : Prop where
  fr : ∀ b o, NT o → B.H b = some o → (∀ n, B.lo n ≠ some b) → H b = some o
  hf : ∀ b, H b = none → B.H b = none
  tt : TbOk K H
  fresh : ∀ a, H a = none → al a
  st : StOk K al lo H S
  lx : ∀ n a, B.lo n = some a → lo n = some a
  nw : ∀ n a, lo n = some a → B.lo n = some a ∨ (B.H a = none ∧ B.n ≤ n)
  bd : ∀ n a, B.lo n = some a → n < B.n
  sz : B.n ≤ S.length
  xt : Xt B.al B.H al H
  sb : ∀ a, al a → B.al a ∨ B.H a = none
structure RZ (K : PySem.W.Frag) (B : Z0) (al : Addr → Prop) (lo : Lo) (H : Hp) (σ : St) (ρ : ZEv) (S : Sto) : Prop extends EZ K B al lo H S where
  len : ρ.length = σ.length
  vr : ∀ (i : Nat) (z : Z), ρ[i]? = some (some z) → ∃ v, σ[i]? = some (some v) ∧ RepZ K al lo H v z
noncomputable def Lx (lo lo' : Lo) : Prop := ∀ n a, lo n = some a → lo' n = some a
theorem Lx.refl {lo : Lo} : Lx lo lo := fun _ _ h => h
theorem Lx.trans {lo lo1 lo2 : Lo} (x : Lx lo lo1) (y : Lx lo1 lo2) : Lx lo lo2 := fun n a h => y n a (x n a h)
section
variable {K : PySem.W.Frag} {al al' : Addr → Prop} {lo lo' : Lo} {H H' : Hp}
theorem RepZ.mv (x : Xt al H al' H') (y : Lx lo lo') {v : V} {z : Z} (r : RepZ K al lo H v z) : RepZ K al' lo' H' v z := by
  cases z with
  | d d => exact Rep.mv x r
  | loc n => obtain ⟨a, h1, h2⟩ := r; exact ⟨a, y n a h1, h2⟩
theorem RepZs.mv (x : Xt al H al' H') (y : Lx lo lo') {vs : List V} {zs : List Z} (r : RepZs K al lo H vs zs) : RepZs K al' lo' H' vs zs := by
  induction r with
  | nil => exact .nil
  | cons a _ ih => exact .cons (a.mv x y) ih
theorem RepK.mv {κ : Type} (x : Xt al H al' H') (y : Lx lo lo') {vs : List (κ × V)} {zs : List (κ × Z)} (r : RepK K al lo H vs zs) : RepK K al' lo' H' vs zs := by
  induction r with
  | nil => exact .nil
  | cons a _ ih => exact .cons (a.mv x y) ih
theorem RepZs.length {vs : List V} {zs : List Z} (r : RepZs K al lo H vs zs) : vs.length = zs.length := by
  induction r with
  | nil => rfl
  | cons _ _ ih => rw [List.length_cons, List.length_cons, ih]
theorem RepZs.append {vs ws : List V} {zs ys : List Z} (r : RepZs K al lo H vs zs) (q : RepZs K al lo H ws ys) : RepZs K al lo H (vs ++ ws) (zs ++ ys) := by
  induction r with
  | nil => exact q
  | cons a _ ih => exact .cons a ih
theorem RepZs.get {vs : List V} {zs : List Z} (r : RepZs K al lo H vs zs) {i : Nat} {z : Z} (e : zs[i]? = some z) : ∃ v, vs[i]? = some v ∧ RepZ K al lo H v z := by
  induction r generalizing i with
  | nil => simp at e
  | cons a _ ih =>
    cases i with
    | zero => simp at e; subst e; exact ⟨_, rfl, a⟩
    | succ i => simpa using ih (by simpa using e)
theorem RepZs.set {vs : List V} {zs : List Z} (r : RepZs K al lo H vs zs) {v : V} {z : Z} (q : RepZ K al lo H v z) (i : Nat) : RepZs K al lo H (vs.set i v) (zs.set i z) := by
  induction r generalizing i with
  | nil => exact .nil
  | cons a b ih =>
    cases i with
    | zero => exact .cons q b
    | succ i => exact .cons a (ih i)
theorem RepZs.ofD {vs : List V} {ds : List D} (r : Reps K al H vs ds) : RepZs K al lo H vs (ds.map .d) := by
  induction ds generalizing vs with
  | nil => cases r; exact .nil
  | cons d ds ih => cases r with | cons a b => exact .cons a (ih b)
theorem RepZs.toD {vs : List V} {ds : List D} (r : RepZs K al lo H vs (ds.map .d)) : Reps K al H vs ds := by
  induction ds generalizing vs with
  | nil => cases r; exact .nil
  | cons d ds ih => cases r with | cons a b => exact .cons a (ih b)
theorem CellAt.mv (x : Xt al H al' H') (y : Lx lo lo') {a : Addr} {c : Cell} (e : ∀ o, NT o → H a = some o → H' a = some o) (r : CellAt K al lo H a c) : CellAt K al' lo' H' a c := by
  cases c with
  | li zs => obtain ⟨vs, h1, h2⟩ := r; exact ⟨vs, e _ nt_lst h1, h2.mv x y⟩
  | ob C fs => obtain ⟨dx, us, h1, h2⟩ := r; exact ⟨dx, us, e _ (fun _ h => nomatch h) h1, h2.mv x y⟩
  | dk kvs => obtain ⟨us, h1, h2⟩ := r; exact ⟨us, e _ (fun _ h => nomatch h) h1, h2.mv x y⟩
  | dt kvs => obtain ⟨us, h1, h2⟩ := r; exact ⟨us, e _ (fun _ h => nomatch h) h1, h2.mv x y⟩
  | no => exact r
theorem CellAt.isO {a : Addr} {c : Cell} (r : CellAt K al lo H a c) : H a ≠ none ∧ (∀ ps, H a ≠ some (.tbl ps)) ∧ (∀ q, H a ≠ some (CodeO a q)) := by
  cases c with
  | li zs => obtain ⟨vs, h1, h2⟩ := r; rw [h1]; exact ⟨nofun, fun _ => nofun, fun _ w => by unfold CodeO at w; exact nomatch w⟩
  | ob C fs => obtain ⟨dx, us, h1, h2⟩ := r; rw [h1]; exact ⟨nofun, fun _ => nofun, fun _ w => by unfold CodeO at w; exact nomatch w⟩
  | dk kvs => obtain ⟨us, h1, h2⟩ := r; rw [h1]; exact ⟨nofun, fun _ => nofun, fun _ w => by unfold CodeO at w; exact nomatch w⟩
  | dt kvs => obtain ⟨us, h1, h2⟩ := r; rw [h1]; exact ⟨nofun, fun _ => nofun, fun _ w => by unfold CodeO at w; exact nomatch w⟩
  | no => exact r.elim
end
section
variable {K : PySem.W.Frag} {B : Z0} {al : Addr → Prop} {lo : Lo} {H H' : Hp} {σ : St} {ρ : ZEv} {S : Sto}
theorem EZ.start {zs : List Z} (tt : TbOk K H) (fr : ∀ a, H a = none → al a) (st : StOk K al lo H S) : EZ K ⟨H, al, lo, S.length⟩ al lo H S where
  fr := fun _ _ _ h _ => h
  hf := fun _ h => h
  tt := tt
  fresh := fr
  st := st
  lx := fun _ _ h => h
  nw := fun _ _ h => .inl h
  bd := fun n a h => by obtain ⟨c, e, _⟩ := st.at' n a h; exact (List.getElem?_eq_some_iff.mp e).1
  sz := Nat.le_refl _
  xt := .refl
  sb := fun _ h => .inl h
theorem EZ.grow (r : EZ K B al lo H S) (s : Same K H H') : EZ K B al lo H' S where
  fr := fun b o n h w => s.at' b o n (r.fr b o n h w)
  hf := fun b h => r.hf b (s.fr b h)
  tt := s.tt r.tt
  fresh := fun a h => r.fresh a (s.fr a h)
  st := {
    at' := fun n a h => by obtain ⟨c, e, q⟩ := r.st.at' n a h; exact ⟨c, e, q.mv (.of s) .refl fun o no h => s.at' _ o no h⟩
    has := r.st.has
    na := r.st.na
    inj := r.st.inj }
  lx := r.lx
  nw := r.nw
  bd := r.bd
  sz := r.sz
  xt := r.xt.trans (.of s)
  sb := r.sb
theorem RZ.grow (r : RZ K B al lo H σ ρ S) (s : Same K H H') : RZ K B al lo H' σ ρ S :=
  ⟨r.toEZ.grow s, r.len, fun i z e => let ⟨v, h1, h2⟩ := r.vr i z e; ⟨v, h1, h2.mv (.of s) .refl⟩⟩
noncomputable def purS : Option Z → Sl
  | some (.d x) => .sh x
  | _ => .no
noncomputable def pur (ρ : ZEv) : Ev := ρ.map purS
theorem RZ.rs (r : RZ K B al lo H σ ρ S) : RS K al H al H σ (pur ρ) where
  same := .refl H
  tt := r.tt
  fresh := r.fresh
  sub := fun _ h => h
  pf := r.fresh
  len := by unfold pur; rw [List.length_map]; exact r.len
  sh := fun i d h => by
    unfold pur at h
    rw [List.getElem?_map] at h
    obtain ⟨z, h1, h2⟩ := Option.map_eq_some_iff.mp h
    cases z with
    | none => cases h2
    | some z =>
      cases z with
      | d x => cases h2; exact r.vr i _ h1
      | loc n => cases h2
  ow := fun i ds h => by
    unfold pur at h
    rw [List.getElem?_map] at h
    obtain ⟨z, h1, h2⟩ := Option.map_eq_some_iff.mp h
    cases z with
    | none => cases h2
    | some z => cases z <;> cases h2
  apart := fun i j ds ds' a h _ _ _ => by
    unfold pur at h
    rw [List.getElem?_map] at h
    obtain ⟨z, h1, h2⟩ := Option.map_eq_some_iff.mp h
    cases z with
    | none => cases h2
    | some z => cases z <;> cases h2
theorem RZ.set (r : RZ K B al lo H σ ρ S) {i : Nat} {v : V} {z : Z} (hi : i < ρ.length) (q : RepZ K al lo H v z) : RZ K B al lo H (σ.set i (some v)) (ρ.set i (some z)) S where
  toEZ := r.toEZ
  len := by rw [List.length_set, List.length_set]; exact r.len
  vr := fun j e h => by
    by_cases w : i = j
    · subst w
      rw [List.getElem?_set_self hi] at h; cases h
      exact ⟨v, List.getElem?_set_self (by rw [← r.len]; exact hi), q⟩
    · rw [List.getElem?_set_ne w] at h
      obtain ⟨u, a, b⟩ := r.vr j e h
      exact ⟨u, by rw [List.getElem?_set_ne w]; exact a, b⟩
theorem RZ.drop (r : RZ K B al lo H σ ρ S) {i : Nat} {u : Option V} : RZ K B al lo H (σ.set i u) (ρ.set i none) S where
  toEZ := r.toEZ
  len := by rw [List.length_set, List.length_set]; exact r.len
  vr := fun j e h => by
    by_cases w : i = j
    · subst w
      by_cases hi : i < ρ.length
      · rw [List.getElem?_set_self hi] at h; cases h
      · rw [List.getElem?_eq_none (by rw [List.length_set]; omega)] at h; cases h
    · rw [List.getElem?_set_ne w] at h
      obtain ⟨u, a, b⟩ := r.vr j e h
      exact ⟨u, by rw [List.getElem?_set_ne w]; exact a, b⟩
noncomputable def loNew (lo : Lo) (n : Nat) (p : Addr) : Lo := fun m => if m = n then some p else lo m
theorem StOk.none (st : StOk K al lo H S) : lo S.length = Option.none := by
  cases h : lo S.length with
  | none => rfl
  | some a =>
    obtain ⟨c, e, _⟩ := st.at' _ a h
    have := (List.getElem?_eq_some_iff.mp e).1
    omega
theorem loNew_x (st : StOk K al lo H S) (p : Addr) : Lx lo (loNew lo S.length p) := fun n a h => by
  unfold loNew
  rw [if_neg]
  · exact h
  · intro w; rw [w, st.none] at h; cases h
theorem xt_new {p : Addr} {o : HO} (hp : H p = none) : Xt al H (fun b => al b ∧ b ≠ p) (upd H p o) := fun b u _ hb e => ⟨⟨hb, ne_of_none e hp⟩, by rw [upd_ne (ne_of_none e hp)]; exact e⟩
theorem EZ.new (r : EZ K B al lo H S) {p : Addr} {o : HO} {c : Cell} (hp : H p = none) (no : NT o) (hc : CellAt K (fun b => al b ∧ b ≠ p) (loNew lo S.length p) (upd H p o) p c) (cn : c ≠ .no) :
    EZ K B (fun b => al b ∧ b ≠ p) (loNew lo S.length p) (upd H p o) (S ++ [c]) := by
  have s : Same K H (upd H p o) := same_upd hp
  have x : Xt al H (fun b => al b ∧ b ≠ p) (upd H p o) := xt_new hp
  have g := r.grow s
  refine ⟨g.fr, g.hf, g.tt, fun a h => ⟨g.fresh a h, fun w => by rw [w, upd_same] at h; cases h⟩, ⟨fun n a h => ?_, fun n c' h w => ?_, fun n a h w => ?_, fun m n a h1 h2 => ?_⟩, fun n a h => loNew_x r.st p n a (r.lx n a h), fun n a h => ?_, r.bd, by rw [List.length_append]; have := r.sz; omega, r.xt.trans x, fun b hb => r.sb b hb.1⟩
  · unfold loNew at h
    by_cases w : n = S.length
    · rw [if_pos w] at h; cases h
      exact ⟨c, by rw [w]; simp, hc⟩
    · rw [if_neg w] at h
      obtain ⟨c', e, q⟩ := r.st.at' n a h
      have ne : a ≠ p := fun z => q.isO.1 (by rw [z]; exact hp)
      exact ⟨c', by rw [List.getElem?_append_left (List.getElem?_eq_some_iff.mp e).1]; exact e, q.mv x (loNew_x r.st p) fun u _ h => by rw [upd_ne ne]; exact h⟩
  · by_cases z : n < S.length
    · rw [List.getElem?_append_left z] at h
      obtain ⟨a, h1⟩ := r.st.has n c' h w
      exact ⟨a, loNew_x r.st p n a h1⟩
    · have : n = S.length := by
        have := (List.getElem?_eq_some_iff.mp h).1
        rw [List.length_append, List.length_singleton] at this
        omega
      exact ⟨p, by unfold loNew; rw [if_pos this]⟩
  · unfold loNew at h
    by_cases z : n = S.length
    · rw [if_pos z] at h; cases h; exact w.2 rfl
    · rw [if_neg z] at h; exact r.st.na n a h w.1
  · have old : ∀ k b, lo k = some b → b ≠ p := fun k b hk z => by
      obtain ⟨c', _, q⟩ := r.st.at' k b hk
      exact q.isO.1 (by rw [z]; exact hp)
    unfold loNew at h1 h2
    by_cases z : m = S.length
    · rw [if_pos z] at h1; cases h1
      by_cases y : n = S.length
      · omega
      · rw [if_neg y] at h2; exact absurd rfl (old n _ h2)
    · rw [if_neg z] at h1
      by_cases y : n = S.length
      · rw [if_pos y] at h2; cases h2; exact absurd rfl (old m _ h1)
      · rw [if_neg y] at h2; exact r.st.inj m n a h1 h2
  · unfold loNew at h
    by_cases z : n = S.length
    · rw [if_pos z] at h; cases h; exact .inr ⟨r.hf _ hp, by rw [z]; exact r.sz⟩
    · rw [if_neg z] at h; exact r.nw n a h
theorem RZ.new (r : RZ K B al lo H σ ρ S) {p : Addr} {o : HO} {c : Cell} (hp : H p = none) (no : NT o) (hc : CellAt K (fun b => al b ∧ b ≠ p) (loNew lo S.length p) (upd H p o) p c) (cn : c ≠ .no) :
    RZ K B (fun b => al b ∧ b ≠ p) (loNew lo S.length p) (upd H p o) σ ρ (S ++ [c]) :=
  ⟨r.toEZ.new hp no hc cn, r.len, fun i z e => let ⟨v, h1, h2⟩ := r.vr i z e; ⟨v, h1, h2.mv (xt_new hp) (loNew_x r.st p)⟩⟩
theorem EZ.write (r : EZ K B al lo H S) {n : Nat} {a : Addr} {o : HO} {c : Cell} (hn : lo n = some a) (no : NT o) (nc : ∀ q, o ≠ CodeO a q) (hc : CellAt K al lo (upd H a o) a c) (cn : c ≠ .no) : EZ K B al lo (upd H a o) (S.set n c) ∧ Xt al H al (upd H a o) := by
  obtain ⟨c0, e0, q0⟩ := r.st.at' n a hn
  have hl : n < S.length := (List.getElem?_eq_some_iff.mp e0).1
  have na := r.st.na n a hn
  have x : Xt al H al (upd H a o) := fun b u _ hb e => ⟨hb, by rw [upd_ne fun w => na (by rw [← w]; exact hb)]; exact e⟩
  refine ⟨⟨fun b u nu h w => ?_, fun b h => ?_, r.tt.upd q0.isO.2.1 q0.isO.2.2, fun b h => ?_, ⟨fun m b h => ?_, fun m c' h w => ?_, r.st.na, r.st.inj⟩, r.lx, r.nw, r.bd, by rw [List.length_set]; exact r.sz, r.xt.trans x, r.sb⟩, x⟩
  · have := r.fr b u nu h w
    by_cases z : b = a
    · subst z
      rcases r.nw n b hn with q | q
      · exact absurd q (w n)
      · rw [q.1] at h; cases h
    · rw [upd_ne z]; exact this
  · by_cases z : b = a
    · rw [z, upd_same] at h; cases h
    · rw [upd_ne z] at h; exact r.hf b h
  · by_cases z : b = a
    · rw [z, upd_same] at h; cases h
    · rw [upd_ne z] at h; exact r.fresh b h
  · by_cases z : n = m
    · subst z
      rw [hn] at h; cases h
      exact ⟨c, List.getElem?_set_self hl, hc⟩
    · obtain ⟨c', e, q⟩ := r.st.at' m b h
      refine ⟨c', by rw [List.getElem?_set_ne z]; exact e, q.mv x .refl fun u _ h' => ?_⟩
      rw [upd_ne fun w => z (r.st.inj n m a hn (by rw [← w]; exact h))]; exact h'
  · by_cases z : n = m
    · subst z; exact ⟨a, hn⟩
    · rw [List.getElem?_set_ne z] at h; exact r.st.has m c' h w
theorem RZ.write (r : RZ K B al lo H σ ρ S) {n : Nat} {a : Addr} {o : HO} {c : Cell} (hn : lo n = some a) (no : NT o) (nc : ∀ q, o ≠ CodeO a q) (hc : CellAt K al lo (upd H a o) a c) (cn : c ≠ .no) : RZ K B al lo (upd H a o) σ ρ (S.set n c) ∧ Xt al H al (upd H a o) :=
  let ⟨e, x⟩ := r.toEZ.write hn no nc hc cn
  ⟨⟨e, r.len, fun i z e => let ⟨v, h1, h2⟩ := r.vr i z e; ⟨v, h1, h2.mv x .refl⟩⟩, x⟩
end
end P2
namespace P2
open PySem L2
inductive RX (α : Type) where
  | ok (a : α) (S : Sto) | ex (c : Addr) (ns : List Str) (ds : List D) (S : Sto) | bad
noncomputable def RX.bind {α β : Type} : RX α → (α → Sto → RX β) → RX β
  | .ok a S, f => f a S
  | .ex c ns ds S, _ => .ex c ns ds S
  | .bad, _ => .bad
noncomputable def upR {α : Type} (r : R α) (S : Sto) : RX α := match r with
  | .ok a => .ok a S
  | .ex c ns ds => .ex c ns ds S
  | .bad => .bad
noncomputable def AftZ {α : Type} (K : PySem.W.Frag) (B : Z0) (E : XK) (al : Addr → Prop) (lo : Lo) (H : Hp) (σ : St) (ρ : ZEv) (r : RX α) (k : α → (Addr → Prop) → Lo → Hp → Sto → Prop) : Prop := match r with
  | .ok x S' => ∀ al' lo' H', RZ K B al' lo' H' σ ρ S' → Xt al H al' H' → Lx lo lo' → k x al' lo' H' S'
  | .ex c ns ds S' => ∀ al' lo' H' dx, EZ K B al' lo' H' S' → XR K al' H' dx ns ds → E (.ref c) dx H'
  | .bad => False
section
variable {α β : Type} {K : PySem.W.Frag} {B : Z0} {E : XK} {al al' : Addr → Prop} {lo lo' : Lo} {H H' : Hp} {σ : St} {ρ : ZEv} {S S' : Sto} {k k' : α → (Addr → Prop) → Lo → Hp → Sto → Prop}
theorem AftZ.up {r : RX α} (h : AftZ K B E al lo H σ ρ r k) (x : Xt al H al' H') (y : Lx lo lo') : AftZ K B E al' lo' H' σ ρ r k := by
  cases r with
  | ok a S => exact fun al2 lo2 H2 z x2 y2 => h al2 lo2 H2 z (x.trans x2) (y.trans y2)
  | ex c ns ds S => exact h
  | bad => exact h
theorem AftZ.mono {r : RX α} (h : AftZ K B E al lo H σ ρ r k) (m : ∀ x al' lo' H' S', RZ K B al' lo' H' σ ρ S' → Xt al H al' H' → Lx lo lo' → k x al' lo' H' S' → k' x al' lo' H' S') : AftZ K B E al lo H σ ρ r k' := by
  cases r with
  | ok a S => exact fun al2 lo2 H2 z x2 y2 => m _ _ _ _ _ z x2 y2 (h al2 lo2 H2 z x2 y2)
  | ex c ns ds S => exact h
  | bad => exact h
theorem AftZ.split {r : RX α} {g : α → Sto → RX β} {k : β → (Addr → Prop) → Lo → Hp → Sto → Prop} (h : AftZ K B E al lo H σ ρ (r.bind g) k) : AftZ K B E al lo H σ ρ r (fun x al' lo' H' S' => AftZ K B E al' lo' H' σ ρ (g x S') k) := by
  cases r with
  | ok a S => exact fun al2 lo2 H2 z x2 y2 => AftZ.up h x2 y2
  | ex c ns ds S => exact h
  | bad => exact h
theorem AftZ.toAft {r : R α} (z : RZ K B al lo H σ ρ S) (h : AftZ K B E al lo H σ ρ (upR r S) k) : Aft K al E H r (fun x H' => k x al lo H' S) := by
  cases r with
  | ok a => exact fun H1 s1 => h al lo H1 (z.grow s1) (.of s1) .refl
  | ex c ns ds => exact fun dx H1 s1 q => h al lo H1 dx (z.toEZ.grow s1) q
  | bad => exact h
end
noncomputable def ZE (X : Cx) (E : XK) (e : Expr) (f : ZEv → Sto → RX Z) : Prop := ∃ t : TE, PE X e t ∧
  ∀ B al lo H σ ρ S (Q : VK), RZ X.K B al lo H σ ρ S → AftZ X.K B E al lo H σ ρ (f ρ S) (fun z al' lo' H' _ => ∀ v, RepZ X.K al' lo' H' v z → Q v H') → t σ H Q
noncomputable def ZT (X : Cx) (E : XK) (e : Expr) (f : ZEv → Sto → RX Bool) : Prop := ∃ t : TT, PT X e t ∧
  ∀ B al lo H σ ρ S (Q : Bool → Hp → Prop), RZ X.K B al lo H σ ρ S → AftZ X.K B E al lo H σ ρ (f ρ S) (fun b _ _ H' _ => Q b H') → t σ H Q
noncomputable def ZA (X : Cx) (E : XK) (es : List Expr) (f : ZEv → Sto → RX (List Z)) : Prop := ∃ t : TA, PA X es t ∧
  (∀ B al lo H σ ρ S (Q : List V → Hp → Prop), RZ X.K B al lo H σ ρ S → AftZ X.K B E al lo H σ ρ (f ρ S) (fun zs al' lo' H' _ => ∀ vs, RepZs X.K al' lo' H' vs zs → Q vs H') → t σ H Q) ∧ ∀ ρ S zs S', f ρ S = .ok zs S' → zs.length = es.length
noncomputable def zD (f : Ev → R D) : ZEv → Sto → RX Z := fun ρ S => (upR (f (pur ρ)) S).bind fun d S => .ok (.d d) S
noncomputable def zB (f : Ev → R Bool) : ZEv → Sto → RX Bool := fun ρ S => upR (f (pur ρ)) S
noncomputable def zV (i : Nat) : ZEv → Sto → RX Z := fun ρ S => match ρ[i]? with
  | some (some z) => .ok z S
  | _ => .bad
noncomputable def asDs : List Z → Option (List D)
  | [] => some []
  | .d x :: r => (asDs r).map (x :: ·)
  | _ :: _ => none
theorem asDs_map : ∀ {zs : List Z} {ds : List D}, asDs zs = some ds → zs = ds.map .d
  | [], _, h => by cases h; rfl
  | .d x :: r, ds, h => by
    obtain ⟨t, h1, h2⟩ := Option.map_eq_some_iff.mp (show (asDs r).map (x :: ·) = some ds from h)
    subst h2
    rw [List.map_cons, ← asDs_map h1]
  | .loc _ :: _, _, h => by cases h
theorem asDs_of : ∀ ds : List D, asDs (ds.map .d) = some ds
  | [] => rfl
  | d :: r => by show (asDs (r.map .d)).map (d :: ·) = _; rw [asDs_of r]; rfl
noncomputable def z1 (g : D → R D) (a : ZEv → Sto → RX Z) : ZEv → Sto → RX Z := fun ρ S => (a ρ S).bind fun x S1 => match x with
  | .d x => (upR (g x) S1).bind fun d S => .ok (.d d) S
  | _ => .bad
noncomputable def z2 (g : D → D → R D) (a b : ZEv → Sto → RX Z) : ZEv → Sto → RX Z := fun ρ S => (a ρ S).bind fun x S1 => (b ρ S1).bind fun y S2 => match x, y with
  | .d x, .d y => (upR (g x y) S2).bind fun d S => .ok (.d d) S
  | _, _ => .bad
noncomputable def zTst (t : D → R Bool) (a : ZEv → Sto → RX Z) : ZEv → Sto → RX Bool := fun ρ S => (a ρ S).bind fun x S1 => match x with
  | .d x => upR (t x) S1
  | _ => .bad
noncomputable def zAndB (a b : ZEv → Sto → RX Bool) : ZEv → Sto → RX Bool := fun ρ S => (a ρ S).bind fun k S1 => if k = true then b ρ S1 else .ok false S1
noncomputable def zNil : ZEv → Sto → RX (List Z) := fun _ S => .ok [] S
noncomputable def zCons (a : ZEv → Sto → RX Z) (r : ZEv → Sto → RX (List Z)) : ZEv → Sto → RX (List Z) := fun ρ S => (a ρ S).bind fun x S1 => (r ρ S1).bind fun xs S2 => .ok (x :: xs) S2
noncomputable def zF (g : List D → R D) (a : ZEv → Sto → RX (List Z)) : ZEv → Sto → RX Z := fun ρ S => (a ρ S).bind fun zs S1 => match asDs zs with
  | some ds => (upR (g ds) S1).bind fun d S => .ok (.d d) S
  | none => .bad
noncomputable def zZ (F : List Z → Sto → RX Z) (a : ZEv → Sto → RX (List Z)) : ZEv → Sto → RX Z := fun ρ S => (a ρ S).bind F
section
variable {X : Cx} {E : XK} {e a b c : Expr} {es rest : List Expr} {pos : Pos} {f fa fb : ZEv → Sto → RX Z} {ga gb : ZEv → Sto → RX Bool} {fs : ZEv → Sto → RX (List Z)}
theorem ze_lift {f : Ev → R D} (h : DE X E e f) : ZE X E e (zD f) := by
  obtain ⟨t, p, r⟩ := h
  refine ⟨t, p, fun B al lo H σ ρ S Q z h => r _ _ _ _ _ _ _ z.rs ?_⟩
  have := AftZ.toAft z (AftZ.split h)
  exact Aft.mono this fun d H1 s1 h1 v rv => h1 al lo H1 (z.grow s1) .refl .refl v rv
theorem zt_lift {f : Ev → R Bool} (h : DT X E e f) : ZT X E e (zB f) := by
  obtain ⟨t, p, r⟩ := h
  exact ⟨t, p, fun B al lo H σ ρ S Q z h => r _ _ _ _ _ _ _ z.rs (AftZ.toAft z h)⟩
theorem ze_var (i : Nat) {x : Str} (hN : X.N[i]? = some x := by rfl) (hv : Vis X.env.scope x := by first | exact Or.inl rfl | exact Or.inr (Or.inl rfl) | exact Or.inr (Or.inr rfl)) (hd : (x == ("__debug__" : Str)) = false := by decide)
    (hcd : (x == ("__classdict__" : Str)) = false := by decide) : ZE X E (.Name x pos) (zV i) := by
  refine ⟨_, pe_var hN hv hd hcd, fun B al lo H σ ρ S Q z h => ?_⟩
  unfold zV at h
  split at h
  · rename_i z0 q
    obtain ⟨v, e1, e2⟩ := z.vr i z0 q
    exact ⟨v, e1, h al lo H z .refl .refl v e2⟩
  · exact h.elim
theorem ze_op {op : Operator} {g : D → D → R D} (ho : OpD X E (binaryOp op) g) (ha : ZE X E a fa) (hb : ZE X E b fb) : ZE X E (.BinOp a op b pos) (z2 g fa fb) := by
  obtain ⟨r, ro, rr⟩ := ho
  obtain ⟨ta, pa, ra⟩ := ha
  obtain ⟨tb, pb, rb⟩ := hb
  refine ⟨_, pe_op ro pa pb, fun B al lo H σ ρ S Q s h => ra _ _ _ _ _ _ _ _ s (AftZ.mono (AftZ.split h) fun x al1 lo1 H1 S1 s1 x1 y1 h1 v rv => rb _ _ _ _ _ _ _ _ s1 (AftZ.mono (AftZ.split h1) fun y al2 lo2 H2 S2 s2 x2 y2 h2 u ru => ?_))⟩
  split at h2
  · exact rr _ _ _ _ _ _ _ s2.fresh (RepZ.mv x2 y2 rv) ru (Aft.mono (AftZ.toAft s2 (AftZ.split h2)) fun d H3 s3 h3 w rw' => h3 al2 lo2 H3 (s2.grow s3) .refl .refl w rw')
  · exact h2.elim
theorem zt_cmp {op : CmpOp} {g : D → D → R D} (ho : OpD X E (compareOp op) g) (ha : ZE X E a fa) (hb : ZE X E b fb) (hm : behindInMarks op b = false := by first | exact nomark _ | with_unfolding_all rfl) : ZT X E (.Compare a [op] [b] pos) (zTst tB (z2 g fa fb)) := by
  obtain ⟨r, ro, rr⟩ := ho
  obtain ⟨ta, pa, ra⟩ := ha
  obtain ⟨tb, pb, rb⟩ := hb
  refine ⟨_, pt_cmpR ro pa pb hm, fun B al lo H σ ρ S Q s h => ra _ _ _ _ _ _ _ _ s (AftZ.mono (AftZ.split (AftZ.split h)) fun x al1 lo1 H1 S1 s1 x1 y1 h1 v rv => rb _ _ _ _ _ _ _ _ s1 (AftZ.mono (AftZ.split h1) fun y al2 lo2 H2 S2 s2 x2 y2 h2 u ru => ?_))⟩
  split at h2
  · refine rr _ _ _ _ _ _ _ s2.fresh (RepZ.mv x2 y2 rv) ru (Aft.mono (AftZ.toAft s2 (AftZ.split h2)) fun d H3 s3 h3 w rw' => ?_)
    have h4 := h3 al2 lo2 H3 (s2.grow s3) .refl .refl
    exact rep_tB rw' (Aft.mono (AftZ.toAft (s2.grow s3) h4) fun _ _ _ q => q)
  · exact h2.elim
noncomputable def ZW (X : Cx) (E : XK) (e : Expr) (f : ZEv → Sto → RX Bool) : Prop := ∃ t : TT, PW X e t ∧
  ∀ B al lo H σ ρ S (Q : Bool → Hp → Prop), RZ X.K B al lo H σ ρ S → AftZ X.K B E al lo H σ ρ (f ρ S) (fun b _ _ H' _ => Q b H') → t σ H Q
theorem ZW.zt (h : ZW X E e ga) : ZT X E e ga := let ⟨t, p, r⟩ := h; ⟨t, p.pt, r⟩
theorem zw_and1 (h : ZT X E a ga) : ZW X E (.BoolOp .And [a] pos) ga := let ⟨t, p, r⟩ := h; ⟨t, pw_and1 p, r⟩
theorem zw_and (ha : ZT X E a ga) (hb : ZW X E (.BoolOp .And (b :: rest) pos) gb) : ZW X E (.BoolOp .And (a :: b :: rest) pos) (zAndB ga gb) := by
  obtain ⟨ta, pa, ra⟩ := ha
  obtain ⟨tb, pb, rb⟩ := hb
  refine ⟨_, pw_and pa pb, fun B al lo H σ ρ S Q s h => ra _ _ _ _ _ _ _ _ s (AftZ.mono (AftZ.split h) fun c al1 lo1 H1 S1 s1 _ _ h1 => ?_)⟩
  cases c with
  | true => exact iteT (rb _ _ _ _ _ _ _ _ s1 h1)
  | false => exact iteF (h1 al1 lo1 H1 s1 .refl .refl)
theorem za_nil : ZA X E [] zNil := ⟨_, pa_nil, fun B al lo H σ ρ S Q s h => h al lo H s .refl .refl _ .nil, fun _ _ _ _ h => by cases h; rfl⟩
theorem za_cons (ha : ZE X E e fa) (hr : ZA X E es fs) (hs : starEach (e :: es) X.env = (false, eval e X.env) :: starEach es X.env := by rfl) : ZA X E (e :: es) (zCons fa fs) := by
  obtain ⟨ta, pa, ra⟩ := ha
  obtain ⟨tb, pb, rb, lb⟩ := hr
  refine ⟨_, pa_cons pa pb hs, fun B al lo H σ ρ S Q s h => ra _ _ _ _ _ _ _ _ s (AftZ.mono (AftZ.split h) fun x al1 lo1 H1 S1 s1 x1 y1 h1 v rv => rb _ _ _ _ _ _ _ _ s1 (AftZ.mono (AftZ.split h1) fun y al2 lo2 H2 S2 s2 x2 y2 h2 u ru => ?_)), fun ρ S zs S' h => ?_⟩
  · exact h2 al2 lo2 H2 s2 .refl .refl _ (.cons (rv.mv x2 y2) ru)
  · unfold zCons at h
    cases q : fa ρ S with
    | bad => rw [q] at h; cases h
    | ex c ns ds S1 => rw [q] at h; cases h
    | ok x S1 =>
      rw [q] at h
      have h' : (fs ρ S1).bind (fun xs S2 => .ok (x :: xs) S2) = RX.ok zs S' := h
      cases q2 : fs ρ S1 with
      | bad => rw [q2] at h'; cases h'
      | ex c ns ds S1 => rw [q2] at h'; cases h'
      | ok xs S2 =>
        rw [q2] at h'
        cases h'
        rw [List.length_cons, List.length_cons, lb _ _ _ _ q2]
variable {x : Str} {p : Pos}
theorem ze_callB {id : String} {g : List D → R D} (hc : CallD X E (.builtin id) g) (hg : Gl X x) (hm : X.mg x = none) (hv : bootBuiltins x = some (.builtin id)) (ha : ZA X E (e :: es) fs) (hn : x ≠ "__name__" := by decide) (hdb : (x == ("__debug__" : Str)) = false := by decide)
    (he : starEach (e :: es) X.env = (false, eval e X.env) :: starEach es X.env := by rfl) (hpl : (backTo pos (starEach es X.env)).any (·.1) = false := by rfl) : ZE X E (.Call (.Name x p) (e :: es) [] pos) (zF g fs) := by
  obtain ⟨r, rc, rr⟩ := hc
  obtain ⟨ta, pa, ra, _⟩ := ha
  refine ⟨_, pe_callB rc hg hm hv pa hn hdb he hpl, fun B al lo H σ ρ S Q s h => ra _ _ _ _ _ _ _ _ s (AftZ.mono (AftZ.split h) fun x al1 lo1 H1 S1 s1 x1 y1 h1 v rv => ?_)⟩
  split at h1
  · rename_i ds e
    have := asDs_map e
    subst this
    exact rr _ _ _ _ _ s1.fresh rv.toD (Aft.mono (AftZ.toAft s1 (AftZ.split h1)) fun d H3 s3 h3 => h3 al1 lo1 H3 (s1.grow s3) .refl .refl)
  · exact h1.elim
variable {k n : Nat} {ps : List Str} {F : List D → R D}
theorem ze_callD (G : Has X.prog X.w X.K X.mg X.base (CXx X.prog X.w) k x ps (spD n X.K F)) (hr : Room k X.A) (hg : Gl X x) (hx : Passes (CXx X.prog X.w) X E) (hn : (e :: es).length = n) (ha : ZA X E (e :: es) fs) (hdb : (x == ("__debug__" : Str)) = false := by decide)
    (he : starEach (e :: es) X.env = (false, eval e X.env) :: starEach es X.env := by rfl) (hpl : (backTo pos (starEach es X.env)).any (·.1) = false := by rfl) : ZE X E (.Call (.Name x p) (e :: es) [] pos) (zF F fs) := by
  obtain ⟨ta, pa, ra, lb⟩ := ha
  refine ⟨_, pe_has G hr hg hx pa hdb he hpl, fun B al lo H σ ρ S Q s h => ra _ _ _ _ _ _ _ _ s ?_⟩
  unfold zF at h
  cases q : fs ρ S with
  | bad => rw [q] at h; exact h.elim
  | ex c ns ds S1 => rw [q] at h; exact h
  | ok zs S1 =>
    rw [q] at h
    intro al1 lo1 H1 s1 x1 y1 vs rv
    have ll := lb _ _ _ _ q
    have h1 : AftZ X.K B E al lo H σ ρ (match asDs zs with | some ds => (upR (F ds) S1).bind fun d S => .ok (.d d) S | none => .bad) (fun z al' lo' H' _ => ∀ v, RepZ X.K al' lo' H' v z → Q v H') := h
    split at h1
    · rename_i ds e
      have := asDs_map e
      subst this
      have rv' := rv.toD
      rw [List.append_nil]
      exact ⟨by rw [rv'.length]; rw [List.length_map] at ll; rw [ll]; exact hn, s1.tt, al1, ds, s1.fresh, rv', Aft.mono (AftZ.toAft s1 (AftZ.split (AftZ.up h1 x1 y1))) fun d H3 s3 h3 => h3 al1 lo1 H3 (s1.grow s3) .refl .refl⟩
    · exact h1.elim
end
noncomputable def AftF (K : PySem.W.Frag) (B : Z0) (E : XK) (r : RX Z) (Q : VK) : Prop := match r with
  | .ok z S' => ∀ al' lo' H' v, EZ K B al' lo' H' S' → RepZ K al' lo' H' v z → Q v H'
  | .ex c ns ds S' => ∀ al' lo' H' dx, EZ K B al' lo' H' S' → XR K al' H' dx ns ds → E (.ref c) dx H'
  | .bad => False
noncomputable def spZ (n : Nat) (K : PySem.W.Frag) (F : List Z → Sto → RX Z) : Sp := fun vs H Q E => vs.length = n ∧ TbOk K H ∧ ∃ al lo zs S, (∀ a, H a = none → al a) ∧ StOk K al lo H S ∧ RepZs K al lo H vs zs ∧ AftF K ⟨H, al, lo, S.length⟩ E (F zs S) Q
theorem EZ.trans {K : PySem.W.Frag} {B : Z0} {al al' : Addr → Prop} {lo lo' : Lo} {H H' : Hp} {S S' : Sto} (r : EZ K B al lo H S) (q : EZ K ⟨H, al, lo, S.length⟩ al' lo' H' S') : EZ K B al' lo' H' S' where
  fr := fun b o n h w => q.fr b o n (r.fr b o n h w) fun m hm => by
    rcases r.nw m b hm with z | z
    · exact w m z
    · rw [z.1] at h; cases h
  hf := fun b h => r.hf b (q.hf b h)
  tt := q.tt
  fresh := q.fresh
  st := q.st
  lx := fun n a h => q.lx n a (r.lx n a h)
  nw := fun n a h => by
    rcases q.nw n a h with z | z
    · exact r.nw n a z
    · exact .inr ⟨r.hf a z.1, Nat.le_trans r.sz z.2⟩
  bd := r.bd
  sz := Nat.le_trans r.sz q.sz
  xt := r.xt.trans q.xt
  sb := fun a h => by
    rcases q.sb a h with z | z
    · exact r.sb a z
    · exact .inr (r.hf a z)
theorem RZ.after {K : PySem.W.Frag} {B : Z0} {al al' : Addr → Prop} {lo lo' : Lo} {H H' : Hp} {S S' : Sto} {σ : St} {ρ : ZEv} (r : RZ K B al lo H σ ρ S) (q : EZ K ⟨H, al, lo, S.length⟩ al' lo' H' S') : RZ K B al' lo' H' σ ρ S' :=
  ⟨r.toEZ.trans q, r.len, fun i z e => let ⟨v, h1, h2⟩ := r.vr i z e; ⟨v, h1, h2.mv q.xt q.lx⟩⟩
section
variable {X : Cx} {E : XK} {e : Expr} {es : List Expr} {pos p : Pos} {fs : ZEv → Sto → RX (List Z)} {x : Str} {k n : Nat} {ps : List Str} {F : List Z → Sto → RX Z}
theorem ze_callZ (G : Has X.prog X.w X.K X.mg X.base (CXx X.prog X.w) k x ps (spZ n X.K F)) (hr : Room k X.A) (hg : Gl X x) (hx : Passes (CXx X.prog X.w) X E) (hn : (e :: es).length = n) (ha : ZA X E (e :: es) fs) (hdb : (x == ("__debug__" : Str)) = false := by decide)
    (he : starEach (e :: es) X.env = (false, eval e X.env) :: starEach es X.env := by rfl) (hpl : (backTo pos (starEach es X.env)).any (·.1) = false := by rfl) : ZE X E (.Call (.Name x p) (e :: es) [] pos) (zZ F fs) := by
  obtain ⟨ta, pa, ra, lb⟩ := ha
  refine ⟨_, pe_has G hr hg hx pa hdb he hpl, fun B al lo H σ ρ S Q s h => ra _ _ _ _ _ _ _ _ s ?_⟩
  unfold zZ at h
  cases q : fs ρ S with
  | bad => rw [q] at h; exact h.elim
  | ex c ns ds S1 => rw [q] at h; exact h
  | ok zs S1 =>
    rw [q] at h
    intro al1 lo1 H1 s1 x1 y1 vs rv
    have ll := lb _ _ _ _ q
    have h1 : AftZ X.K B E al lo H σ ρ (F zs S1) (fun z al' lo' H' _ => ∀ v, RepZ X.K al' lo' H' v z → Q v H') := h
    rw [List.append_nil]
    refine ⟨by rw [rv.length, ll]; exact hn, s1.tt, al1, lo1, zs, S1, s1.fresh, s1.st, rv, ?_⟩
    cases q2 : F zs S1 with
    | bad => rw [q2] at h1; exact h1.elim
    | ex c ns ds S2 => rw [q2] at h1; exact fun al2 lo2 H2 dx e2 xr => h1 al2 lo2 H2 dx (s1.toEZ.trans e2) xr
    | ok z S2 => rw [q2] at h1; exact fun al2 lo2 H2 v e2 rv2 => h1 al2 lo2 H2 (s1.after e2) (x1.trans e2.xt) (y1.trans e2.lx) v rv2
end
end P2
namespace P2
open PySem L2
inductive RTZ where
  | nx (ρ : ZEv) (S : Sto) | rt (z : Z) (S : Sto) | bk (ρ : ZEv) (S : Sto) | ct (ρ : ZEv) (S : Sto) | ex (c : Addr) (ns : List Str) (ds : List D) (S : Sto) | bad
noncomputable def toZ {α : Type} (r : RX α) (k : α → Sto → RTZ) : RTZ := match r with
  | .ok a S => k a S
  | .ex c ns ds S => .ex c ns ds S
  | .bad => .bad
noncomputable def seqZ (r : RTZ) (k : ZEv → Sto → RTZ) : RTZ := match r with
  | .nx ρ S => k ρ S
  | r => r
noncomputable def okZ (K : PySem.W.Frag) (B : Z0) (E : XK) (D : Ends) (al : Addr → Prop) (H : Hp) : RTZ → Prop
  | .nx ρ S => ∀ al' lo' H' σ', Xt al H al' H' → RZ K B al' lo' H' σ' ρ S → D.nx σ' H'
  | .bk ρ S => ∀ al' lo' H' σ', Xt al H al' H' → RZ K B al' lo' H' σ' ρ S → D.bk σ' H'
  | .ct ρ S => ∀ al' lo' H' σ', Xt al H al' H' → RZ K B al' lo' H' σ' ρ S → D.ct σ' H'
  | .rt z S => ∀ al' lo' H' v, EZ K B al' lo' H' S → RepZ K al' lo' H' v z → D.rt v H'
  | .ex c ns ds S => ∀ al' lo' H' dx, EZ K B al' lo' H' S → XR K al' H' dx ns ds → E (.ref c) dx H'
  | .bad => False
section
variable {K : PySem.W.Frag} {B : Z0} {E : XK} {D : Ends} {al al' : Addr → Prop} {lo : Lo} {H H' : Hp} {s : RTZ} {σ : St} {ρ : ZEv}
theorem okZ.ext (h : okZ K B E D al H s) (x : Xt al H al' H') : okZ K B E D al' H' s := by
  cases s with
  | nx ρ S => exact fun a l h1 σ1 y r => h a l h1 σ1 (x.trans y) r
  | bk ρ S => exact fun a l h1 σ1 y r => h a l h1 σ1 (x.trans y) r
  | ct ρ S => exact fun a l h1 σ1 y r => h a l h1 σ1 (x.trans y) r
  | rt d S => exact h
  | ex c ns ds S => exact h
  | bad => exact h
theorem okZ.ofX {α : Type} {r : RX α} {k : α → Sto → RTZ} (h : okZ K B E D al H (toZ r k)) : AftZ K B E al lo H σ ρ r (fun x al' lo' H' S' => okZ K B E D al' H' (k x S')) := by
  cases r with
  | ok x S => exact fun al1 lo1 H1 s1 x1 y1 => okZ.ext h x1
  | ex c ns ds S => exact h
  | bad => exact h
end
noncomputable def ZS (X : Cx) (E : XK) (b : Nat) (st : Stmt) (g : ZEv → Sto → RTZ) : Prop := ∃ t : TS, PS X st t ∧
  ∀ B : Z0, B.n = b → ∀ al lo H σ ρ S (D : Ends), RZ X.K B al lo H σ ρ S → okZ X.K B E D al H (g ρ S) → t D σ H
noncomputable def ZSs (X : Cx) (E : XK) (b : Nat) (st : List Stmt) (g : ZEv → Sto → RTZ) : Prop := ∃ t : TS, PSs X st t ∧
  ∀ B : Z0, B.n = b → ∀ al lo H σ ρ S (D : Ends), RZ X.K B al lo H σ ρ S → okZ X.K B E D al H (g ρ S) → t D σ H
noncomputable def yNil : ZEv → Sto → RTZ := .nx
noncomputable def ySeq (a b : ZEv → Sto → RTZ) : ZEv → Sto → RTZ := fun ρ S => seqZ (a ρ S) b
noncomputable def yExpr (f : ZEv → Sto → RX Z) : ZEv → Sto → RTZ := fun ρ S => toZ (f ρ S) fun _ S1 => .nx ρ S1
noncomputable def yRet (f : ZEv → Sto → RX Z) : ZEv → Sto → RTZ := fun ρ S => toZ (f ρ S) .rt
noncomputable def ySet (i : Nat) (f : ZEv → Sto → RX Z) : ZEv → Sto → RTZ := fun ρ S => toZ (f ρ S) fun z S1 => if i < ρ.length then .nx (ρ.set i (some z)) S1 else .bad
noncomputable def yIf (c : ZEv → Sto → RX Bool) (a b : ZEv → Sto → RTZ) : ZEv → Sto → RTZ := fun ρ S => toZ (c ρ S) fun k S1 => if k = true then a ρ S1 else b ρ S1
section
variable {X : Cx} {E : XK} {b : Nat} {st : Stmt} {rest sa sb : List Stmt} {g u ga gb : ZEv → Sto → RTZ} {e c : Expr} {f : ZEv → Sto → RX Z} {fc : ZEv → Sto → RX Bool} {pos : Pos}
theorem zss_nil : ZSs X E b [] yNil := ⟨_, pss_nil, fun B hb al lo H σ ρ S _ s h => h al lo H σ .refl s⟩
theorem zss_one (h : ZS X E b st g) : ZSs X E b [st] g := let ⟨t, p, r⟩ := h; ⟨t, pss_one p, r⟩
theorem zss_cons (h1 : ZS X E b st g) (h2 : ZSs X E b rest u) : ZSs X E b (st :: rest) (ySeq g u) := by
  obtain ⟨t1, p1, r1⟩ := h1
  obtain ⟨t2, p2, r2⟩ := h2
  refine ⟨_, pss_cons p1 p2, fun B hb al lo H σ ρ S D s h => r1 B hb al lo H σ ρ S _ s ?_⟩
  unfold ySeq at h
  cases q : g ρ S with
  | nx ρ1 S1 =>
    rw [q] at h
    exact fun al' lo' H' σ' x s' => r2 B hb al' lo' H' σ' ρ1 S1 D s' (okZ.ext h x)
  | bk ρ1 S1 => rw [q] at h; exact h
  | ct ρ1 S1 => rw [q] at h; exact h
  | rt d S1 => rw [q] at h; exact h
  | ex c ns ds S1 => rw [q] at h; exact h
  | bad => rw [q] at h; exact h
theorem zs_break : ZS X E b (.Break pos) .bk := ⟨_, ps_break, fun B hb al lo H σ ρ S _ s h => h al lo H σ .refl s⟩
theorem zs_expr (he : ZE X E e f) (hs : swapsWith e none pos.line X.env = pure false := by rfl) : ZS X E b (.Expr e pos) (yExpr f) := by
  obtain ⟨t, p, r⟩ := he
  exact ⟨_, ps_expr p hs, fun B hb al lo H σ ρ S D s h => r _ _ _ _ _ _ _ _ s (AftZ.mono (okZ.ofX h) fun z al1 lo1 H1 S1 s1 x1 y1 h1 v rv => h1 al1 lo1 H1 σ .refl s1)⟩
theorem zs_ret (he : ZE X E e f) : ZS X E b (.Return (some e) pos) (yRet f) := by
  obtain ⟨t, p, r⟩ := he
  exact ⟨_, ps_ret p, fun B hb al lo H σ ρ S D s h => r _ _ _ _ _ _ _ _ s (AftZ.mono (okZ.ofX h) fun z al1 lo1 H1 S1 s1 x1 y1 h1 v rv => h1 al1 lo1 H1 v s1.toEZ rv)⟩
theorem zs_set (i : Nat) {x : Str} {pos' : Pos} (hN : X.N.Nodup) (hi : X.N[i]? = some x) (hx : Loc X.env.scope x) (he : ZE X E e f) (hs : swapsWith e (some (.Name x pos')) pos.line X.env = pure false := by rfl) (hf : X.fn x = true ∨ X.env.scope.names.lookup x = some .local := by first | exact .inl rfl | exact .inr rfl | assumption) :
    ZS X E b (.Assign [.Name x pos'] e pos) (ySet i f) := by
  obtain ⟨t, p, r⟩ := he
  refine ⟨_, ps_set hN hi hx p hs hf, fun B hb al lo H σ ρ S D s h => r _ _ _ _ _ _ _ _ s (AftZ.mono (okZ.ofX h) fun z al1 lo1 H1 S1 s1 x1 y1 h1 v rv => ?_)⟩
  by_cases w : i < ρ.length
  · simp only [w, if_true] at h1
    exact h1 al1 lo1 H1 _ .refl (s1.set w rv)
  · simp only [w, if_false] at h1
    exact h1.elim
theorem zs_if (hc : ZT X E c fc) (ha : ZSs X E b sa ga) (hb : ZSs X E b sb gb) : ZS X E b (.If c sa sb pos) (yIf fc ga gb) := by
  obtain ⟨tc, pc, rc⟩ := hc
  obtain ⟨ta, pa, ra⟩ := ha
  obtain ⟨tb, pb, rb⟩ := hb
  refine ⟨_, ps_if pc pa pb, fun B hb al lo H σ ρ S D s h => rc _ _ _ _ _ _ _ _ s (AftZ.mono (okZ.ofX h) fun k al1 lo1 H1 S1 s1 x1 y1 h1 => ?_)⟩
  cases k with
  | true => exact iteT (ra _ hb _ _ _ _ _ _ _ s1 h1)
  | false => exact iteF (rb _ hb _ _ _ _ _ _ _ s1 h1)
noncomputable def turnZ (r : RTZ) (k : ZEv → Sto → RTZ) : RTZ := match r with
  | .nx ρ S => k ρ S
  | .ct ρ S => k ρ S
  | .bk ρ S => .nx ρ S
  | r => r
noncomputable def whileZ (c : ZEv → Sto → RX Bool) (b : ZEv → Sto → RTZ) : Nat → ZEv → Sto → RTZ
  | 0, _, _ => .bad
  | n + 1, ρ, S => toZ (c ρ S) fun k S1 => if k = true then turnZ (b ρ S1) (whileZ c b n) else .nx ρ S1
theorem turnZ_ok {K : PySem.W.Frag} {B : Z0} {E : XK} {al : Addr → Prop} {H : Hp} {D : Ends} {r : RTZ} {k : ZEv → Sto → RTZ} {N : St → Hp → Prop} (h : okZ K B E D al H (turnZ r k))
    (hN : ∀ al' lo' H' σ' ρ' S', Xt al H al' H' → RZ K B al' lo' H' σ' ρ' S' → okZ K B E D al' H' (k ρ' S') → N σ' H') : okZ K B E { D with nx := N, ct := N, bk := D.nx } al H r := by
  cases r with
  | nx ρ S => exact fun al' lo' H' σ' x s => hN al' lo' H' σ' ρ S x s (okZ.ext h x)
  | ct ρ S => exact fun al' lo' H' σ' x s => hN al' lo' H' σ' ρ S x s (okZ.ext h x)
  | bk ρ S => exact h
  | rt d S => exact h
  | ex c ns ds S => exact h
  | bad => exact h
theorem zs_while (n : Nat) (hp : PassesOwn (model X.prog X.w) X.A X.env X.xe) (hc : ZT X E c fc) (hb : ZSs X E b sb gb) : ZS X E b (.While c sb [] pos) (whileZ fc gb n) := by
  obtain ⟨tc, pc, rc⟩ := hc
  obtain ⟨tb, pb, rb⟩ := hb
  refine ⟨_, ps_while hp pc pb, fun B hb al lo H σ ρ S D s h => ⟨fun m σ1 H1 => ∃ al1 lo1 ρ1 S1, RZ X.K B al1 lo1 H1 σ1 ρ1 S1 ∧ okZ X.K B E D al1 H1 (whileZ fc gb m ρ1 S1), ⟨n, al, lo, ρ, S, s, h⟩, ?_⟩⟩
  rintro m σ1 H1 ⟨al1, lo1, ρ1, S1, s1, h1⟩
  cases m with
  | zero => exact h1.elim
  | succ m =>
    refine rc _ _ _ _ _ _ _ _ s1 (AftZ.mono (okZ.ofX h1) fun k al2 lo2 H2 S2 s2 x2 y2 h2 => ?_)
    cases k with
    | true =>
      refine iteT ⟨fun σ' H' => ∃ al1 lo1 ρ1 S1, RZ X.K B al1 lo1 H' σ' ρ1 S1 ∧ okZ X.K B E D al1 H' (whileZ fc gb m ρ1 S1), fun σ' H' z => ⟨m, Nat.lt_succ_self m, z⟩, rb _ hb _ _ _ _ _ _ _ s2 (turnZ_ok (k := whileZ fc gb m) h2 fun al' lo' H' σ' ρ' S' _ s' h' => ⟨al', lo', ρ', S', s', h'⟩)⟩
    | false => exact iteF (h2 al2 lo2 H2 σ1 .refl s2)
end
noncomputable def ZG (X : Cx) (tg : Expr) (a : D → ZEv → Option ZEv) : Prop := ∃ g : TG, PG X tg g ∧
  ∀ B al lo H σ ρ S v d (Q : St → Hp → Prop), RZ X.K B al lo H σ ρ S → Rep X.K al H v d → (∃ ρ', a d ρ = some ρ' ∧ ∀ σ', RZ X.K B al lo H σ' ρ' S → Q σ' H) → g v σ H Q
noncomputable def hV (i : Nat) : D → ZEv → Option ZEv := fun d ρ => if i < ρ.length then some (ρ.set i (some (.d d))) else none
noncomputable def hN : List D → ZEv → Option ZEv := fun ds ρ => match ds with
  | [] => some ρ
  | _ => none
noncomputable def hC (a : D → ZEv → Option ZEv) (b : List D → ZEv → Option ZEv) : List D → ZEv → Option ZEv := fun ds ρ => match ds with
  | d :: r => (a d ρ).bind (b r)
  | [] => none
noncomputable def hT (n : Nat) (a : List D → ZEv → Option ZEv) : D → ZEv → Option ZEv := fun d ρ => match d with
  | .tup ds => if ds.length = n then a ds ρ else none
  | _ => none
noncomputable def toOZ {α : Type} (r : Option α) (k : α → RTZ) : RTZ := match r with
  | some a => k a
  | none => .bad
noncomputable def forZ (a : D → ZEv → Option ZEv) (b : ZEv → Sto → RTZ) : List D → ZEv → Sto → RTZ
  | [], ρ, S => .nx ρ S
  | d :: r, ρ, S => toOZ (a d ρ) fun ρ1 => turnZ (b ρ1 S) (forZ a b r)
section
variable {X : Cx} {E : XK} {b : Nat} {tg iter : Expr} {body : List Stmt} {fi : Ev → R (List D)} {a : D → ZEv → Option ZEv} {gb : ZEv → Sto → RTZ} {pos : Pos} {e : Expr} {f : ZEv → Sto → RX Z}
noncomputable def yFor (fi : Ev → R (List D)) (a : D → ZEv → Option ZEv) (gb : ZEv → Sto → RTZ) : ZEv → Sto → RTZ := fun ρ S => toZ (upR (fi (pur ρ)) S) fun ds S1 => forZ a gb ds ρ S1
theorem zg_name (i : Nat) {x : Str} (hN : X.N.Nodup) (hi : X.N[i]? = some x) (hx : Loc X.env.scope x) (hf : X.fn x = true ∨ X.env.scope.names.lookup x = some .local := by first | exact .inl rfl | exact .inr rfl | assumption) : ZG X (.Name x pos) (hV i) := by
  refine ⟨_, pg_name hN hi hx hf, fun B al lo H σ ρ S v d Q s rv h => ?_⟩
  obtain ⟨ρ', e, q⟩ := h
  unfold hV at e
  by_cases z : i < ρ.length
  · rw [if_pos z] at e; cases e
    exact q _ (s.set z rv)
  · rw [if_neg z] at e; cases e
theorem zs_for (hp : PassesOwn (model X.prog X.w) X.A X.env X.xe) (hc : X.calm = true) (hi : DI X E tg iter fi) (hg : ZG X tg a) (hb : ZSs X E b body gb) (hs : ∀ x, foldedSetIterable iter X.env x = pure x := by intro _; rfl) :
    ZS X E b (.For tg iter body [] pos) (yFor fi a gb) := by
  obtain ⟨wi, pi, ri⟩ := hi
  obtain ⟨g, pg, rg⟩ := hg
  obtain ⟨tb, pb, rb⟩ := hb
  refine ⟨_, ps_for hp hc pi pg pb hs, fun B hb al lo H σ ρ S D s h => ri _ _ _ _ _ _ _ s.rs (Aft.mono (AftZ.toAft (k := fun ds al' lo' H' S' => okZ X.K B E D al' H' (forZ a gb ds ρ S')) s (okZ.ofX h)) fun ds H1 s1 h1 J wk => ?_)⟩
  refine ⟨fun i m σ2 H2 => ∃ al2 lo2 ρ2 S2, RZ X.K B al2 lo2 H2 σ2 ρ2 S2 ∧ Wk X.K al2 H2 J ds ∧ okZ X.K B E D al2 H2 (forZ a gb (ds.drop i) ρ2 S2) ∧ m = ds.length - i, ⟨_, al, lo, ρ, S, s.grow s1, wk, h1, rfl⟩, ?_⟩
  rintro i m σ2 H2 ⟨al2, lo2, ρ2, S2, s2, wk2, h2, rfl⟩
  obtain ⟨w1, w2⟩ := wk2 al2 H2 .refl s2.fresh
  by_cases hi : i < ds.length
  · right
    have ed : ds[i]? = some ds[i] := List.getElem?_eq_getElem hi
    obtain ⟨go, yl⟩ := w1 i _ ed
    rw [List.drop_eq_getElem_cons hi] at h2
    refine ⟨go, fun σ' H' => ∃ al2 lo2 ρ2 S2, RZ X.K B al2 lo2 H' σ' ρ2 S2 ∧ Wk X.K al2 H' J ds ∧ okZ X.K B E D al2 H' (forZ a gb (ds.drop (i + 1)) ρ2 S2), fun σ' H' ⟨al3, lo3, ρ3, S3, z1, z2, z3⟩ => ⟨ds.length - (i + 1), by omega, al3, lo3, ρ3, S3, z1, z2, z3, rfl⟩, fun x H3 y => ?_⟩
    obtain ⟨rfl, rx⟩ := yl x H3 y
    unfold forZ at h2
    cases q : a ds[i] ρ2 with
    | some ρ3 =>
      rw [q] at h2
      refine rg _ _ _ _ _ _ _ _ _ _ s2 rx ⟨ρ3, q, fun σ3 s3 => rb _ hb _ _ _ _ _ _ _ s3 (turnZ_ok (k := forZ a gb (ds.drop (i + 1))) h2 fun al' lo' H' σ' ρ' S' x' s' h' => ⟨al', lo', ρ', S', s', fun al4 H4 x4 => wk2 al4 H4 (x'.trans x4), h'⟩)⟩
    | none => rw [q] at h2; exact h2.elim
  · left
    have e : ds.drop i = [] := List.drop_eq_nil_of_le (by omega)
    rw [e] at h2
    exact ⟨w2 i (by omega), h2 al2 lo2 H2 σ2 .refl s2⟩
end
end P2
namespace P2
open PySem L2
noncomputable def startZ (n : Nat) (zs : List Z) : ZEv := zs.map some ++ List.replicate (n - zs.length) none
noncomputable def finZ : RTZ → RX Z
  | .rt z S => .ok z S
  | .nx _ S => .ok (.d .non) S
  | .ex c ns ds S => .ex c ns ds S
  | _ => .bad
theorem rz_start {K : PySem.W.Frag} {al : Addr → Prop} {lo : Lo} {H : Hp} {S : Sto} {vs : List V} {zs : List Z} {N : List Str} (tt : TbOk K H) (fr : ∀ a, H a = none → al a) (st : StOk K al lo H S) (r : RepZs K al lo H vs zs) : RZ K ⟨H, al, lo, S.length⟩ al lo H (L2.start N vs) (startZ N.length zs) S where
  toEZ := EZ.start (zs := zs) tt fr st
  len := by unfold L2.start startZ; simp [r.length]
  vr := fun i z h => by
    unfold startZ at h
    by_cases hi : i < zs.length
    · rw [List.getElem?_append_left (by simpa using hi), List.getElem?_map] at h
      cases q : zs[i]? with
      | none => rw [q] at h; cases h
      | some y =>
        rw [q] at h; cases h
        obtain ⟨v, e1, e2⟩ := r.get q
        refine ⟨v, ?_, e2⟩
        unfold L2.start
        rw [List.getElem?_append_left (by simpa [r.length] using hi), List.getElem?_map, e1]; rfl
    · rw [List.getElem?_append_right (by simpa using hi), List.getElem?_replicate] at h
      split at h <;> cases h
section
variable {P : Program} {w : World} {K : PySem.W.Frag} {mg : Str → Option Value} {base : Heap}
theorem fn_denZ {x : Str} {st : Stmt} {f : Addr} {fd : FuncData} {N ps : List Str} {k : Nat} {g : Nat → ZEv → Sto → RTZ} (F : Fun K x x st f fd) (S : FnScope N ps (defScope st))
    (body : ∀ (b : Nat) (cdv : Value) (A : Around) (outer : List Env) (s : Shared) (H : Hp) (E : XK), Room k (cxOf (CXx P w) P w K mg base N x (defScope st) f cdv A outer s H E).A → ZSs (cxOf (CXx P w) P w K mg base N x (defScope st) f cdv A outer s H E) E b (defBody st) (g b)) :
    FnOk P w K mg base (CXx P w) (k + 1) f fd ps (spZ ps.length K fun zs S => finZ (g S.length (startZ N.length zs) S)) := by
  refine F.okX S (fun vs H Q E h => h.1) (fun cdv A outer s H vs Q E hr h => ?_)
  obtain ⟨hl, tt, al, lo, zs, S0, fr, st, rv, h⟩ := h
  obtain ⟨t, p, r⟩ := body S0.length cdv A outer s H E hr
  dsimp only at h
  refine ⟨t, p, r ⟨H, al, lo, S0.length⟩ rfl al lo H (L2.start N vs) (startZ N.length zs) S0 _ (rz_start tt fr st rv) ?_⟩
  cases q : g S0.length (startZ N.length zs) S0 with
  | nx ρ S1 => rw [q] at h; exact fun al' lo' H' σ' _ s' => h al' lo' H' .non s'.toEZ .non
  | rt z S1 => rw [q] at h; exact h
  | ex c ns es S1 => rw [q] at h; exact h
  | bk ρ S1 => rw [q] at h; exact h.elim
  | ct ρ S1 => rw [q] at h; exact h.elim
  | bad => rw [q] at h; exact h.elim
noncomputable def clo : RX Z → R D
  | .ok (.d x) _ => .ok x
  | .ex c ns ds _ => .ex c ns ds
  | _ => .bad
theorem stok_nil {al : Addr → Prop} {H : Hp} : StOk K al (fun _ => none) H [] :=
  { at' := fun _ _ h => (by cases h), has := fun n c h _ => (by simp at h), na := fun _ _ h => (by cases h), inj := fun _ _ _ h => (by cases h) }
theorem sp_close {n : Nat} {F : List Z → Sto → RX Z} {vs : List V} {H : Hp} {Q : VK} {E : XK} (h : spD n K (fun ds => clo (F (ds.map .d) [])) vs H Q E) : spZ n K F vs H Q E := by
  obtain ⟨hl, tt, al, ds, fr, rv, h⟩ := h
  refine ⟨hl, tt, al, fun _ => none, ds.map .d, [], fr, stok_nil, .ofD rv, ?_⟩
  have same : ∀ {al' lo' H' S'}, EZ K ⟨H, al, fun _ => none, ([] : Sto).length⟩ al' lo' H' S' → Same K H H' := fun e => ⟨fun b o no hb => e.fr b o no hb fun _ => nofun, e.hf, fun _ => e.tt⟩
  have sub : ∀ {al' lo' H' S'}, EZ K ⟨H, al, fun _ => none, ([] : Sto).length⟩ al' lo' H' S' → ∀ a, al' a → al a := fun e a ha => (e.sb a ha).elim id (fr a)
  dsimp only at h
  cases q : F (ds.map .d) [] with
  | bad => rw [q] at h; exact h.elim
  | ex c ns es S1 => rw [q] at h; exact fun al' lo' H' dx e xr => h dx H' (same e) (xr.mv (.sub (sub e)))
  | ok z S1 =>
    rw [q] at h
    cases z with
    | loc m => exact h.elim
    | d x => exact fun al' lo' H' v e rv => h H' (same e) v (Rep.mv (.sub (sub e)) rv)
theorem FnOk.close {k : Nat} {f : Addr} {fd : FuncData} {ps : List Str} {n : Nat} {F : List Z → Sto → RX Z} (h : FnOk P w K mg base (CXx P w) k f fd ps (spZ n K F)) : FnOk P w K mg base (CXx P w) k f fd ps (spD n K (fun ds => clo (F (ds.map .d) []))) :=
  h.imp fun vs H Q E q => sp_close q
end
section
variable {X : Cx} {E : XK} {b : Nat} {st : Stmt} {e : Expr} {pos : Pos}
noncomputable def zNew (fn : Ev → R (List D)) : ZEv → Sto → RX Z := fun ρ S => (upR (fn (pur ρ)) S).bind fun ds S1 => .ok (.loc S1.length) (S1 ++ [.li (ds.map .d)])
theorem ze_new {fn : Ev → R (List D)} (he : DN X E e fn) : ZE X E e (zNew fn) := by
  obtain ⟨t, p, r⟩ := he
  refine ⟨t, p, fun B al lo H σ ρ S Q s h => r _ _ _ _ _ _ _ s.rs (Aft.mono (AftZ.toAft s (AftZ.split h)) fun ds H1 s1 h1 p vs hp rv => ?_)⟩
  have s2 := s.grow s1
  have hc : CellAt X.K (fun b => al b ∧ b ≠ p) (loNew lo S.length p) (upd H1 p (.lst vs)) p (.li (ds.map .d)) := ⟨vs, upd_same, RepZs.mv (xt_new hp) (loNew_x s2.st p) (.ofD rv)⟩
  exact h1 _ _ _ (s2.new hp nt_lst hc nofun) (xt_new hp) (loNew_x s2.st p) _ ⟨p, by unfold loNew; rw [if_pos rfl], rfl⟩
end
section
variable {X : Cx} {E : XK} {b : Nat} {e : Expr} {pos : Pos} {f : ZEv → Sto → RX Z}
noncomputable def yApp (i : Nat) (f : ZEv → Sto → RX Z) : ZEv → Sto → RTZ := fun ρ S => match ρ[i]? with
  | some (some (.loc n)) => (match S[n]? with
    | some (.li _) => toZ (f ρ S) fun z S1 => (match S1[n]? with
      | some (.li zs) => if zs.length < sizeLine then .nx ρ (S1.set n (.li (zs ++ [z]))) else .bad
      | _ => .bad)
    | _ => .bad)
  | _ => .bad
theorem RZ.cell {K : PySem.W.Frag} {B : Z0} {al : Addr → Prop} {lo : Lo} {H : Hp} {σ : St} {ρ : ZEv} {S : Sto} (s : RZ K B al lo H σ ρ S) {n : Nat} {a : Addr} (hn : lo n = some a) {c : Cell} (h : S[n]? = some c) : CellAt K al lo H a c := by
  obtain ⟨c', h1, h2⟩ := s.st.at' n a hn
  rw [h] at h1; cases h1; exact h2
theorem zs_append (i : Nat) {x : Str} {opos apos cpos : Pos} (pa : PlainAttrs "list") (slot : Slot "list" "append" "list.append") (hty : typeOf (.builtin "list.append") = pure (.type "method_descriptor")) (he : ZE X E e f)
    (hN : X.N[i]? = some x := by rfl) (hv : Vis X.env.scope x := by first | exact Or.inl rfl | exact Or.inr (Or.inl rfl) | exact Or.inr (Or.inr rfl)) (hd : (x == ("__debug__" : Str)) = false := by decide)
    (hcd : (x == ("__classdict__" : Str)) = false := by decide)
    (hbase : attributeBase (.Name x opos) "append" X.env (eval (.Name x opos) X.env) = eval (.Name x opos) X.env := by rfl)
    (hfew : ((backTo cpos (starEach [e] X.env)).all (fun x => !x.1) && (backToKw cpos (keywordEach [] X.env)).all (fun x => x.1.isSome)
      && decide ([e].length + ([] : List Keyword).length + (if ([] : List Keyword).isEmpty then 0 else 1) < 30)) = true := by rfl)
    (hline : (apos.endLine == cpos.line) = true := by rfl) (hs : starEach [e] X.env = (false, eval e X.env) :: starEach [] X.env := by rfl) (hplain : (backTo cpos (starEach [] X.env)).any (·.1) = false := by rfl)
    (hsw : swapsWith (.Call (.Attribute (.Name x opos) "append" apos) [e] [] cpos) none pos.line X.env = pure false := by rfl) :
    ZS X E b (.Expr (.Call (.Attribute (.Name x opos) "append" apos) [e] [] cpos) pos) (yApp i f) := by
  obtain ⟨t, p, r⟩ := he
  refine ⟨_, ps_expr (pe_bm pa slot hty mt_append (pe_var hN hv hd hcd) (pa_cons p pa_nil hs) hbase hfew hline hs hplain) hsw, fun B hb al lo H σ ρ S D s h => ?_⟩
  unfold yApp at h
  split at h
  · rename_i n q
    split at h
    · rename_i zs0 q0
      obtain ⟨v, e1, a, hn, rfl⟩ := s.vr i _ q
      obtain ⟨vs, e2, e3⟩ := s.cell hn q0
      refine ⟨_, e1, .inl ⟨rfl, vs, .inl (.inl e2)⟩, r _ _ _ _ _ _ _ _ s (AftZ.mono (okZ.ofX h) fun z al1 lo1 H1 S1 s1 x1 y1 h1 u ru => ?_)⟩
      split at h1
      · rename_i zs q1
        have hn1 := y1 n a hn
        obtain ⟨ws, g2, g3⟩ := s1.cell hn1 q1
        by_cases w : zs.length < sizeLine
        · rw [if_pos w] at h1
          have x2 : Xt al1 H1 al1 (upd H1 a (.lst (ws ++ [u]))) := fun b o _ hb eb => ⟨hb, by rw [upd_ne fun z => s1.st.na n a hn1 (by rw [← z]; exact hb)]; exact eb⟩
          obtain ⟨s2, x3⟩ := s1.write hn1 (o := .lst (ws ++ [u])) (c := .li (zs ++ [z])) nt_lst (fun q w => by unfold CodeO at w; cases w) ⟨_, upd_same, RepZs.mv x2 .refl (g3.append (.cons ru .nil))⟩ nofun
          exact ⟨a, ws, u, rfl, rfl, g2, by rw [g3.length]; exact w, h1 _ _ _ _ x3 s2⟩
        · rw [if_neg w] at h1; exact h1.elim
      · exact h1.elim
    · exact h.elim
  · exact h.elim
noncomputable def zPop (i : Nat) : ZEv → Sto → RX Z := fun ρ S => match ρ[i]? with
  | some (some (.loc n)) => (match S[n]? with
    | some (.li zs) => (match zs[zs.length - 1]? with
      | some z => .ok z (S.set n (.li zs.dropLast))
      | none => .bad)
    | _ => .bad)
  | _ => .bad
theorem RepZs.dropLast {K : PySem.W.Frag} {al : Addr → Prop} {lo : Lo} {H : Hp} {vs : List V} {zs : List Z} (r : RepZs K al lo H vs zs) : RepZs K al lo H vs.dropLast zs.dropLast := by
  induction r with
  | nil => exact .nil
  | cons a b ih =>
    cases b with
    | nil => exact .nil
    | cons c d => exact .cons a ih
theorem ze_pop (i : Nat) {x : Str} {opos apos cpos : Pos} (pa : PlainAttrs "list") (slot : Slot "list" "pop" "list.pop") (hty : typeOf (.builtin "list.pop") = pure (.type "method_descriptor"))
    (hN : X.N[i]? = some x := by rfl) (hv : Vis X.env.scope x := by first | exact Or.inl rfl | exact Or.inr (Or.inl rfl) | exact Or.inr (Or.inr rfl)) (hd : (x == ("__debug__" : Str)) = false := by decide)
    (hcd : (x == ("__classdict__" : Str)) = false := by decide)
    (hbase : attributeBase (.Name x opos) "pop" X.env (eval (.Name x opos) X.env) = eval (.Name x opos) X.env := by rfl) (hline : (apos.endLine == cpos.line) = true := by rfl) :
    ZE X E (.Call (.Attribute (.Name x opos) "pop" apos) [] [] cpos) (zPop i) := by
  refine ⟨_, pe_bm0 pa slot hty mt_pop (pe_var hN hv hd hcd) hbase hline, fun B al lo H σ ρ S Q s h => ?_⟩
  unfold zPop at h
  split at h
  · rename_i n q
    split at h
    · rename_i zs q0
      split at h
      · rename_i z qz
        obtain ⟨v, e1, a, hn, rfl⟩ := s.vr i _ q
        obtain ⟨vs, e2, e3⟩ := s.cell hn q0
        obtain ⟨u, e4, e5⟩ := e3.get qz
        have x2 : Xt al H al (upd H a (.lst vs.dropLast)) := fun b o _ hb eb => ⟨hb, by rw [upd_ne fun z => s.st.na n a hn (by rw [← z]; exact hb)]; exact eb⟩
        obtain ⟨s2, x3⟩ := s.write hn (o := .lst vs.dropLast) (c := .li zs.dropLast) nt_lst (fun q w => by unfold CodeO at w; cases w) ⟨_, upd_same, RepZs.mv x2 .refl e3.dropLast⟩ nofun
        refine ⟨_, e1, .inl ⟨rfl, vs, .inl (.inl e2)⟩, a, vs, u, rfl, rfl, e2, by rw [e3.length]; exact e4, h _ _ _ s2 x3 .refl u (e5.mv x3 .refl)⟩
      · exact h.elim
    · exact h.elim
  · exact h.elim
end
end P2
namespace P2
open PySem L2
section
variable {X : Cx} {E : XK} {b : Nat} {e k : Expr} {pos : Pos} {f : ZEv → Sto → RX Z} {fk : Ev → R D}
end
mutual
noncomputable def noL : D → Bool
  | .lst _ => false
  | .tup ds => noLs ds
  | .exc _ _ _ => false
  | _ => true
noncomputable def noLs : List D → Bool
  | [] => true
  | d :: r => noL d && noLs r
end
noncomputable def vwS (S : Sto) : Option Z → Sl
  | some (.d x) => .sh x
  | some (.loc n) => (match S[n]? with
    | some (.li zs) => (match asDs zs with
      | some ds => .sh (.lst ds)
      | none => .no)
    | _ => .no)
  | none => .no
noncomputable def vw (S : Sto) (ρ : ZEv) : Ev := ρ.map (vwS S)
section
variable {K : PySem.W.Frag} {B : Z0} {al : Addr → Prop} {lo : Lo} {H H' : Hp} {σ : St} {ρ : ZEv} {S : Sto}
noncomputable def alV (al : Addr → Prop) (lo : Lo) : Addr → Prop := fun a => al a ∨ ∃ n, lo n = some a
theorem RZ.rsV (r : RZ K B al lo H σ ρ S) : RS K (alV al lo) H (alV al lo) H σ (vw S ρ) where
  same := .refl H
  tt := r.tt
  fresh := fun a h => .inl (r.fresh a h)
  sub := fun _ h => h
  pf := fun a h => .inl (r.fresh a h)
  len := by unfold vw; rw [List.length_map]; exact r.len
  sh := fun i d h => by
    unfold vw at h
    rw [List.getElem?_map] at h
    obtain ⟨z, h1, h2⟩ := Option.map_eq_some_iff.mp h
    cases z with
    | none => cases h2
    | some z =>
      obtain ⟨v, e1, e2⟩ := r.vr i z h1
      refine ⟨v, e1, ?_⟩
      cases z with
      | d x => cases h2; exact Rep.mv (.sub fun _ h => .inl h) e2
      | loc n =>
        unfold vwS at h2
        dsimp only at h2
        split at h2
        · rename_i zs q
          split at h2
          · rename_i ds qd
            cases h2
            have := asDs_map qd
            subst this
            obtain ⟨a, hn, rfl⟩ := e2
            obtain ⟨vs, g1, g2⟩ := r.cell hn q
            exact .lst (.inl ⟨.inr ⟨n, hn⟩, .inl g1⟩) (Reps.mv (.sub fun _ h => .inl h) g2.toD)
          · cases h2
        · cases h2
  ow := fun i ds h => by
    unfold vw at h
    rw [List.getElem?_map] at h
    obtain ⟨z, h1, h2⟩ := Option.map_eq_some_iff.mp h
    unfold vwS at h2
    split at h2
    · cases h2
    · split at h2
      · split at h2 <;> cases h2
      · cases h2
    · cases h2
  apart := fun i j ds ds' a h _ _ _ => by
    unfold vw at h
    rw [List.getElem?_map] at h
    obtain ⟨z, h1, h2⟩ := Option.map_eq_some_iff.mp h
    unfold vwS at h2
    split at h2
    · cases h2
    · split at h2
      · split at h2 <;> cases h2
      · cases h2
    · cases h2
mutual
theorem Rep.noL (na : ∀ n a, lo n = some a → ¬ ∃ vs, Rd H a (.tup vs)) : ∀ {v : V} {d : D}, Rep K (alV al lo) H v d → P2.noL d = true → Rep K al H v d
  | _, _, .non, _ => .non
  | _, _, .bl b, _ => .bl b
  | _, _, .int b, _ => .int b
  | _, _, .str b, _ => .str b
  | _, _, .ty b, _ => .ty b
  | _, _, .ref b, _ => .ref b
  | _, _, .tup p q, h => .tup (p.elim (fun z => .inl ⟨z.1.elim id fun ⟨n, hn⟩ => absurd ⟨_, z.2⟩ (na n _ hn), z.2⟩) .inr) (Reps.noL na q h)
  | _, _, .lst p q, h => by cases h
  | _, _, .exc p1 p2 p3 p4 q, h => by cases h
  | _, _, .exc0 p1 p2, h => by cases h
theorem Reps.noL (na : ∀ n a, lo n = some a → ¬ ∃ vs, Rd H a (.tup vs)) : ∀ {v : List V} {d : List D}, Reps K (alV al lo) H v d → noLs d = true → Reps K al H v d
  | _, _, .nil, _ => .nil
  | _, _, .cons (d := d) (ds := ds) p q, h => by
    have h' : (P2.noL d && noLs ds) = true := h
    rw [Bool.and_eq_true] at h'
    exact .cons (Rep.noL na p h'.1) (Reps.noL na q h'.2)
end
theorem RZ.noT (r : RZ K B al lo H σ ρ S) : ∀ n a, lo n = some a → ¬ ∃ vs, Rd H a (.tup vs) := fun n a hn ⟨vs, h⟩ => by
  obtain ⟨c, _, q⟩ := r.st.at' n a hn
  cases c with
  | li zs => obtain ⟨ws, g, _⟩ := q; rcases h with h | ⟨o, h⟩ <;> (rw [g] at h; cases h)
  | ob C fs => obtain ⟨dx, ws, g, _⟩ := q; rcases h with h | ⟨o, h⟩ <;> (rw [g] at h; cases h)
  | dk kvs => obtain ⟨ws, g, _⟩ := q; rcases h with h | ⟨o, h⟩ <;> (rw [g] at h; cases h)
  | dt kvs => obtain ⟨ws, g, _⟩ := q; rcases h with h | ⟨o, h⟩ <;> (rw [g] at h; cases h)
  | no => exact q
end
noncomputable def zR (f : Ev → R D) : ZEv → Sto → RX Z := fun ρ S => match f (vw S ρ) with
  | .ok d => if noL d = true then .ok (.d d) S else .bad
  | _ => .bad
noncomputable def zRB (f : Ev → R Bool) : ZEv → Sto → RX Bool := fun ρ S => match f (vw S ρ) with
  | .ok d => .ok d S
  | _ => .bad
section
variable {X : Cx} {E : XK} {b : Nat} {e : Expr} {pos : Pos}
theorem ze_read {f : Ev → R D} (h : DE X E e f) : ZE X E e (zR f) := by
  obtain ⟨t, p, r⟩ := h
  refine ⟨t, p, fun B al lo H σ ρ S Q z h => r _ _ _ _ _ _ _ z.rsV ?_⟩
  unfold zR at h
  cases q : f (vw S ρ) with
  | bad => rw [q] at h; exact h.elim
  | ex c ns ds => rw [q] at h; exact h.elim
  | ok d =>
    rw [q] at h
    dsimp only at h
    by_cases w : noL d = true
    · rw [if_pos w] at h
      exact fun H1 s1 v rv => h al lo H1 (z.grow s1) (.of s1) .refl v (Rep.noL (z.grow s1).noT rv w)
    · rw [if_neg w] at h; exact h.elim
theorem zt_read {f : Ev → R Bool} (h : DT X E e f) : ZT X E e (zRB f) := by
  obtain ⟨t, p, r⟩ := h
  refine ⟨t, p, fun B al lo H σ ρ S Q z h => r _ _ _ _ _ _ _ z.rsV ?_⟩
  unfold zRB at h
  cases q : f (vw S ρ) with
  | bad => rw [q] at h; exact h.elim
  | ex c ns ds => rw [q] at h; exact h.elim
  | ok d => rw [q] at h; exact fun H1 s1 => h al lo H1 (z.grow s1) (.of s1) .refl
end
noncomputable def hasLoc (n : Nat) : Z → Bool
  | .loc m => decide (m = n)
  | _ => false
noncomputable def cellHas (n : Nat) : Cell → Bool
  | .li zs => zs.any (hasLoc n)
  | .ob _ fs => fs.any fun p => hasLoc n p.2
  | .dk kvs => kvs.any fun p => hasLoc n p.2
  | .dt kvs => kvs.any fun p => hasLoc n p.2
  | .no => false
section
variable {K : PySem.W.Frag} {B : Z0} {al : Addr → Prop} {lo : Lo} {H : Hp} {σ : St} {ρ ρ' : ZEv} {S S' : Sto}
theorem RepZ.out {al' : Addr → Prop} {lo' : Lo} {n : Nat} (x : Xt al H al' H) (y : ∀ m a, m ≠ n → lo m = some a → lo' m = some a) {v : V} {z : Z} (r : RepZ K al lo H v z) (h : hasLoc n z = false) : RepZ K al' lo' H v z := by
  cases z with
  | d d => exact Rep.mv x r
  | loc m => obtain ⟨a, h1, h2⟩ := r; exact ⟨a, y m a (by simpa [hasLoc] using h) h1, h2⟩
theorem RepZs.out {al' : Addr → Prop} {lo' : Lo} {n : Nat} (x : Xt al H al' H) (y : ∀ m a, m ≠ n → lo m = some a → lo' m = some a) {vs : List V} {zs : List Z} (r : RepZs K al lo H vs zs) (h : zs.any (hasLoc n) = false) : RepZs K al' lo' H vs zs := by
  induction r with
  | nil => exact .nil
  | cons a _ ih =>
    rw [List.any_cons, Bool.or_eq_false_iff] at h
    exact .cons (a.out x y h.1) (ih h.2)
theorem RepK.out {κ : Type} {al' : Addr → Prop} {lo' : Lo} {n : Nat} (x : Xt al H al' H) (y : ∀ m a, m ≠ n → lo m = some a → lo' m = some a) {vs : List (κ × V)} {zs : List (κ × Z)} (r : RepK K al lo H vs zs) (h : (zs.any fun p => hasLoc n p.2) = false) : RepK K al' lo' H vs zs := by
  induction r with
  | nil => exact .nil
  | cons a _ ih =>
    rw [List.any_cons, Bool.or_eq_false_iff] at h
    exact .cons (a.out x y h.1) (ih h.2)
theorem CellAt.out {al' : Addr → Prop} {lo' : Lo} {n : Nat} (x : Xt al H al' H) (y : ∀ m a, m ≠ n → lo m = some a → lo' m = some a) {a : Addr} {c : Cell} (r : CellAt K al lo H a c) (h : cellHas n c = false) : CellAt K al' lo' H a c := by
  cases c with
  | li zs => obtain ⟨vs, h1, h2⟩ := r; exact ⟨vs, h1, h2.out x y h⟩
  | ob C fs => obtain ⟨dx, us, h1, h2⟩ := r; exact ⟨dx, us, h1, h2.out x y h⟩
  | dk kvs => obtain ⟨us, h1, h2⟩ := r; exact ⟨us, h1, h2.out x y h⟩
  | dt kvs => obtain ⟨us, h1, h2⟩ := r; exact ⟨us, h1, h2.out x y h⟩
  | no => exact r
end
section
variable {X : Cx} {E : XK} {b : Nat} {sts : List Stmt} {st : Stmt} {g : ZEv → Sto → RTZ}
end
end P2
namespace P2
open PySem L2
section
variable {κ : Type} [DecidableEq κ] {K : PySem.W.Frag} {al : Addr → Prop} {lo : Lo} {H : Hp}
noncomputable def valZ (kvs : List (κ × Z)) (k : κ) : Option Z := (kvs.find? fun kv => decide (kv.1 = k)).map (·.2)
noncomputable def putZ (kvs : List (κ × Z)) (k : κ) (v : Z) : List (κ × Z) :=
  if (kvs.any fun kv => decide (kv.1 = k)) = true then kvs.map fun kv => if kv.1 = k then (kv.1, v) else kv else kvs ++ [(k, v)]
theorem RepK.val {us : List (κ × V)} {zs : List (κ × Z)} (r : RepK K al lo H us zs) {k : κ} {z : Z} (h : valZ zs k = some z) : ∃ v, valV us k = some v ∧ RepZ K al lo H v z := by
  induction r with
  | nil => cases h
  | @cons k' v z' vs zs a _ ih =>
    unfold valZ at h
    unfold valV
    rw [List.find?_cons] at h ⊢
    by_cases e : k' = k
    · simp only [e, decide_true] at h ⊢
      cases h
      exact ⟨v, rfl, a⟩
    · simp only [e, decide_false] at h ⊢
      exact ih h
theorem RepK.none {us : List (κ × V)} {zs : List (κ × Z)} (r : RepK K al lo H us zs) {k : κ} (h : valZ zs k = Option.none) : valV us k = Option.none := by
  induction r with
  | nil => rfl
  | @cons k' v z' vs zs a _ ih =>
    unfold valZ at h
    unfold valV
    rw [List.find?_cons] at h ⊢
    by_cases e : k' = k
    · simp only [e, decide_true] at h
      cases h
    · simp only [e, decide_false] at h ⊢
      exact ih h
theorem RepK.length {us : List (κ × V)} {zs : List (κ × Z)} (r : RepK K al lo H us zs) : us.length = zs.length := by
  induction r with
  | nil => rfl
  | cons _ _ ih => rw [List.length_cons, List.length_cons, ih]
theorem RepK.any {us : List (κ × V)} {zs : List (κ × Z)} (r : RepK K al lo H us zs) (k : κ) : (us.any fun kv => decide (kv.1 = k)) = zs.any fun kv => decide (kv.1 = k) := by
  induction r with
  | nil => rfl
  | cons _ _ ih => rw [List.any_cons, List.any_cons, ih]
theorem RepK.put {us : List (κ × V)} {zs : List (κ × Z)} (r : RepK K al lo H us zs) (k : κ) {v : V} {z : Z} (q : RepZ K al lo H v z) : RepK K al lo H (putK us k v) (putZ zs k z) := by
  unfold putK putZ
  rw [r.any k]
  split
  · rename_i hh
    clear hh
    induction r with
    | nil => exact .nil
    | @cons k' v' z' vs zs a _ ih =>
      rw [List.map_cons, List.map_cons]
      by_cases e : k' = k
      · simp only [e, if_true]
        exact .cons q ih
      · simp only [e, if_false]
        exact .cons a ih
  · rename_i hh
    clear hh
    induction r with
    | nil => exact .cons q .nil
    | cons a _ ih => exact .cons a ih
end
noncomputable def keyZ : D → Option Key
  | .int i => some (.inl i)
  | .str x => some (.inr x)
  | _ => none
theorem keyZ_rep {K : PySem.W.Frag} {al : Addr → Prop} {H : Hp} {v : V} {d : D} {k : Key} (r : Rep K al H v d) (h : keyZ d = some k) : v = kV k := by
  cases r with
  | int i => cases h; rfl
  | str i => cases h; rfl
  | _ => cases h
noncomputable def zGet (fo : ZEv → Sto → RX Z) (fk : Ev → R D) : ZEv → Sto → RX Z := fun ρ S => (fo ρ S).bind fun z S1 => (upR (fk (pur ρ)) S1).bind fun d S2 => match z, keyZ d with
  | .loc n, some k => (match S2[n]? with
    | some (.dk kvs) => (match valZ kvs k with
      | some z => .ok z S2
      | none => .bad)
    | _ => .bad)
  | _, _ => .bad
noncomputable def yDput (fo : ZEv → Sto → RX Z) (fk : Ev → R D) (f : ZEv → Sto → RX Z) : ZEv → Sto → RTZ := fun ρ S => toZ (f ρ S) fun v S0 => toZ (fo ρ S0) fun z S1 => toZ (upR (fk (pur ρ)) S1) fun d S2 => match z, keyZ d with
  | .loc n, some k => (match S2[n]? with
    | some (.dk kvs) => if kvs.length < sizeLine then .nx ρ (S2.set n (.dk (putZ kvs k v))) else .bad
    | _ => .bad)
  | _, _ => .bad
noncomputable def zLen (f : ZEv → Sto → RX Z) : ZEv → Sto → RX Z := fun ρ S => (f ρ S).bind fun z S1 => match z with
  | .loc n => (match S1[n]? with
    | some (.li zs) => .ok (.d (.int zs.length)) S1
    | _ => .bad)
  | _ => .bad
section
variable {X : Cx} {E : XK} {b : Nat} {o k e : Expr} {fo f : ZEv → Sto → RX Z} {fk : Ev → R D} {pos : Pos}
theorem nt_dK {l : List (Key × V)} : NT (.dK l) := fun _ h => nomatch h
theorem ze_dget (hu : X.A.units + 64 < cLine) (ho : ZE X E o fo) (hk : DE X E k fk) (hs : NoSl k := by exact fun _ _ => rfl) : ZE X E (.Subscript o k pos) (zGet fo fk) := by
  obtain ⟨to, po, ro⟩ := ho
  obtain ⟨tk, pk, rk⟩ := hk
  refine ⟨_, pe_dget (by omega) po pk hs, fun B al lo H σ ρ S Q s h => ro _ _ _ _ _ _ _ _ s (AftZ.mono (AftZ.split h) fun z al1 lo1 H1 S1 s1 x1 y1 h1 v rv => rk _ _ _ _ _ _ _ s1.rs (Aft.mono (AftZ.toAft s1 (AftZ.split h1)) fun d H2 s2 h2 u ru => ?_))⟩
  have s3 := s1.grow s2
  split at h2
  · rename_i n k0 hk0
    split at h2
    · rename_i kvs q
      split at h2
      · rename_i z0 q0
        obtain ⟨a, hn, rfl⟩ := rv
        have ek := keyZ_rep ru hk0
        subst ek
        obtain ⟨us, g1, g2⟩ := s3.cell hn q
        obtain ⟨w, e1, e2⟩ := g2.val q0
        refine ⟨a, w, rfl, ?_, h2 al1 lo1 H2 s3 .refl .refl w e2⟩
        rw [← e1]
        exact .k g1
      · exact h2.elim
    · exact h2.elim
  · exact h2.elim
theorem zs_dput {pos' : Pos} (hu : X.A.units + 64 < cLine) (ho : ZE X E o fo) (hk : DE X E k fk) (hv : ZE X E e f) (hs : swapsWith e (some (.Subscript o k pos')) pos.line X.env = pure false := by rfl) :
    ZS X E b (.Assign [.Subscript o k pos'] e pos) (yDput fo fk f) := by
  obtain ⟨to, po, ro⟩ := ho
  obtain ⟨tk, pk, rk⟩ := hk
  obtain ⟨tv, pv, rv⟩ := hv
  refine ⟨_, ps_dput (by omega) po pk pv hs, fun B hb al lo H σ ρ S D s h => rv _ _ _ _ _ _ _ _ s (AftZ.mono (okZ.ofX h) fun y al0 lo0 H0 S0 s0 x0 y0 h0 v0 r0 => ro _ _ _ _ _ _ _ _ s0 (AftZ.mono (okZ.ofX h0) fun z al1 lo1 H1 S1 s1 x1 y1 h1 v1 r1 => rk _ _ _ _ _ _ _ s1.rs (Aft.mono (AftZ.toAft s1 (okZ.ofX h1)) fun d H2 s2 h2 u ru => ?_)))⟩
  have s3 := s1.grow s2
  split at h2
  · rename_i n k0 hk0
    split at h2
    · rename_i kvs q
      split at h2
      · rename_i hl
        obtain ⟨a, hn, rfl⟩ := r1
        have ek := keyZ_rep ru hk0
        subst ek
        obtain ⟨us, g1, g2⟩ := s3.cell hn q
        have r0' : RepZ X.K al1 lo1 H2 v0 y := (r0.mv x1 y1).mv (.of s2) .refl
        have x2 : Xt al1 H2 al1 (upd H2 a (.dK (putK us k0 v0))) := fun b o _ hb eb => ⟨hb, by rw [upd_ne fun z => s3.st.na n a hn (by rw [← z]; exact hb)]; exact eb⟩
        obtain ⟨s4, x4⟩ := s3.write hn (o := .dK (putK us k0 v0)) (c := .dk (putZ kvs k0 y)) nt_dK (fun q w => by unfold CodeO at w; cases w) ⟨_, upd_same, RepK.mv x2 .refl (g2.put k0 r0')⟩ nofun
        exact ⟨a, _, rfl, .k g1 (by rw [g2.length]; exact hl), h2 _ _ _ _ x4 s4⟩
      · exact h2.elim
    · exact h2.elim
  · exact h2.elim
theorem ze_len {x : Str} {p : Pos} (hx : x = "len") (hg : Gl X x) (hm : X.mg x = none) (hv : bootBuiltins x = some (.builtin "len")) (ha : ZE X E e f) (hn : x ≠ "__name__" := by decide) (hdb : (x == ("__debug__" : Str)) = false := by decide)
    (he : starEach [e] X.env = (false, eval e X.env) :: starEach [] X.env := by rfl) (hpl : (backTo pos (starEach [] X.env)).any (·.1) = false := by rfl) : ZE X E (.Call (.Name x p) [e] [] pos) (zLen f) := by
  obtain ⟨ta, pa, ra⟩ := ha
  refine ⟨_, pe_callB call_len_seq hg hm hv (pa_cons pa pa_nil he) hn hdb he hpl, fun B al lo H σ ρ S Q s h => ra _ _ _ _ _ _ _ _ s (AftZ.mono (AftZ.split h) fun z al1 lo1 H1 S1 s1 x1 y1 h1 v rv => ?_)⟩
  split at h1
  · rename_i n
    split at h1
    · rename_i zs q
      obtain ⟨a, hn, rfl⟩ := rv
      obtain ⟨vs, g1, g2⟩ := s1.cell hn q
      rw [← g2.length] at h1
      exact ⟨a, vs, rfl, .inl (.inl (.inl g1)), h1 al1 lo1 H1 s1 .refl .refl _ (.int _)⟩
    · exact h1.elim
  · exact h1.elim
end
noncomputable def mrgZ (kvs more : List (Key × Z)) : List (Key × Z) := more.foldl (fun acc kv => putZ acc kv.1 kv.2) kvs
theorem RepK.merge {K : PySem.W.Frag} {al : Addr → Prop} {lo : Lo} {H : Hp} {ms : List (Key × V)} {ns : List (Key × Z)} (q : RepK K al lo H ms ns) : ∀ {us : List (Key × V)} {zs : List (Key × Z)}, RepK K al lo H us zs → RepK K al lo H (mergeK us ms) (mrgZ zs ns) := by
  induction q with
  | nil => exact fun r => r
  | cons a _ ih => exact fun r => ih (r.put _ a)
theorem RepK.zip {K : PySem.W.Frag} {al : Addr → Prop} {lo : Lo} {H : Hp} {ks : List Key} {vs : List V} {zs : List Z} (r : RepZs K al lo H vs zs) : RepK K al lo H (ks.zip vs) (ks.zip zs) := by
  induction r generalizing ks with
  | nil => rw [List.zip_nil_right, List.zip_nil_right]; exact .nil
  | cons a _ ih =>
    cases ks with
    | nil => exact .nil
    | cons k ks => exact .cons a ih
noncomputable def ZPs (X : Cx) (E : XK) (pos : Pos) (ks : List Key) (keys : List (Option Expr)) (es : List Expr) (f : ZEv → Sto → RX (List Z)) : Prop := ∃ trs : List (TE × TE), PPs X pos keys es trs ∧ ks.length = es.length ∧
  (∀ B al lo H σ ρ S (Q : List (V × V) → Hp → Prop), RZ X.K B al lo H σ ρ S → AftZ X.K B E al lo H σ ρ (f ρ S) (fun zs al' lo' H' _ => ∀ vs, vs.length = ks.length → RepZs X.K al' lo' H' vs zs → Q ((ks.map kV).zip vs) H') → tPairs trs σ H Q)
noncomputable def zDisp (ks : List Key) (f : ZEv → Sto → RX (List Z)) : ZEv → Sto → RX Z := fun ρ S => (f ρ (S ++ [.dk []])).bind fun zs S1 => match S1[S.length]? with
  | some (.dk []) => .ok (.loc S.length) (S1.set S.length (.dk (mrgZ [] (ks.zip zs))))
  | _ => .bad
section
variable {X : Cx} {E : XK} {b : Nat} {e : Expr} {f : ZEv → Sto → RX Z} {fs : ZEv → Sto → RX (List Z)} {pos : Pos} {ks : List Key} {keys : List (Option Expr)} {es : List Expr}
theorem zps_nil : ZPs X E pos [] [] [] zNil := ⟨_, pps_nil, rfl, fun B al lo H σ ρ S Q s h => h al lo H s .refl .refl [] rfl .nil⟩
theorem zps_cons {x : Str} {j p1} (he : ZE X E e f) (hr : ZPs X E pos ks keys es fs) : ZPs X E pos (.inr x :: ks) (some (.Constant (.str x) j p1) :: keys) (e :: es) (zCons f fs) := by
  obtain ⟨t, p, r⟩ := he
  obtain ⟨trs, ps, hl, rr⟩ := hr
  refine ⟨_, pps_cons pe_str p ps, by rw [List.length_cons, List.length_cons, hl], fun B al lo H σ ρ S Q s h => ?_⟩
  refine r _ _ _ _ _ _ _ _ s (AftZ.mono (AftZ.split h) fun z al1 lo1 H1 S1 s1 x1 y1 h1 v rv => rr _ _ _ _ _ _ _ _ s1 (AftZ.mono (AftZ.split h1) fun zs al2 lo2 H2 S2 s2 x2 y2 h2 vs hv rvs => ?_))
  exact h2 al2 lo2 H2 s2 .refl .refl (v :: vs) (by rw [List.length_cons, List.length_cons, hv]) (.cons (rv.mv x2 y2) rvs)
theorem zip_kv : ∀ (ks : List Key) (vs : List V), (ks.map kV).zip vs = (ks.zip vs).map fun kv => (kV kv.1, kv.2)
  | [], _ => by simp
  | _ :: _, [] => by simp
  | k :: ks, v :: vs => by rw [List.map_cons, List.zip_cons_cons, List.zip_cons_cons, List.map_cons, zip_kv ks vs]
theorem ze_disp (h : ZPs X E pos ks keys es fs) (hall : keys.all (·.isSome) = true := by rfl) (hl : keys.length = es.length := by rfl) (h0 : keys ≠ [] := by simp) (h15 : keys.length ≤ 15 := by decide) : ZE X E (.Dict keys es pos) (zDisp ks fs) := by
  obtain ⟨trs, ps, hk, rr⟩ := h
  refine ⟨_, pe_disp ps hall hl h0 h15, fun B al lo H σ ρ S Q s h => fun p hp => ?_⟩
  have hc : CellAt X.K (fun b => al b ∧ b ≠ p) (loNew lo S.length p) (upd H p (.dK [])) p (.dk []) := ⟨[], upd_same, .nil⟩
  have s1 := s.new hp nt_dK hc nofun
  have hn : loNew lo S.length p S.length = some p := by unfold loNew; rw [if_pos rfl]
  refine rr _ _ _ _ _ _ _ _ s1 (AftZ.mono (AftZ.up (AftZ.split h) (xt_new hp) (loNew_x s.st p)) fun zs al2 lo2 H2 S2 s2 x2 y2 h2 vs hv rvs => ?_)
  split at h2
  · rename_i q
    have hn2 := y2 _ _ hn
    obtain ⟨us, g1, g2⟩ := s2.cell hn2 q
    cases g2
    have x3 : Xt al2 H2 al2 (upd H2 p (.dK (mergeK [] (ks.zip vs)))) := fun b o _ hb eb => ⟨hb, by rw [upd_ne fun z => s2.st.na _ p hn2 (by rw [← z]; exact hb)]; exact eb⟩
    obtain ⟨s4, x4⟩ := s2.write hn2 (o := .dK (mergeK [] (ks.zip vs))) (c := .dk (mrgZ [] (ks.zip zs))) nt_dK (fun q w => by unfold CodeO at w; cases w) ⟨_, upd_same, RepK.mv x3 .refl ((RepK.zip rvs).merge .nil)⟩ nofun
    refine ⟨g1, ks.zip vs, zip_kv ks vs, ?_, h2 _ _ _ s4 x4 .refl _ ⟨p, hn2, rfl⟩⟩
    rw [List.length_zip]
    omega
  · exact h2.elim
end
end P2
namespace P2
open PySem L2
section
variable {P : Program} {w : World} {K : PySem.W.Frag} {mg : Str → Option Value} {base : Heap} {f : Addr} {fd : FuncData} {x : Str} {ps : List Str}
theorem fn_badD {k : Nat} : FnOk P w K mg base (CXx P w) k f fd ps (spD ps.length K fun _ => .bad) :=
  ⟨fun vs H Q E h => h.1, fun A outer s H args us vs Q E _ _ _ _ h => by obtain ⟨_, _, _, _, _, _, h⟩ := h; exact h.elim⟩
noncomputable def fixD (F0 : (List D → R D) → List D → R D) : Nat → List D → R D
  | 0 => fun _ => .bad
  | m + 1 => F0 (fixD F0 m)
theorem rec_D {k0 st n : Nat} {F0 : (List D → R D) → List D → R D} (hn : n = ps.length)
    (hHas : ∀ {k : Nat} {sp : Sp}, FnOk P w K mg base (CXx P w) k f fd ps sp → Has P w K mg base (CXx P w) k x ps sp)
    (step : ∀ (Fs : List D → R D) (k : Nat), k0 ≤ k → Has P w K mg base (CXx P w) k x ps (spD n K Fs) → FnOk P w K mg base (CXx P w) (k + st) f fd ps (spD n K (F0 Fs))) : ∀ m : Nat, FnOk P w K mg base (CXx P w) (k0 + m * st) f fd ps (spD n K (fixD F0 m))
  | 0 => by subst hn; exact fn_badD
  | m + 1 => by
    have := step (fixD F0 m) (k0 + m * st) (Nat.le_add_right _ _) (hHas (rec_D hn hHas step m))
    rw [Nat.succ_mul, ← Nat.add_assoc]
    exact this
end
section
variable {X : Cx} {E : XK}
theorem call_int_bl : CallR X (.type "int") (fun xs H Q => ∃ b : Bool, xs = [.bl b] ∧ Q (.int (if b then 1 else 0)) H) := by
  intro pins s σ H xs us Q I r h
  obtain ⟨b, rfl, q⟩ := h
  obtain ⟨u, rfl, ru⟩ := vals1 r
  cases ru
  exact call_int_bool ⟨.int _, H, I.tok _, ⟨_, rfl⟩, q⟩
noncomputable def intBD : List D → R D
  | [.bl b] => .ok (.int (if b then 1 else 0))
  | ds => intD ds
theorem call_intBD : CallD X E (.type "int") intBD := by
  obtain ⟨r0, o0, d0⟩ := call_intD (X := X) (E := E)
  refine ⟨_, call_int_bl.or o0, fun al H xs ds Q fr r h => ?_⟩
  unfold intBD at h
  split at h
  · obtain ⟨v, rfl, q⟩ := Reps.one r
    cases q
    exact .inl ⟨_, rfl, h H (.refl H) _ (.int _)⟩
  · exact .inr (d0 _ _ _ _ _ fr r h)
end
end P2
namespace WC
open PySem L2 P2 WP
noncomputable def b1_law_lowest (a : Ad) : Ev → RT := (sSeq (sSet 4 (d2 modD (dV 2) (dV 3)))
    (sSeq (sSet 2 (dV 3))
    (sSet 3 (dV 4))))
noncomputable def g_law_lowest (a : Ad) : Ev → RT := (sSeq (sSet 2 (dV 0))
    (sSeq (sSet 3 (dV 1))
    (sSeq (whileD (b1 tB (d2 gtD (dV 3) (dC (.int 0)))) (b1_law_lowest a) 10000000000000000000000000000000000000000000000000000000000000000000000000000000000000000000000000000000000000000000000000000000000000000000000000000000000000000000000000000000000000000000000000000000000000000000000000000000000000000000000000000000000000000000000000000000000000000000000000000000000000000000000000000000000000000000000000000000000000000000000000000000000000000000000000000000000000000)
    (sRet (dA mkT (aCons (d2 fdivD (dV 0) (dV 2)) (aCons (d2 fdivD (dV 1) (dV 2)) aNil)))))))
noncomputable def g_law_fraction (a : Ad) (F_law_lowest : List D → R D) : Ev → RT := (sSeq (sIf (b1 tB (d2 eqSD (d2 modD (dV 0) (dC (.int 3))) (dC (.int 0)))) (sRet (dA mkT (aCons (d2 modD (d2 fdivD (dV 0) (dC (.int 3))) (dC (.int 9))) (aCons (dC (.int 1)) aNil)))) sNil)
    (sSeq (sIf (b1 tB (d2 eqSD (d2 modD (dV 0) (dC (.int 3))) (dC (.int 1)))) (sRet (dA F_law_lowest (aCons (d2 modD (d2 fdivD (dV 0) (dC (.int 3))) (dC (.int 12))) (aCons (d2 addD (dC (.int 1)) (d2 modD (d2 fdivD (dV 0) (dC (.int 36))) (dC (.int 7)))) aNil)))) sNil)
    (sRet (dA F_law_lowest (aCons (d2 modD (d2 fdivD (dV 0) (dC (.int 3))) (d2 powD (dC (.int 10)) (dC (.int 9)))) (aCons (d2 addD (dC (.int 1)) (d2 modD (d2 mulUD (dV 0) (dC (.int 48271))) (dC (.int 999983)))) aNil))))))
noncomputable def g_law_mast (a : Ad) : Ev → RT := (sSeq (sSet 2 (d2 addD (dC (.int 1)) (d2 modD (dV 0) (dC (.int 8)))))
    (sSeq (sSet 3 (d2 modD (d2 fdivD (dV 0) (dC (.int 8))) (dV 2)))
    (sRet (d2 addD (d2 addD (d2 mulUD (dC (.str "q")) (dV 3)) (d2 ixD (dC (.str "zbxk")) (d2 modD (dV 1) (dC (.int 4))))) (d2 mulUD (dC (.str "q")) (d2 subD (d2 subD (dV 2) (dC (.int 1))) (dV 3)))))))
noncomputable def g_law_show (a : Ad) : Ev → RT := (sSeq (sSet 1 (dA strD (aCons (d2 ixD (dV 0) (dC (.int 0))) aNil)))
    (sSeq (sIf (b1 tB (d2 gtD (d2 ixD (dV 0) (dC (.int 1))) (dC (.int 1)))) (sSet 1 (d2 addD (d2 addD (dV 1) (dC (.str "/"))) (dA strD (aCons (d2 ixD (dV 0) (dC (.int 1))) aNil)))) sNil)
    (sRet (dV 1))))
noncomputable def g_law_leaf (a : Ad) (F_law_fraction : List D → R D) (F_law_show : List D → R D) (F_law_mast : List D → R D) : Ev → RT := (sSeq (sSet 2 (d2 modD (dV 1) (dC (.int 8))))
    (sSeq (sSet 3 (d2 addD (dC (.int 1)) (d2 modD (d2 fdivD (dV 1) (dC (.int 8))) (dC (.int 9)))))
    (sSeq (sIf (b1 tB (d2 ltD (dV 2) (dC (.int 2)))) (sSeq (sSet 4 (dA F_law_fraction (aCons (d2 fdivD (dV 1) (dC (.int 8))) aNil)))
    (sRet (dA mkT (aCons (dA mkT (aCons (dC (.str "num")) (aCons (dV 4) aNil))) (aCons (dA F_law_show (aCons (dV 4) aNil)) (aCons (dC (.int 3)) aNil)))))) sNil)
    (sSeq (sIf (b1 tB (d2 eqSD (dV 2) (dC (.int 2)))) (sRet (dA mkT (aCons (dA mkT (aCons (dC (.str "here")) aNil)) (aCons (dC (.str "here")) (aCons (dC (.int 3)) aNil))))) sNil)
    (sSeq (sIf (b1 tB (d2 eqSD (dV 2) (dC (.int 7)))) (sSeq (sSet 5 (dA F_law_mast (aCons (dV 0) (aCons (d2 fdivD (dV 1) (dC (.int 8))) aNil))))
    (sRet (dA mkT (aCons (dA mkT (aCons (dC (.str "at")) (aCons (dV 5) aNil))) (aCons (d2 addD (dC (.str "at ")) (dV 5)) (aCons (dC (.int 3)) aNil)))))) sNil)
    (sSeq (sSet 6 (d2 ixD (asN (fun ρ => ((aCons (dC (.str "back")) (aCons (dC (.str "on")) (aCons (dC (.str "ago")) (aCons (dC (.str "until")) aNil)))) ρ).bind fitL)) (d2 subD (dV 2) (dC (.int 3)))))
    (sRet (dA mkT (aCons (dA mkT (aCons (dV 6) (aCons (dV 3) aNil))) (aCons (d2 addD (d2 addD (dV 6) (dC (.str " "))) (dA strD (aCons (dV 3) aNil))) (aCons (dC (.int 3)) aNil)))))))))))
noncomputable def g_law_put (a : Ad) : Ev → RT := (sSeq (sIf (b1 tB (d2 ltD (d2 ixD (dV 0) (dC (.int 2))) (dV 1))) (sRet (d2 addD (d2 addD (d2 ixD (dV 2) (dC (.int 0))) (d2 ixD (dV 0) (dC (.int 1)))) (d2 ixD (dV 2) (dC (.int 1))))) sNil)
    (sRet (d2 ixD (dV 0) (dC (.int 1)))))
noncomputable def g_law_sum (a : Ad) (F_law_put : List D → R D) : Ev → RT := (sSeq (sSet 3 (d2 addD (d2 addD (d2 addD (d2 addD (dA F_law_put (aCons (dV 0) (aCons (dC (.int 1)) (aCons (dC (.str "()")) aNil)))) (dC (.str " "))) (dV 2)) (dC (.str " "))) (dA F_law_put (aCons (dV 1) (aCons (dC (.int 2)) (aCons (dC (.str "()")) aNil))))))
    (sRet (dA mkT (aCons (dA mkT (aCons (dV 2) (aCons (d2 ixD (dV 0) (dC (.int 0))) (aCons (d2 ixD (dV 1) (dC (.int 0))) aNil)))) (aCons (dV 3) (aCons (dC (.int 1)) aNil))))))
noncomputable def g_law_over_term (a : Ad) (F_law_fraction : List D → R D) (F_law_show : List D → R D) (F_law_put : List D → R D) : Ev → RT := (sSeq (sIf (b1 tB (d2 eqSD (d2 modD (dV 1) (dC (.int 2))) (dC (.int 0)))) (sRet (dA mkT (aCons (dA mkT (aCons (dC (.str "abs")) (aCons (d2 ixD (dV 0) (dC (.int 0))) aNil))) (aCons (d2 addD (d2 addD (dC (.str "abs(")) (d2 ixD (dV 0) (dC (.int 1)))) (dC (.str ")"))) (aCons (dC (.int 3)) aNil))))) sNil)
    (sSeq (sSet 2 (dA F_law_fraction (aCons (d2 fdivD (dV 1) (dC (.int 2))) aNil)))
    (sRet (dA mkT (aCons (dA mkT (aCons (dC (.str "times")) (aCons (dV 2) (aCons (d2 ixD (dV 0) (dC (.int 0))) aNil)))) (aCons (d2 addD (d2 addD (dA F_law_show (aCons (dV 2) aNil)) (dC (.str " * "))) (dA F_law_put (aCons (dV 0) (aCons (dC (.int 3)) (aCons (dC (.str "()")) aNil))))) (aCons (dC (.int 2)) aNil)))))))
noncomputable def g_law_compared (a : Ad) : Ev → RT := (sRet (dA mkT (aCons (dA mkT (aCons (dV 2) (aCons (d2 ixD (dV 0) (dC (.int 0))) (aCons (d2 ixD (dV 1) (dC (.int 0))) aNil)))) (aCons (d2 addD (d2 addD (d2 addD (d2 addD (d2 ixD (dV 0) (dC (.int 1))) (dC (.str " "))) (dV 2)) (dC (.str " "))) (d2 ixD (dV 1) (dC (.int 1)))) (aCons (dC (.int 4)) aNil)))))
noncomputable def g_law_joined (a : Ad) (F_law_put : List D → R D) : Ev → RT := (sSeq (sSet 3 (d2 addD (dC (.int 1)) (dA intBD (aCons (d2 eqSD (dV 2) (dC (.str "and"))) aNil))))
    (sSeq (sSet 4 (d2 addD (d2 addD (d2 addD (d2 addD (dA F_law_put (aCons (dV 0) (aCons (dV 3) (aCons (dC (.str "[]")) aNil)))) (dC (.str " "))) (dV 2)) (dC (.str " "))) (dA F_law_put (aCons (dV 1) (aCons (d2 addD (dV 3) (dC (.int 1))) (aCons (dC (.str "[]")) aNil))))))
    (sRet (dA mkT (aCons (dA mkT (aCons (dV 2) (aCons (d2 ixD (dV 0) (dC (.int 0))) (aCons (d2 ixD (dV 1) (dC (.int 0))) aNil)))) (aCons (dV 4) (aCons (dV 3) aNil)))))))
noncomputable def g_law_denied (a : Ad) (F_law_put : List D → R D) : Ev → RT := (sRet (dA mkT (aCons (dA mkT (aCons (dC (.str "not")) (aCons (d2 ixD (dV 0) (dC (.int 0))) aNil))) (aCons (d2 addD (dC (.str "not ")) (dA F_law_put (aCons (dV 0) (aCons (dC (.int 3)) (aCons (dC (.str "[]")) aNil))))) (aCons (dC (.int 3)) aNil)))))
noncomputable def g_law_rest (a : Ad) : Ev → RT := (sSeq (sSet 2 (d2 addD (dV 1) (d2 fdivD (d2 addD (dV 0) (dC (.int 1))) (dC (.int 2)))))
    (sRet (d2 addD (d2 addD (d2 addD (d2 fdivD (d2 addD (dV 0) (dC (.int 1))) (dC (.int 2))) (d2 modD (dV 0) (dC (.int 2)))) (dA max2D (aCons (dC (.int 0)) (aCons (d2 subD (dV 2) (dC (.int 1))) aNil)))) (d2 mulUD (dC (.int 3)) (dA intBD (aCons (d2 eqSD (dV 2) (dC (.int 0))) aNil))))))
noncomputable def g_law_step (a : Ad) (F_law_sum : List D → R D) (F_law_over_term : List D → R D) (F_law_compared : List D → R D) (F_law_denied : List D → R D) (F_law_joined : List D → R D) (F_law_leaf : List D → R D) (b : Nat) : ZEv → Sto → RTZ := (ySeq (ySet 3 (zGet (zV 0) (dC (.str "terms"))))
    (ySeq (ySet 4 (zGet (zV 0) (dC (.str "conds"))))
    (ySeq (ySet 5 (zD (d2 modD (dV 1) (dC (.int 16)))))
    (ySeq (yIf (zRB (bAnd (b1 tB (d2 inLD (dV 5) (dA mkT (aCons (dC (.int 6)) (aCons (dC (.int 7)) aNil))))) (b1 tB (d2 gtD (dA lenD (aCons (dV 3) aNil)) (dC (.int 1)))))) (ySeq (ySet 6 (zPop 3))
    (yApp 3 (zF F_law_sum (zCons (zPop 3) (zCons (zD (dV 6)) (zCons (zD (d2 ixD (asN (fun ρ => ((aCons (dC (.str "+")) (aCons (dC (.str "-")) aNil)) ρ).bind fitL)) (d2 subD (dV 5) (dC (.int 6))))) zNil)))))) (yIf (zAndB (zB (b1 tB (d2 inLD (dV 5) (dA mkT (aCons (dC (.int 8)) (aCons (dC (.int 9)) aNil)))))) (zAndB (zRB (b1 tB (d2 gtD (dA lenD (aCons (dV 3) aNil)) (dC (.int 0))))) (zTst tB (z2 ltD (zGet (zV 0) (dC (.str "over"))) (zD (dC (.int 3))))))) (ySeq (yApp 3 (zF F_law_over_term (zCons (zPop 3) (zCons (zD (d2 fdivD (dV 1) (dC (.int 16)))) zNil))))
    (yDput (zV 0) (dC (.str "over")) (z2 addD (zGet (zV 0) (dC (.str "over"))) (zD (dC (.int 1)))))) (yIf (zRB (bAnd (b1 tB (d2 inLD (dV 5) (dA mkT (aCons (dC (.int 10)) (aCons (dC (.int 11)) aNil))))) (b1 tB (d2 gtD (dA lenD (aCons (dV 3) aNil)) (dC (.int 1)))))) (ySeq (ySet 6 (zPop 3))
    (yApp 4 (zF F_law_compared (zCons (zPop 3) (zCons (zD (dV 6)) (zCons (zD (d2 ixD (asN (fun ρ => ((aCons (dC (.str "<")) (aCons (dC (.str "=")) aNil)) ρ).bind fitL)) (d2 subD (dV 5) (dC (.int 10))))) zNil)))))) (yIf (zRB (bAnd (b1 tB (d2 eqSD (dV 5) (dC (.int 12)))) (b1 tB (d2 gtD (dA lenD (aCons (dV 4) aNil)) (dC (.int 0)))))) (yApp 4 (zF F_law_denied (zCons (zPop 4) zNil))) (yIf (zRB (bAnd (b1 tB (d2 inLD (dV 5) (dA mkT (aCons (dC (.int 13)) (aCons (dC (.int 14)) aNil))))) (b1 tB (d2 gtD (dA lenD (aCons (dV 4) aNil)) (dC (.int 1)))))) (ySeq (ySet 6 (zPop 4))
    (yApp 4 (zF F_law_joined (zCons (zPop 4) (zCons (zD (dV 6)) (zCons (zD (d2 ixD (asN (fun ρ => ((aCons (dC (.str "and")) (aCons (dC (.str "or")) aNil)) ρ).bind fitL)) (d2 subD (dV 5) (dC (.int 13))))) zNil)))))) (yApp 3 (zD (dA F_law_leaf (aCons (dV 2) (aCons (d2 fdivD (dV 1) (dC (.int 16))) aNil))))))))))
    (yDput (zV 0) (dC (.str "parts")) (z2 addD (zGet (zV 0) (dC (.str "parts"))) (zD (dC (.int 1)))))))))
noncomputable def b1_law_ended (a : Ad) (F_law_compared : List D → R D) (F_law_joined : List D → R D) : ZEv → Sto → RTZ := (ySeq (ySet 5 (zPop 2))
    (yApp 3 (zF F_law_compared (zCons (zPop 2) (zCons (zD (dV 5)) (zCons (zD (dC (.str "<"))) zNil))))))
noncomputable def b2_law_ended (a : Ad) (F_law_compared : List D → R D) (F_law_joined : List D → R D) : ZEv → Sto → RTZ := (ySeq (ySet 5 (zPop 3))
    (yApp 3 (zF F_law_joined (zCons (zPop 3) (zCons (zD (dV 5)) (zCons (zD (dV 1)) zNil))))))
noncomputable def g_law_ended (a : Ad) (F_law_compared : List D → R D) (F_law_joined : List D → R D) (b : Nat) : ZEv → Sto → RTZ := (ySeq (ySet 2 (zGet (zV 0) (dC (.str "terms"))))
    (ySeq (ySet 3 (zGet (zV 0) (dC (.str "conds"))))
    (ySeq (ySet 4 (zD (dA mkT (aCons (dA mkT (aCons (dC (.str "here")) aNil)) (aCons (dC (.str "here")) (aCons (dC (.int 3)) aNil))))))
    (ySeq (yIf (zRB (b1 tB (d2 eqSD (d2 addD (dA lenD (aCons (dV 2) aNil)) (dA lenD (aCons (dV 3) aNil))) (dC (.int 0))))) (yApp 2 (zD (dV 4))) yNil)
    (ySeq (yIf (zRB (b1 tB (d2 eqSD (d2 modD (dA lenD (aCons (dV 2) aNil)) (dC (.int 2))) (dC (.int 1))))) (yApp 2 (zD (dV 4))) yNil)
    (ySeq (whileZ (zRB (b1 tB (d2 gtD (dA lenD (aCons (dV 2) aNil)) (dC (.int 0))))) (b1_law_ended a F_law_compared F_law_joined) 100)
    (ySeq (whileZ (zRB (b1 tB (d2 gtD (dA lenD (aCons (dV 3) aNil)) (dC (.int 1))))) (b2_law_ended a F_law_compared F_law_joined) 100)
    (yRet (zR (d2 ixD (dV 3) (dC (.int 0))))))))))))
noncomputable def b1_law_condition (a : Ad) (F_law_rest : List D → R D) (Z_law_step : List Z → Sto → RX Z) (Z_law_ended : List Z → Sto → RX Z) : ZEv → Sto → RTZ := (ySeq (ySet 5 (zLen (zGet (zV 3) (dC (.str "conds")))))
    (ySeq (ySet 6 (zF max2D (zCons (zF F_law_rest (zCons (zLen (zGet (zV 3) (dC (.str "terms")))) (zCons (zD (dV 5)) zNil))) (zCons (zF F_law_rest (zCons (z2 addD (zLen (zGet (zV 3) (dC (.str "terms")))) (zD (dC (.int 1)))) (zCons (zD (dV 5)) zNil))) zNil))))
    (ySeq (yIf (zTst tB (z2 gtD (z2 addD (z2 addD (zGet (zV 3) (dC (.str "parts"))) (zD (dC (.int 1)))) (zD (dV 6))) (zD (dC (.int 30))))) RTZ.bk yNil)
    (yExpr (zZ Z_law_step (zCons (zV 3) (zCons (zD (dV 4)) (zCons (zD (dV 0)) zNil))))))))
noncomputable def g_law_condition (a : Ad) (F_law_rest : List D → R D) (Z_law_step : List Z → Sto → RX Z) (Z_law_ended : List Z → Sto → RX Z) (b : Nat) : ZEv → Sto → RTZ := (ySeq (ySet 3 (zDisp [.inr "terms", .inr "conds", .inr "parts", .inr "over"] (zCons (zNew (fun ρ => (aNil ρ).bind fitL)) (zCons (zNew (fun ρ => (aNil ρ).bind fitL)) (zCons (zD (dC (.int 0))) (zCons (zD (dC (.int 0))) zNil))))))
    (ySeq (yFor (fun ρ => ((dV 1) ρ).bind asI) (hV 4) (b1_law_condition a F_law_rest Z_law_step Z_law_ended))
    (yRet (zZ Z_law_ended (zCons (zV 3) (zCons (zD (dV 2)) zNil))))))
end WC
namespace WC
open PySem L2 P2 WP TM T2 PySem.NumText
local macro_rules | `(tactic| walk_at "den") => `(tactic| try simp (disch := first | assumption | decide | exact Nat.le_of_ble_eq_true rfl) only [q_bind_k, q_bind_x, q_bind_b, q_toS_k, q_toS_x, q_toS_b, q_seq_n, q_seq_r, q_seq_x, q_seq_b, q_turn_n, q_turn_c, q_turn_k, q_turn_r, q_turn_b, q_turn_x, q_fin_r, q_fin_n, q_fin_x, q_noEx_k, q_okO_k, q_ofO_s, q_sSeq_a, q_sNil_a, q_sRet_a, q_sExpr_a, q_sSet_a, q_sIf_a, q_dC_a, q_d1_a, q_d2_a, q_b1B_a, q_b1T_a, q_bAnd_a, q_bOr_a, q_bNot_a, q_dAnd_a, q_dOr_a, q_dNot_a, q_dIf_a, q_dA_a, q_aNil_a, q_aCons_a, q_asN_a, q_dMt_a, q_dSl_a, q_dComp_a, q_sFor_a, q_toO_s, q_gV_a, q_tB_b, q_tT_b, q_tT_i, q_tT_n, q_tT_l, q_tT_t, q_add_i, q_sub_i, q_fdiv_p, q_mod_p, q_lt_i, q_le_i, q_gt_i, q_ge_i, q_neg_i, q_eq_i, q_eq_s, q_eq_b, q_ne_i, q_ne_s, q_in_s, q_ix_l, q_ix_t, q_ix_s, q_sl_l, q_sl_s, q_pI_i, q_len_s, q_len_l, q_len_t, q_abs_i, q_max_i, q_int_s, q_all_l, q_any_l, q_st_s, q_zf_s, q_hs_s, q_fit_p, q_add_sp, q_add_lp, q_mkT_p, q_asI_l, q_asI_t, q_asI_s, q_fmt_s, q_jNil_a, q_jCons_k, q_isX_i, q_isX_b, q_isX_s, q_isX_t, q_isX_l, q_slW_l, q_slW_s, q_is_bb, q_isn_bb, q_is_nn, q_isn_nn, q_is_tn, q_isn_tn, q_v0, q_v1, q_v2, q_v3, q_v4, q_v5, q_v6, q_v7, q_v8, q_v9, q_v10, q_v11, q_v12, q_v13, startD, List.map_cons, List.map_nil, List.length_cons, List.length_nil, Nat.sub_self, Nat.reduceAdd, Nat.reduceSub, List.replicate_zero, List.replicate_succ, List.append_nil, List.nil_append, List.cons_append, List.set_cons_zero, List.set_cons_succ, if_true, if_false, Nat.reduceLT, Nat.zero_lt_succ, Bool.not_true, Bool.not_false, Bool.false_eq_true, reduceIte, decide_true, decide_false, Int.reduceLT, Int.reduceEq, Int.reduceNeg, Int.reducePow, Int.reduceSub, Int.reduceAdd, Int.reduceMul,  List.length_set])
variable {a : Ad}
theorem mk_app (x y : List Nat) : mkS x ++ mkS y = mkS (x ++ y) := by
  apply TM.ext
  rw [cds_app]
  rfl
theorem mk_len (x : List Nat) : (mkS x).length = x.length := by rw [len_cds]; rfl
theorem mk_int (i : Int) : Str.ofString (toString i) = mkS (numI i) := by
  apply TM.ext
  rw [cds_int]
  rfl
theorem fits {n : Nat} (h : n ≤ 100000) : n ≤ sizeLine := size_of (by omega)
theorem addM {x y : List Nat} (h1 : x.length ≤ 50000) (h2 : y.length ≤ 50000) : addD (.str (mkS x)) (.str (mkS y)) = .ok (.str (mkS (x ++ y))) := by
  show (if (mkS x).length + (mkS y).length ≤ sizeLine then R.ok (D.str (mkS x ++ mkS y)) else .bad) = _
  rw [mk_len, mk_len, if_pos (fits (by omega)), mk_app]
theorem fmtS {x : List Nat} (h : x.length ≤ 50000) : fmtD (.str (mkS x)) = .ok (.str (mkS x)) := by
  show (if (mkS x).length ≤ sizeLine then R.ok (D.str (mkS x)) else .bad) = _
  rw [mk_len, if_pos (fits (by omega))]
theorem fmtI {i : Int} (h : i.natAbs < 10 ^ 400) : fmtD (.int i) = .ok (.str (mkS (numI i))) := by rw [q_fmtU h, mk_int]
theorem strI {i : Int} (h : i.natAbs < 10 ^ 400) : strD [.int i] = .ok (.str (mkS (numI i))) := by rw [q_strU h, mk_int]
theorem jC {f : Ev → R D} {fj : Str → Ev → R D} {x y : List Nat} {ρ : Ev} (h : f ρ = .ok (.str (mkS y))) (hl : x.length + y.length ≤ 100000) : jCons f fj (mkS x) ρ = fj (mkS (x ++ y)) ρ := by
  show (f ρ).bind (fun z => match z with | .str y => if (mkS x ++ y).length ≤ sizeLine then fj (mkS x ++ y) ρ else .bad | _ => .bad) = _
  rw [h]
  show (if (mkS x ++ mkS y).length ≤ sizeLine then fj (mkS x ++ mkS y) ρ else .bad) = _
  rw [mk_app, mk_len, List.length_append, if_pos (fits hl)]
theorem jN {x : List Nat} {ρ : Ev} (hl : x.length ≤ 100000) : jNil (mkS x) ρ = .ok (.str (mkS x)) := by
  show (if (mkS x).length ≤ sizeLine then R.ok (D.str (mkS x)) else .bad) = _
  rw [mk_len, if_pos (fits hl)]
theorem em : Str.empty = mkS [] := rfl
theorem m_joined {x y z : List Nat} (h1 : x.length ≤ 30000) (h2 : y.length ≤ 100) (h3 : z.length ≤ 30000) : finT (g_joined a (startD 3 [.str (mkS x), .str (mkS y), .str (mkS z)])) = .ok (.str (mkS (x ++ 32 :: (y ++ 32 :: z)))) := by
  have s : (dC (.str (Str.ofString " "))) [.sh (.str (mkS x)), .sh (.str (mkS y)), .sh (.str (mkS z))] = .ok (.str (mkS [32])) := rfl
  have v0 : (d1 fmtD (dV 0)) [.sh (.str (mkS x)), .sh (.str (mkS y)), .sh (.str (mkS z))] = .ok (.str (mkS x)) := fmtS (by omega)
  have v1 : (d1 fmtD (dV 1)) [.sh (.str (mkS x)), .sh (.str (mkS y)), .sh (.str (mkS z))] = .ok (.str (mkS y)) := fmtS (by omega)
  have v2 : (d1 fmtD (dV 2)) [.sh (.str (mkS x)), .sh (.str (mkS y)), .sh (.str (mkS z))] = .ok (.str (mkS z)) := fmtS (by omega)
  show finT (toS ((jCons (d1 fmtD (dV 0)) (jCons (dC (.str " ")) (jCons (d1 fmtD (dV 1)) (jCons (dC (.str " ")) (jCons (d1 fmtD (dV 2)) jNil))))) (mkS []) [.sh (.str (mkS x)), .sh (.str (mkS y)), .sh (.str (mkS z))]) RT.rt) = _
  rw [jC v0 (by simp; omega), jC s (by simp; omega), jC v1 (by simp; omega), jC s (by simp; omega), jC v2 (by simp; omega), jN (by simp; omega)]
  show R.ok (D.str _) = _
  simp
noncomputable abbrev pr (p q : Int) : D := .tup [.int p, .int q]
inductive Tm where
  | num (p q : Int) | here | plc (w : Nat) (n : Int) | at (m : List Nat) | bin (s : Bool) (x y : Tm) | times (p q : Int) (x : Tm) | abs (x : Tm)
noncomputable def wd (w : Nat) : Str := if w = 0 then "back" else if w = 1 then "on" else if w = 2 then "ago" else "until"
noncomputable def sg (s : Bool) : Str := if s = true then "+" else "-"
noncomputable def Tm.k : Tm → Str
  | .num _ _ => "num"
  | .here => "here"
  | .plc w _ => wd w
  | .at _ => "at"
  | .bin s _ _ => sg s
  | .times _ _ _ => "times"
  | .abs _ => "abs"
noncomputable def Tm.d : Tm → D
  | .num p q => .tup [.str "num", pr p q]
  | .here => .tup [.str "here"]
  | .plc w n => .tup [.str (wd w), .int n]
  | .at m => .tup [.str "at", .str (mkS m)]
  | .bin s x y => .tup [.str (sg s), x.d, y.d]
  | .times p q x => .tup [.str "times", pr p q, x.d]
  | .abs x => .tup [.str "abs", x.d]
noncomputable def Tm.rk : Tm → Int
  | .bin _ _ _ => 1
  | .times _ _ _ => 2
  | _ => 3
noncomputable def brk (o c : Nat) (b : Bool) (x : List Nat) : List Nat := if b = true then o :: (x ++ [c]) else x
noncomputable def Tm.tx : Tm → List Nat
  | .num p q => showF p q
  | .here => cds "here"
  | .plc w n => cds (wd w) ++ 32 :: numI n
  | .at m => cds "at" ++ 32 :: m
  | .bin s x y => x.tx ++ 32 :: (cds (sg s) ++ 32 :: brk 40 41 (decide (y.rk < 2)) y.tx)
  | .times p q x => showF p q ++ 32 :: ([42] ++ 32 :: brk 40 41 (decide (x.rk < 3)) x.tx)
  | .abs x => [97, 98, 115, 40] ++ (x.tx ++ [41])
noncomputable def Tm.sz : Tm → Nat
  | .bin _ x y => x.sz + y.sz + 1
  | .times _ _ x => x.sz + 1
  | .abs x => x.sz + 1
  | _ => 1
structure Fq (p q : Int) : Prop where
  nn : 0 ≤ p
  low : FM.Low p q
  p : p.natAbs < 10 ^ 9
  q : 0 < q ∧ q.natAbs < 10 ^ 6
noncomputable def Tm.Ok : Tm → Prop
  | .num p q => Fq p q
  | .plc _ n => 1 ≤ n ∧ n ≤ 9
  | .at m => m.length ≤ 8 ∧ m ≠ [] ∧ ∀ c ∈ m, 97 ≤ c ∧ c ≤ 122
  | .bin _ x y => x.Ok ∧ y.Ok
  | .times p q x => Fq p q ∧ x.Ok
  | .abs x => x.Ok
  | .here => True
theorem numI_len {i : Int} (h : i.natAbs < 10 ^ 9) : (numI i).length ≤ 10 := by
  have := num_len (k := 8) (m := i.natAbs) h
  unfold numI
  split
  · rw [List.length_cons]; omega
  · omega
theorem showF_len {p q : Int} (h : Fq p q) : (showF p q).length ≤ 20 := by
  have h1 := numI_len h.p
  have h2 := num_len (k := 8) (m := q.natAbs) (Nat.lt_of_lt_of_le h.q.2 (by decide))
  unfold showF
  split
  · omega
  · rw [List.length_append, List.length_cons]; omega
theorem wd_len (w : Nat) : (cds (wd w)).length ≤ 5 := by
  unfold wd
  split
  · decide
  · split
    · decide
    · split <;> decide
theorem sg_len (s : Bool) : (cds (sg s)).length = 1 := by cases s <;> decide
theorem brk_len (o c : Nat) (b : Bool) (x : List Nat) : (brk o c b x).length ≤ x.length + 2 := by
  unfold brk
  split
  · simp
  · omega
theorem Tm.len : ∀ {t : Tm}, t.Ok → t.tx.length ≤ 40 * t.sz
  | .num p q, h => by have := showF_len h; show (showF p q).length ≤ 40 * 1; omega
  | .here, _ => by decide
  | .plc w n, h => by
    have h1 := wd_len w
    have h' : 1 ≤ n ∧ n ≤ 9 := h
    have h2 := numI_len (i := n) (by omega)
    show (cds (wd w) ++ 32 :: numI n).length ≤ 40 * 1
    rw [List.length_append, List.length_cons]; omega
  | .at m, h => by
    have h' : m.length ≤ 8 := h.1
    show (cds "at" ++ 32 :: m).length ≤ 40 * 1
    rw [List.length_append, List.length_cons, show (cds "at").length = 2 by decide]; omega
  | .bin s x y, h => by
    have h1 := Tm.len h.1
    have h2 := Tm.len h.2
    have h3 := sg_len s
    have h4 := brk_len 40 41 (decide (y.rk < 2)) y.tx
    show (x.tx ++ 32 :: (cds (sg s) ++ 32 :: brk 40 41 (decide (y.rk < 2)) y.tx)).length ≤ 40 * (x.sz + y.sz + 1)
    rw [List.length_append, List.length_cons, List.length_append, List.length_cons]; omega
  | .times p q x, h => by
    have h1 := showF_len h.1
    have h2 := Tm.len h.2
    have h4 := brk_len 40 41 (decide (x.rk < 3)) x.tx
    show (showF p q ++ 32 :: ([42] ++ 32 :: brk 40 41 (decide (x.rk < 3)) x.tx)).length ≤ 40 * (x.sz + 1)
    simp only [List.length_append, List.length_cons, List.length_nil]; omega
  | .abs x, h => by
    have h2 := Tm.len (t := x) h
    show ([97, 98, 115, 40] ++ (x.tx ++ [41])).length ≤ 40 * (x.sz + 1)
    simp; omega
theorem Tm.pos (t : Tm) : 1 ≤ t.sz := by cases t <;> simp [Tm.sz]
theorem Tm.d0 (t : Tm) : ∃ r, t.d = .tup (.str t.k :: r) := by cases t <;> exact ⟨_, rfl⟩
theorem m_tight {Fs : List D → R D} {t : Tm} {L : D} {b : Bool} (h : Fs [t.d] = .ok (.str (mkS t.tx))) (hl : t.tx.length ≤ 20000) (hb : inLD (.str t.k) L = .ok (.bl b)) :
    finT (g_show_tight a Fs (startD 3 [t.d, L])) = .ok (.str (mkS (brk 40 41 b t.tx))) := by
  obtain ⟨r, e⟩ := t.d0
  rw [e] at h ⊢
  have i0' : L2.atI (D.str t.k :: r) ((0 : Nat) : Int) = some (.str t.k) := atI_nat rfl
  have i0 : L2.atI (D.str t.k :: r) 0 = some (.str t.k) := i0'
  have s1 : (dC (.str (Str.ofString "("))) [.sh (.tup (.str t.k :: r)), .sh L, .sh (.str (mkS t.tx))] = .ok (.str (mkS [40])) := rfl
  have s2 : (dC (.str (Str.ofString ")"))) [.sh (.tup (.str t.k :: r)), .sh L, .sh (.str (mkS t.tx))] = .ok (.str (mkS [41])) := rfl
  have v2 : (d1 fmtD (dV 2)) [.sh (.tup (.str t.k :: r)), .sh L, .sh (.str (mkS t.tx))] = .ok (.str (mkS t.tx)) := fmtS (by omega)
  have tst : (P2.b1 tB (d2 inLD (d2 ixD (dV 0) (dC (.int 0))) (dV 1))) [.sh (.tup (.str t.k :: r)), .sh L, .sh (.str (mkS t.tx))] = .ok b := by
    iterate 4 (walk_at "den"; try simp only [i0, hb])
  unfold g_show_tight
  generalize (P2.b1 tB (d2 inLD (d2 ixD (dV 0) (dC (.int 0))) (dV 1))) = tt at tst ⊢
  have j : ((jCons (dC (.str "(")) (jCons (d1 fmtD (dV 2)) (jCons (dC (.str ")")) jNil))) Str.empty) [.sh (.tup (.str t.k :: r)), .sh L, .sh (.str (mkS t.tx))] = .ok (.str (mkS (40 :: (t.tx ++ [41])))) := by
    rw [em, jC s1 (by simp), jC v2 (by simp; omega), jC s2 (by simp; omega), jN (by simp; omega)]
    rfl
  generalize ((jCons (dC (.str "(")) (jCons (d1 fmtD (dV 2)) (jCons (dC (.str ")")) jNil))) Str.empty) = jj at j ⊢
  cases b with
  | true => iterate 7 (walk_at "den"; try simp only [h, tst, j]); try rfl
  | false => iterate 7 (walk_at "den"; try simp only [h, tst, j]); try rfl
noncomputable def F0T (a : Ad) (Fs : List D → R D) : List D → R D := fun ds => finT (g_show_term a (fun ds => finT (g_show_tight a Fs (startD 3 ds))) Fs (fun ds => finT (g_joined a (startD 3 ds))) (fun ds => finT (g_show_fraction a (startD 3 ds))) (startD 4 ds))
theorem pys_strs : ∀ ys : List Str, pyDs (ys.map D.str) = some (ys.map PyData.str)
  | [] => rfl
  | y :: ys => by show (pyD (.str y)).bind (fun p => (pyDs (ys.map D.str)).map (p :: ·)) = _; rw [pys_strs ys]; rfl
theorem lay_strs : ∀ ys : List Str, (∀ y ∈ ys, PyData.strOk y = true) → PyData.canLayAll0 (ys.map PyData.str) = true
  | [], _ => by simp [PyData.canLayAll0]
  | y :: ys, h => by
    have := lay_strs ys fun z hz => h z (.tail _ hz)
    simp [PyData.canLayAll0, PyData.canLay0, this, h y (.head _)]
theorem any_strs (x : Str) : ∀ ys : List Str, ((ys.map PyData.str).any fun y => PyData.eqv y (.str x)) = ys.any fun y => y == x
  | [] => rfl
  | y :: ys => by rw [List.map_cons, List.any_cons, List.any_cons, any_strs x ys]; simp [PyData.eqv]
theorem has_strs {x : Str} {ys : List Str} (hx : PyData.strOk x = true) (hy : ∀ y ∈ ys, PyData.strOk y = true) : hasV (.str x) (ys.map D.str) = some (ys.any fun y => y == x) := by
  unfold hasV
  rw [pys_strs]
  show (if (PyData.canLayAll0 (ys.map PyData.str) && PyData.canLay0 (.str x) && decide ((PyData.str x).depth ≤ 63)) = true then some ((ys.map PyData.str).any fun y => PyData.eqv y (.str x)) else none) = _
  rw [lay_strs ys hy, any_strs, if_pos]
  simp [PyData.canLay0, hx, PyData.depth]
theorem in_strs {x : Str} {ys : List Str} (hx : PyData.strOk x = true) (hy : ∀ y ∈ ys, PyData.strOk y = true) : inLD (.str x) (.tup (ys.map D.str)) = .ok (.bl (ys.any fun y => y == x)) := by
  unfold inLD
  dsimp only
  rw [has_strs hx hy]
theorem k_is (t : Tm) : (t.k, t.rk) ∈ ([("+", 1), ("-", 1), ("times", 2), ("num", 3), ("here", 3), ("back", 3), ("on", 3), ("ago", 3), ("until", 3), ("at", 3), ("abs", 3)] : List (Str × Int)) := by
  cases t with
  | bin s x y => cases s <;> simp [Tm.k, Tm.rk, sg]
  | plc w n =>
    simp only [Tm.k, Tm.rk]
    unfold wd
    split
    · simp
    · split
      · simp
      · split <;> simp
  | _ => simp [Tm.k, Tm.rk]
theorem k_ok (t : Tm) : PyData.strOk t.k = true := by
  have h := k_is t
  have al : ∀ p ∈ ([("+", 1), ("-", 1), ("times", 2), ("num", 3), ("here", 3), ("back", 3), ("on", 3), ("ago", 3), ("until", 3), ("at", 3), ("abs", 3)] : List (Str × Int)), PyData.strOk p.1 = true := by decide +kernel
  exact al _ h
theorem in_pm_t (t : Tm) : inLD (.str t.k) (.tup [.str "+", .str "-"]) = .ok (.bl (decide (t.rk < 2))) := by
  have h := in_strs (x := t.k) (ys := ["+", "-"]) (k_ok t) (by decide +kernel)
  have al : ∀ p ∈ ([("+", 1), ("-", 1), ("times", 2), ("num", 3), ("here", 3), ("back", 3), ("on", 3), ("ago", 3), ("until", 3), ("at", 3), ("abs", 3)] : List (Str × Int)), ((["+", "-"] : List Str).any fun y => y == p.1) = decide (p.2 < 2) := by decide +kernel
  rw [al _ (k_is t)] at h
  exact h
theorem in_pmt_t (t : Tm) : inLD (.str t.k) (.tup [.str "+", .str "-", .str "times"]) = .ok (.bl (decide (t.rk < 3))) := by
  have h := in_strs (x := t.k) (ys := ["+", "-", "times"]) (k_ok t) (by decide +kernel)
  have al : ∀ p ∈ ([("+", 1), ("-", 1), ("times", 2), ("num", 3), ("here", 3), ("back", 3), ("on", 3), ("ago", 3), ("until", 3), ("at", 3), ("abs", 3)] : List (Str × Int)), ((["+", "-", "times"] : List Str).any fun y => y == p.1) = decide (p.2 < 3) := by decide +kernel
  rw [al _ (k_is t)] at h
  exact h
noncomputable def Tm.dp : Tm → Nat
  | .bin _ x y => max x.dp y.dp + 1
  | .times _ _ x => x.dp + 1
  | .abs x => x.dp + 1
  | _ => 1
theorem Tm.dp_le (t : Tm) : t.dp ≤ t.sz := by
  induction t with
  | bin s x y ih1 ih2 => show max x.dp y.dp + 1 ≤ x.sz + y.sz + 1; omega
  | times p q x ih => show x.dp + 1 ≤ x.sz + 1; omega
  | abs x ih => show x.dp + 1 ≤ x.sz + 1; omega
  | _ => exact Nat.le_refl _
theorem k_no (t : Tm) : ∀ x : Str, (t.k == x) = false → decide (t.k = x) = false := fun x h => by
  apply decide_eq_false
  intro w
  rw [w] at h
  simp at h
section
variable {Ft Fs Fj Ff : List D → R D} {z : List Nat}
theorem t_num {p q : Int} (f : Ff [pr p q] = .ok (.str (mkS z))) : finT (g_show_term a Ft Fs Fj Ff (startD 4 [(Tm.num p q).d])) = .ok (.str (mkS z)) := by
  have k : inLD (.str (Str.ofString "num")) (.tup [.str (Str.ofString "+"), .str (Str.ofString "-")]) = .ok (.bl false) := in_pm_t (.num p q)
  have i0 : L2.atI [D.str (Str.ofString "num"), pr p q] 0 = some (.str (Str.ofString "num")) := rfl
  have i1 : L2.atI [D.str (Str.ofString "num"), pr p q] 1 = some (pr p q) := rfl
  have l2 : 2 ≤ sizeLine := by decide
  have e1 : decide (Str.ofString "num" = Str.ofString "times") = false := by decide +kernel
  have e2 : decide (Str.ofString "num" = Str.ofString "abs") = false := by decide +kernel
  show finT (g_show_term a Ft Fs Fj Ff (startD 4 [.tup [.str (Str.ofString "num"), pr p q]])) = _
  unfold g_show_term
  iterate 9 (walk_at "den"; try simp only [i0, i1, k, e1, e2, f, if_pos l2])
theorem t_here : finT (g_show_term a Ft Fs Fj Ff (startD 4 [Tm.here.d])) = .ok (.str (mkS (Tm.here.tx))) := by
  have k : inLD (.str (Str.ofString "here")) (.tup [.str (Str.ofString "+"), .str (Str.ofString "-")]) = .ok (.bl false) := in_pm_t .here
  have i0 : L2.atI [D.str (Str.ofString "here")] 0 = some (.str (Str.ofString "here")) := rfl
  have l2 : 2 ≤ sizeLine := by decide
  have e1 : decide (Str.ofString "here" = Str.ofString "times") = false := by decide +kernel
  have e2 : decide (Str.ofString "here" = Str.ofString "abs") = false := by decide +kernel
  have e3 : decide (Str.ofString "here" = Str.ofString "num") = false := by decide +kernel
  show finT (g_show_term a Ft Fs Fj Ff (startD 4 [.tup [.str (Str.ofString "here")]])) = _
  unfold g_show_term
  iterate 9 (walk_at "den"; try simp only [i0, k, e1, e2, e3, if_pos l2])
  rfl
theorem t_two {t : Tm} {y : D} {w : List Nat} (ht : t.d = .tup [.str t.k, y]) (hr : ¬ t.rk < 2) (ne : ∀ x ∈ (["times", "abs", "num", "here"] : List Str), (t.k == x) = false) (f : fmtD y = .ok (.str (mkS w))) (hw : w.length ≤ 1000) :
    finT (g_show_term a Ft Fs Fj Ff (startD 4 [t.d])) = .ok (.str (mkS (cds t.k ++ 32 :: w))) := by
  have k : inLD (.str t.k) (.tup [.str (Str.ofString "+"), .str (Str.ofString "-")]) = .ok (.bl (decide (t.rk < 2))) := in_pm_t t
  rw [decide_eq_false hr] at k
  have e1 : decide (t.k = Str.ofString "times") = false := k_no t _ (ne _ (by simp))
  have e2 : decide (t.k = Str.ofString "abs") = false := k_no t _ (ne _ (by simp))
  have e3 : decide (t.k = Str.ofString "num") = false := k_no t _ (ne _ (by simp))
  have e4 : decide (t.k = Str.ofString "here") = false := k_no t _ (ne _ (by simp))
  have lk : (cds t.k).length ≤ 10 := by
    have al : ∀ p ∈ ([("+", 1), ("-", 1), ("times", 2), ("num", 3), ("here", 3), ("back", 3), ("on", 3), ("ago", 3), ("until", 3), ("at", 3), ("abs", 3)] : List (Str × Int)), (cds p.1).length ≤ 10 := by decide +kernel
    exact al _ (k_is t)
  have mk : t.k = mkS (cds t.k) := (mk_cds _).symm
  rw [ht]
  generalize t.k = kk at *
  have i0 : L2.atI [D.str kk, y] 0 = some (.str kk) := rfl
  have i1 : L2.atI [D.str kk, y] 1 = some y := rfl
  have l2 : 2 ≤ sizeLine := by decide
  have s : ∀ ρ : Ev, (dC (.str (Str.ofString " "))) ρ = .ok (.str (mkS [32])) := fun _ => rfl
  have v1 : (d1 fmtD (dV 1)) [.sh (.tup [.str kk, y]), .sh (.str kk), .no, .sh y] = .ok (.str (mkS (cds kk))) := by
    show fmtD (.str kk) = _
    rw [mk]
    exact fmtS (by omega)
  have v3 : (d1 fmtD (dV 3)) [.sh (.tup [.str kk, y]), .sh (.str kk), .no, .sh y] = .ok (.str (mkS w)) := f
  have j : ((jCons (d1 fmtD (dV 1)) (jCons (dC (.str " ")) (jCons (d1 fmtD (dV 3)) jNil))) Str.empty) [.sh (.tup [.str kk, y]), .sh (.str kk), .no, .sh y] = .ok (.str (mkS (cds kk ++ 32 :: w))) := by
    rw [em, jC v1 (by simp; omega), jC (s _) (by simp; omega), jC v3 (by simp; omega), jN (by simp; omega)]
    simp
  unfold g_show_term
  generalize ((jCons (d1 fmtD (dV 1)) (jCons (dC (.str " ")) (jCons (d1 fmtD (dV 3)) jNil))) Str.empty) = jj at j ⊢
  iterate 9 (walk_at "den"; try simp only [i0, i1, k, e1, e2, e3, e4, j, if_pos l2])
theorem t_bin {s : Bool} {x y : Tm} {u v : List Nat} (f1 : Fs [x.d] = .ok (.str (mkS u))) (f2 : Ft [y.d, .tup [.str (Str.ofString "+"), .str (Str.ofString "-")]] = .ok (.str (mkS v))) (f3 : Fj [.str (mkS u), .str (sg s), .str (mkS v)] = .ok (.str (mkS z))) :
    finT (g_show_term a Ft Fs Fj Ff (startD 4 [(Tm.bin s x y).d])) = .ok (.str (mkS z)) := by
  have k : inLD (.str (sg s)) (.tup [.str (Str.ofString "+"), .str (Str.ofString "-")]) = .ok (.bl true) := in_pm_t (.bin s x y)
  have i0 : L2.atI [D.str (sg s), x.d, y.d] 0 = some (.str (sg s)) := rfl
  have i1 : L2.atI [D.str (sg s), x.d, y.d] 1 = some x.d := rfl
  have i2 : L2.atI [D.str (sg s), x.d, y.d] 2 = some y.d := rfl
  have l2 : 2 ≤ sizeLine := by decide
  show finT (g_show_term a Ft Fs Fj Ff (startD 4 [.tup [.str (sg s), x.d, y.d]])) = _
  generalize sg s = ss at *
  generalize x.d = xd at *
  generalize y.d = yd at *
  unfold g_show_term
  iterate 9 (walk_at "den"; try simp only [i0, i1, i2, k, f1, f2, f3, if_pos l2])
theorem t_times {p q : Int} {x : Tm} {u v : List Nat} (f1 : Ff [pr p q] = .ok (.str (mkS u))) (f2 : Ft [x.d, .tup [.str (Str.ofString "+"), .str (Str.ofString "-"), .str (Str.ofString "times")]] = .ok (.str (mkS v))) (f3 : Fj [.str (mkS u), .str (Str.ofString "*"), .str (mkS v)] = .ok (.str (mkS z))) :
    finT (g_show_term a Ft Fs Fj Ff (startD 4 [(Tm.times p q x).d])) = .ok (.str (mkS z)) := by
  have k : inLD (.str (Str.ofString "times")) (.tup [.str (Str.ofString "+"), .str (Str.ofString "-")]) = .ok (.bl false) := in_pm_t (.times p q x)
  have i0 : L2.atI [D.str (Str.ofString "times"), pr p q, x.d] 0 = some (.str (Str.ofString "times")) := rfl
  have i1 : L2.atI [D.str (Str.ofString "times"), pr p q, x.d] 1 = some (pr p q) := rfl
  have i2 : L2.atI [D.str (Str.ofString "times"), pr p q, x.d] 2 = some x.d := rfl
  have l2 : 2 ≤ sizeLine := by decide
  have l3 : 3 ≤ sizeLine := by decide
  show finT (g_show_term a Ft Fs Fj Ff (startD 4 [.tup [.str (Str.ofString "times"), pr p q, x.d]])) = _
  generalize x.d = xd at *
  unfold g_show_term
  iterate 9 (walk_at "den"; try simp only [i0, i1, i2, k, f1, f2, f3, if_pos l2, if_pos l3])
theorem t_abs {x : Tm} (f1 : Fs [x.d] = .ok (.str (mkS z))) (hz : z.length ≤ 20000) :
    finT (g_show_term a Ft Fs Fj Ff (startD 4 [(Tm.abs x).d])) = .ok (.str (mkS ([97, 98, 115, 40] ++ (z ++ [41])))) := by
  have k : inLD (.str (Str.ofString "abs")) (.tup [.str (Str.ofString "+"), .str (Str.ofString "-")]) = .ok (.bl false) := in_pm_t (.abs x)
  have i0 : L2.atI [D.str (Str.ofString "abs"), x.d] 0 = some (.str (Str.ofString "abs")) := rfl
  have i1 : L2.atI [D.str (Str.ofString "abs"), x.d] 1 = some x.d := rfl
  have l2 : 2 ≤ sizeLine := by decide
  have e1 : decide (Str.ofString "abs" = Str.ofString "times") = false := by decide +kernel
  show finT (g_show_term a Ft Fs Fj Ff (startD 4 [.tup [.str (Str.ofString "abs"), x.d]])) = _
  generalize x.d = xd at *
  have s1 : ∀ ρ : Ev, (dC (.str (Str.ofString "abs("))) ρ = .ok (.str (mkS [97, 98, 115, 40])) := fun _ => rfl
  have s2 : ∀ ρ : Ev, (dC (.str (Str.ofString ")"))) ρ = .ok (.str (mkS [41])) := fun _ => rfl
  have v2 : (d1 fmtD (dV 2)) [.sh (.tup [.str (Str.ofString "abs"), xd]), .sh (.str (Str.ofString "abs")), .sh (.str (mkS z)), .no] = .ok (.str (mkS z)) := fmtS (by omega)
  have j : ((jCons (dC (.str "abs(")) (jCons (d1 fmtD (dV 2)) (jCons (dC (.str ")")) jNil))) Str.empty) [.sh (.tup [.str (Str.ofString "abs"), xd]), .sh (.str (Str.ofString "abs")), .sh (.str (mkS z)), .no] = .ok (.str (mkS ([97, 98, 115, 40] ++ (z ++ [41])))) := by
    rw [em, jC (s1 _) (by simp), jC v2 (by simp; omega), jC (s2 _) (by simp; omega), jN (by simp; omega)]
    simp
  unfold g_show_term
  generalize ((jCons (dC (.str "abs(")) (jCons (d1 fmtD (dV 2)) (jCons (dC (.str ")")) jNil))) Str.empty) = jj at j ⊢
  iterate 9 (walk_at "den"; try simp only [i0, i1, k, e1, f1, j, if_pos l2])
end
theorem show_T : ∀ (t : Tm), t.Ok → t.sz ≤ 300 → ∀ n, t.dp ≤ n → fixD (F0T a) n [t.d] = .ok (.str (mkS t.tx))
  | t, hO, hs, 0, hn => by cases t <;> simp [Tm.dp] at hn
  | .num p q, hO, hs, n + 1, hn => by
    have hO : Fq p q := hO
    exact t_num (m_showF (a := a) p q hO.q.1 (Nat.lt_of_lt_of_le hO.p (by decide)) (Nat.lt_of_lt_of_le hO.q.2 (by decide)))
  | .here, hO, hs, n + 1, hn => t_here
  | .plc w m, hO, hs, n + 1, hn => by
    have hO' : 1 ≤ m ∧ m ≤ 9 := hO
    have hO : m.natAbs < 10 ^ 9 := by omega
    refine t_two (t := .plc w m) (w := numI m) rfl (by show ¬ (3 : Int) < 2; decide) (fun x hx => ?_) (fmtI (Nat.lt_of_lt_of_le hO (by decide))) (by have := numI_len hO; omega)
    have al : ∀ y ∈ (["back", "on", "ago", "until"] : List Str), ∀ x ∈ (["times", "abs", "num", "here"] : List Str), (y == x) = false := by decide +kernel
    refine al (wd w) ?_ x hx
    unfold wd
    split
    · simp
    · split
      · simp
      · split <;> simp
  | .at m, hO, hs, n + 1, hn => by
    have hO : m.length ≤ 8 := hO.1
    refine t_two (t := .at m) (w := m) rfl (by show ¬ (3 : Int) < 2; decide) (fun x hx => ?_) (fmtS (by omega)) (by omega)
    have al : ∀ x ∈ (["times", "abs", "num", "here"] : List Str), ((Str.ofString "at") == x) = false := by decide +kernel
    exact al x hx
  | .bin s x y, hO, hs, n + 1, hn => by
    have hs : x.sz + y.sz + 1 ≤ 300 := hs
    have hn : max x.dp y.dp + 1 ≤ n + 1 := hn
    have l1 := Tm.len hO.1
    have l2 := Tm.len hO.2
    have b := brk_len 40 41 (decide (y.rk < 2)) y.tx
    have h1 := show_T x hO.1 (by omega) n (by omega)
    have h2 := show_T y hO.2 (by omega) n (by omega)
    refine t_bin h1 (m_tight h2 (by omega) (in_pm_t y)) ?_
    have j := m_joined (a := a) (x := x.tx) (y := cds (sg s)) (z := brk 40 41 (decide (y.rk < 2)) y.tx) (by omega) (by rw [sg_len]; omega) (by omega)
    rw [mk_cds] at j
    exact j
  | .times p q x, hO, hs, n + 1, hn => by
    have hs : x.sz + 1 ≤ 300 := hs
    have hn : x.dp + 1 ≤ n + 1 := hn
    have l1 := showF_len hO.1
    have l2 := Tm.len hO.2
    have b := brk_len 40 41 (decide (x.rk < 3)) x.tx
    have h2 := show_T x hO.2 (by omega) n (by omega)
    have f := m_showF (a := a) p q hO.1.q.1 (Nat.lt_of_lt_of_le hO.1.p (by decide)) (Nat.lt_of_lt_of_le hO.1.q.2 (by decide))
    exact t_times f (m_tight h2 (by omega) (in_pmt_t x)) (m_joined (a := a) (x := showF p q) (y := [42]) (z := brk 40 41 (decide (x.rk < 3)) x.tx) (by omega) (by simp) (by omega))
  | .abs x, hO, hs, n + 1, hn => by
    have hs : x.sz + 1 ≤ 300 := hs
    have hn : x.dp + 1 ≤ n + 1 := hn
    have l2 := Tm.len (t := x) hO
    exact t_abs (show_T x hO (by omega) n (by omega)) (by omega)
inductive Cn where
  | cmp (s : Bool) (x y : Tm) | not (c : Cn) | two (s : Bool) (c d : Cn)
noncomputable def cg (s : Bool) : Str := if s = true then "<" else "="
noncomputable def cw (s : Bool) : Str := if s = true then "and" else "or"
noncomputable def Cn.k : Cn → Str
  | .cmp s _ _ => cg s
  | .not _ => "not"
  | .two s _ _ => cw s
noncomputable def Cn.d : Cn → D
  | .cmp s x y => .tup [.str (cg s), x.d, y.d]
  | .not c => .tup [.str "not", c.d]
  | .two s c e => .tup [.str (cw s), c.d, e.d]
noncomputable def Cn.rk : Cn → Int
  | .cmp _ _ _ => 4
  | .not _ => 3
  | .two s _ _ => if s = true then 2 else 1
noncomputable def Cn.tx : Cn → List Nat
  | .cmp s x y => x.tx ++ 32 :: (cds (cg s) ++ 32 :: y.tx)
  | .not c => [110, 111, 116, 32] ++ brk 91 93 (decide (c.rk < 3)) c.tx
  | .two s c e => brk 91 93 (decide (c.rk < if s = true then 2 else 1)) c.tx ++ 32 :: (cds (cw s) ++ 32 :: brk 91 93 (decide (e.rk < if s = true then 3 else 2)) e.tx)
noncomputable def Cn.sz : Cn → Nat
  | .cmp _ x y => x.sz + y.sz + 1
  | .not c => c.sz + 1
  | .two _ c e => c.sz + e.sz + 1
noncomputable def Cn.dp : Cn → Nat
  | .cmp _ _ _ => 1
  | .not c => c.dp + 1
  | .two _ c e => max c.dp e.dp + 1
noncomputable def Cn.tm : Cn → Nat
  | .cmp _ x y => max x.sz y.sz
  | .not c => c.tm
  | .two _ c e => max c.tm e.tm
noncomputable def Cn.Ok : Cn → Prop
  | .cmp _ x y => x.Ok ∧ y.Ok
  | .not c => c.Ok
  | .two _ c e => c.Ok ∧ e.Ok
theorem cg_len (s : Bool) : (cds (cg s)).length = 1 := by cases s <;> decide
theorem cw_len (s : Bool) : (cds (cw s)).length ≤ 3 := by cases s <;> decide
theorem Cn.len : ∀ {c : Cn}, c.Ok → c.tx.length ≤ 40 * c.sz
  | .cmp s x y, h => by
    have h1 := Tm.len h.1
    have h2 := Tm.len h.2
    have h3 := cg_len s
    show (x.tx ++ 32 :: (cds (cg s) ++ 32 :: y.tx)).length ≤ 40 * (x.sz + y.sz + 1)
    simp only [List.length_append, List.length_cons]; omega
  | .not c, h => by
    have h1 := Cn.len (c := c) h
    have h2 := brk_len 91 93 (decide (c.rk < 3)) c.tx
    show ([110, 111, 116, 32] ++ brk 91 93 (decide (c.rk < 3)) c.tx).length ≤ 40 * (c.sz + 1)
    simp only [List.length_append, List.length_cons, List.length_nil]; omega
  | .two s c e, h => by
    have h1 := Cn.len h.1
    have h2 := Cn.len h.2
    have h3 := cw_len s
    have h4 := brk_len 91 93 (decide (c.rk < if s = true then 2 else 1)) c.tx
    have h5 := brk_len 91 93 (decide (e.rk < if s = true then 3 else 2)) e.tx
    show (brk 91 93 (decide (c.rk < if s = true then 2 else 1)) c.tx ++ 32 :: (cds (cw s) ++ 32 :: brk 91 93 (decide (e.rk < if s = true then 3 else 2)) e.tx)).length ≤ 40 * (c.sz + e.sz + 1)
    simp only [List.length_append, List.length_cons]; omega
theorem Cn.d0 (c : Cn) : ∃ r, c.d = .tup (.str c.k :: r) := by cases c <;> exact ⟨_, rfl⟩
theorem Cn.dp_le (c : Cn) : c.dp ≤ c.sz := by
  induction c with
  | cmp s x y => show 1 ≤ x.sz + y.sz + 1; omega
  | not c ih => show c.dp + 1 ≤ c.sz + 1; omega
  | two s c e ih1 ih2 => show max c.dp e.dp + 1 ≤ c.sz + e.sz + 1; omega
theorem Cn.tm_le (c : Cn) : c.tm ≤ c.sz := by
  induction c with
  | cmp s x y => show max x.sz y.sz ≤ x.sz + y.sz + 1; omega
  | not c ih => show c.tm ≤ c.sz + 1; omega
  | two s c e ih1 ih2 => show max c.tm e.tm ≤ c.sz + e.sz + 1; omega
theorem m_bound {Fs : List D → R D} {c : Cn} {L : D} {b : Bool} (h : Fs [c.d] = .ok (.str (mkS c.tx))) (hl : c.tx.length ≤ 20000) (hb : inLD (.str c.k) L = .ok (.bl b)) :
    finT (g_show_bound a Fs (startD 3 [c.d, L])) = .ok (.str (mkS (brk 91 93 b c.tx))) := by
  obtain ⟨r, e⟩ := c.d0
  rw [e] at h ⊢
  generalize c.tx = tx at *
  generalize c.k = ck at *
  have i0' : L2.atI (D.str ck :: r) ((0 : Nat) : Int) = some (.str ck) := atI_nat rfl
  have i0 : L2.atI (D.str ck :: r) 0 = some (.str ck) := i0'
  have s1 : (dC (.str (Str.ofString "["))) [.sh (.tup (.str ck :: r)), .sh L, .sh (.str (mkS tx))] = .ok (.str (mkS [91])) := rfl
  have s2 : (dC (.str (Str.ofString "]"))) [.sh (.tup (.str ck :: r)), .sh L, .sh (.str (mkS tx))] = .ok (.str (mkS [93])) := rfl
  have v2 : (d1 fmtD (dV 2)) [.sh (.tup (.str ck :: r)), .sh L, .sh (.str (mkS tx))] = .ok (.str (mkS tx)) := fmtS (by omega)
  have tst : (P2.b1 tB (d2 inLD (d2 ixD (dV 0) (dC (.int 0))) (dV 1))) [.sh (.tup (.str ck :: r)), .sh L, .sh (.str (mkS tx))] = .ok b := by
    iterate 4 (walk_at "den"; try simp only [i0, hb])
  unfold g_show_bound
  generalize (P2.b1 tB (d2 inLD (d2 ixD (dV 0) (dC (.int 0))) (dV 1))) = tt at tst ⊢
  have j : ((jCons (dC (.str "[")) (jCons (d1 fmtD (dV 2)) (jCons (dC (.str "]")) jNil))) Str.empty) [.sh (.tup (.str ck :: r)), .sh L, .sh (.str (mkS tx))] = .ok (.str (mkS (91 :: (tx ++ [93])))) := by
    rw [em, jC s1 (by simp), jC v2 (by simp; omega), jC s2 (by simp; omega), jN (by simp; omega)]
    rfl
  generalize ((jCons (dC (.str "[")) (jCons (d1 fmtD (dV 2)) (jCons (dC (.str "]")) jNil))) Str.empty) = jj at j ⊢
  cases b with
  | true => iterate 7 (walk_at "den"; try simp only [h, tst, j]); try rfl
  | false => iterate 7 (walk_at "den"; try simp only [h, tst, j]); try rfl
theorem kc_is (c : Cn) : (c.k, c.rk) ∈ ([("<", 4), ("=", 4), ("not", 3), ("and", 2), ("or", 1)] : List (Str × Int)) := by
  cases c with
  | cmp s x y => cases s <;> simp [Cn.k, Cn.rk, cg]
  | not c => simp [Cn.k, Cn.rk]
  | two s x y => cases s <;> simp [Cn.k, Cn.rk, cw]
theorem kc_ok (c : Cn) : PyData.strOk c.k = true := by
  have al : ∀ p ∈ ([("<", 4), ("=", 4), ("not", 3), ("and", 2), ("or", 1)] : List (Str × Int)), PyData.strOk p.1 = true := by decide +kernel
  exact al _ (kc_is c)
theorem in_or (c : Cn) : inLD (.str c.k) (.tup [.str "or"]) = .ok (.bl (decide (c.rk < 2))) := by
  have h := in_strs (x := c.k) (ys := ["or"]) (kc_ok c) (by decide +kernel)
  have al : ∀ p ∈ ([("<", 4), ("=", 4), ("not", 3), ("and", 2), ("or", 1)] : List (Str × Int)), ((["or"] : List Str).any fun y => y == p.1) = decide (p.2 < 2) := by decide +kernel
  rw [al _ (kc_is c)] at h
  exact h
theorem in_oa (c : Cn) : inLD (.str c.k) (.tup [.str "or", .str "and"]) = .ok (.bl (decide (c.rk < 3))) := by
  have h := in_strs (x := c.k) (ys := ["or", "and"]) (kc_ok c) (by decide +kernel)
  have al : ∀ p ∈ ([("<", 4), ("=", 4), ("not", 3), ("and", 2), ("or", 1)] : List (Str × Int)), ((["or", "and"] : List Str).any fun y => y == p.1) = decide (p.2 < 3) := by decide +kernel
  rw [al _ (kc_is c)] at h
  exact h
theorem rk_pos (c : Cn) : ¬ c.rk < 1 := by
  cases c with
  | cmp s x y => show ¬ (4 : Int) < 1; decide
  | not c => show ¬ (3 : Int) < 1; decide
  | two s x y => show ¬ (if s = true then (2 : Int) else 1) < 1; split <;> decide
section
variable {Fb Fs Fj Ft : List D → R D} {z : List Nat}
theorem c_or {c e : Cn} {u v : List Nat} (f1 : Fs [c.d] = .ok (.str (mkS u))) (f2 : Fb [e.d, .tup [.str (Str.ofString "or")]] = .ok (.str (mkS v))) (f3 : Fj [.str (mkS u), .str (Str.ofString "or"), .str (mkS v)] = .ok (.str (mkS z))) :
    finT (g_show_condition a Fb Fs Fj Ft (startD 2 [(Cn.two false c e).d])) = .ok (.str (mkS z)) := by
  have i0 : L2.atI [D.str (Str.ofString "or"), c.d, e.d] 0 = some (.str (Str.ofString "or")) := rfl
  have i1 : L2.atI [D.str (Str.ofString "or"), c.d, e.d] 1 = some c.d := rfl
  have i2 : L2.atI [D.str (Str.ofString "or"), c.d, e.d] 2 = some e.d := rfl
  have l1 : 1 ≤ sizeLine := by decide
  show finT (g_show_condition a Fb Fs Fj Ft (startD 2 [.tup [.str (Str.ofString "or"), c.d, e.d]])) = _
  generalize c.d = cd at *
  generalize e.d = ed at *
  unfold g_show_condition
  iterate 9 (walk_at "den"; try simp only [i0, i1, i2, f1, f2, f3, if_pos l1])
theorem c_and {c e : Cn} {u v : List Nat} (f1 : Fb [c.d, .tup [.str (Str.ofString "or")]] = .ok (.str (mkS u))) (f2 : Fb [e.d, .tup [.str (Str.ofString "or"), .str (Str.ofString "and")]] = .ok (.str (mkS v))) (f3 : Fj [.str (mkS u), .str (Str.ofString "and"), .str (mkS v)] = .ok (.str (mkS z))) :
    finT (g_show_condition a Fb Fs Fj Ft (startD 2 [(Cn.two true c e).d])) = .ok (.str (mkS z)) := by
  have i0 : L2.atI [D.str (Str.ofString "and"), c.d, e.d] 0 = some (.str (Str.ofString "and")) := rfl
  have i1 : L2.atI [D.str (Str.ofString "and"), c.d, e.d] 1 = some c.d := rfl
  have i2 : L2.atI [D.str (Str.ofString "and"), c.d, e.d] 2 = some e.d := rfl
  have l1 : 1 ≤ sizeLine := by decide
  have l2 : 2 ≤ sizeLine := by decide
  have e1 : decide (Str.ofString "and" = Str.ofString "or") = false := by decide +kernel
  show finT (g_show_condition a Fb Fs Fj Ft (startD 2 [.tup [.str (Str.ofString "and"), c.d, e.d]])) = _
  generalize c.d = cd at *
  generalize e.d = ed at *
  unfold g_show_condition
  iterate 9 (walk_at "den"; try simp only [i0, i1, i2, e1, f1, f2, f3, if_pos l1, if_pos l2])
theorem c_not {c : Cn} {u : List Nat} (f1 : Fb [c.d, .tup [.str (Str.ofString "or"), .str (Str.ofString "and")]] = .ok (.str (mkS u))) (hu : u.length ≤ 30000) :
    finT (g_show_condition a Fb Fs Fj Ft (startD 2 [(Cn.not c).d])) = .ok (.str (mkS ([110, 111, 116, 32] ++ u))) := by
  have i0 : L2.atI [D.str (Str.ofString "not"), c.d] 0 = some (.str (Str.ofString "not")) := rfl
  have i1 : L2.atI [D.str (Str.ofString "not"), c.d] 1 = some c.d := rfl
  have l2 : 2 ≤ sizeLine := by decide
  have e1 : decide (Str.ofString "not" = Str.ofString "or") = false := by decide +kernel
  have e2 : decide (Str.ofString "not" = Str.ofString "and") = false := by decide +kernel
  have ad : addD (.str (Str.ofString "not ")) (.str (mkS u)) = .ok (.str (mkS ([110, 111, 116, 32] ++ u))) := addM (x := [110, 111, 116, 32]) (by simp) (by omega)
  show finT (g_show_condition a Fb Fs Fj Ft (startD 2 [.tup [.str (Str.ofString "not"), c.d]])) = _
  generalize c.d = cd at *
  unfold g_show_condition
  generalize addD = ADD at *
  iterate 9 (walk_at "den"; try simp only [i0, i1, e1, e2, f1, ad, if_pos l2])
theorem c_cmp {s : Bool} {x y : Tm} {u v : List Nat} (f1 : Ft [x.d] = .ok (.str (mkS u))) (f2 : Ft [y.d] = .ok (.str (mkS v))) (f3 : Fj [.str (mkS u), .str (cg s), .str (mkS v)] = .ok (.str (mkS z))) :
    finT (g_show_condition a Fb Fs Fj Ft (startD 2 [(Cn.cmp s x y).d])) = .ok (.str (mkS z)) := by
  have i0 : L2.atI [D.str (cg s), x.d, y.d] 0 = some (.str (cg s)) := rfl
  have i1 : L2.atI [D.str (cg s), x.d, y.d] 1 = some x.d := rfl
  have i2 : L2.atI [D.str (cg s), x.d, y.d] 2 = some y.d := rfl
  have e1 : decide (cg s = Str.ofString "or") = false := by cases s <;> decide +kernel
  have e2 : decide (cg s = Str.ofString "and") = false := by cases s <;> decide +kernel
  have e3 : decide (cg s = Str.ofString "not") = false := by cases s <;> decide +kernel
  show finT (g_show_condition a Fb Fs Fj Ft (startD 2 [.tup [.str (cg s), x.d, y.d]])) = _
  generalize x.d = xd at *
  generalize y.d = yd at *
  generalize cg s = ss at *
  unfold g_show_condition
  iterate 9 (walk_at "den"; try simp only [i0, i1, i2, e1, e2, e3, f1, f2, f3])
end
noncomputable def F0C (a : Ad) (Ft Fs : List D → R D) : List D → R D := fun ds => finT (g_show_condition a (fun ds => finT (g_show_bound a Fs (startD 3 ds))) Fs (fun ds => finT (g_joined a (startD 3 ds))) Ft (startD 2 ds))
theorem show_C {Ft : List D → R D} {m : Nat} (hT : ∀ t : Tm, t.Ok → t.sz ≤ m → Ft [t.d] = .ok (.str (mkS t.tx))) : ∀ (c : Cn), c.Ok → c.sz ≤ 300 → c.tm ≤ m → ∀ n, c.dp ≤ n → fixD (F0C a Ft) n [c.d] = .ok (.str (mkS c.tx))
  | c, hO, hs, hm, 0, hn => by cases c <;> simp [Cn.dp] at hn
  | .cmp s x y, hO, hs, hm, n + 1, hn => by
    have hs : x.sz + y.sz + 1 ≤ 300 := hs
    have hm : max x.sz y.sz ≤ m := hm
    have l1 := Tm.len hO.1
    have l2 := Tm.len hO.2
    refine c_cmp (hT x hO.1 (by omega)) (hT y hO.2 (by omega)) ?_
    have j := m_joined (a := a) (x := x.tx) (y := cds (cg s)) (z := y.tx) (by omega) (by rw [cg_len]; omega) (by omega)
    rw [mk_cds] at j
    exact j
  | .not c, hO, hs, hm, n + 1, hn => by
    have hs : c.sz + 1 ≤ 300 := hs
    have hn : c.dp + 1 ≤ n + 1 := hn
    have l1 := Cn.len (c := c) hO
    have b := brk_len 91 93 (decide (c.rk < 3)) c.tx
    exact c_not (m_bound (show_C hT c hO (by omega) hm n (by omega)) (by omega) (in_oa c)) (by omega)
  | .two true c e, hO, hs, hm, n + 1, hn => by
    have hs : c.sz + e.sz + 1 ≤ 300 := hs
    have hn : max c.dp e.dp + 1 ≤ n + 1 := hn
    have hm : max c.tm e.tm ≤ m := hm
    have l1 := Cn.len hO.1
    have l2 := Cn.len hO.2
    have b1 := brk_len 91 93 (decide (c.rk < 2)) c.tx
    have b2 := brk_len 91 93 (decide (e.rk < 3)) e.tx
    exact c_and (m_bound (show_C hT c hO.1 (by omega) (by omega) n (by omega)) (by omega) (in_or c)) (m_bound (show_C hT e hO.2 (by omega) (by omega) n (by omega)) (by omega) (in_oa e)) (m_joined (a := a) (x := brk 91 93 (decide (c.rk < 2)) c.tx) (y := cds (Str.ofString "and")) (z := brk 91 93 (decide (e.rk < 3)) e.tx) (by omega) (by decide) (by omega))
  | .two false c e, hO, hs, hm, n + 1, hn => by
    have hs : c.sz + e.sz + 1 ≤ 300 := hs
    have hn : max c.dp e.dp + 1 ≤ n + 1 := hn
    have hm : max c.tm e.tm ≤ m := hm
    have l1 := Cn.len hO.1
    have l2 := Cn.len hO.2
    have b2 := brk_len 91 93 (decide (e.rk < 2)) e.tx
    have r := rk_pos c
    have eb : brk 91 93 (decide (c.rk < 1)) c.tx = c.tx := by unfold brk; rw [decide_eq_false r]; rfl
    have j := m_joined (a := a) (x := c.tx) (y := cds (Str.ofString "or")) (z := brk 91 93 (decide (e.rk < 2)) e.tx) (by omega) (by decide) (by omega)
    have tx : (Cn.two false c e).tx = c.tx ++ 32 :: (cds (Str.ofString "or") ++ 32 :: brk 91 93 (decide (e.rk < 2)) e.tx) := by
      show brk 91 93 (decide (c.rk < 1)) c.tx ++ _ = _
      rw [eb]; rfl
    rw [tx]
    exact c_or (show_C hT c hO.1 (by omega) (by omega) n (by omega)) (m_bound (show_C hT e hO.2 (by omega) (by omega) n (by omega)) (by omega) (in_or e)) j
end WC
namespace WC
open PySem L2 P2 WP TM T2 PySem.NumText
local macro_rules | `(tactic| walk_at "den") => `(tactic| try simp (disch := first | assumption | decide | exact Nat.le_of_ble_eq_true rfl) only [q_bind_k, q_bind_x, q_bind_b, q_toS_k, q_toS_x, q_toS_b, q_seq_n, q_seq_r, q_seq_x, q_seq_b, q_turn_n, q_turn_c, q_turn_k, q_turn_r, q_turn_b, q_turn_x, q_fin_r, q_fin_n, q_fin_x, q_noEx_k, q_okO_k, q_ofO_s, q_sSeq_a, q_sNil_a, q_sRet_a, q_sExpr_a, q_sSet_a, q_sIf_a, q_dC_a, q_d1_a, q_d2_a, q_b1B_a, q_b1T_a, q_bAnd_a, q_bOr_a, q_bNot_a, q_dAnd_a, q_dOr_a, q_dNot_a, q_dIf_a, q_dA_a, q_aNil_a, q_aCons_a, q_asN_a, q_dMt_a, q_dSl_a, q_dComp_a, q_sFor_a, q_toO_s, q_gV_a, q_tB_b, q_tT_b, q_tT_i, q_tT_n, q_tT_l, q_tT_t, q_add_i, q_sub_i, q_fdiv_p, q_mod_p, q_lt_i, q_le_i, q_gt_i, q_ge_i, q_neg_i, q_eq_i, q_eq_s, q_eq_b, q_ne_i, q_ne_s, q_in_s, q_ix_l, q_ix_t, q_ix_s, q_sl_l, q_sl_s, q_pI_i, q_len_s, q_len_l, q_len_t, q_abs_i, q_max_i, q_int_s, q_all_l, q_any_l, q_st_s, q_zf_s, q_hs_s, q_fit_p, q_add_sp, q_add_lp, q_mkT_p, q_asI_l, q_asI_t, q_asI_s, q_fmt_s, q_jNil_a, q_jCons_k, q_isX_i, q_isX_b, q_isX_s, q_isX_t, q_isX_l, q_slW_l, q_slW_s, q_is_bb, q_isn_bb, q_is_nn, q_isn_nn, q_is_tn, q_isn_tn, q_v0, q_v1, q_v2, q_v3, q_v4, q_v5, q_v6, q_v7, q_v8, q_v9, q_v10, q_v11, q_v12, q_v13, startD, List.map_cons, List.map_nil, List.length_cons, List.length_nil, Nat.sub_self, Nat.reduceAdd, Nat.reduceSub, List.replicate_zero, List.replicate_succ, List.append_nil, List.nil_append, List.cons_append, List.set_cons_zero, List.set_cons_succ, if_true, if_false, Nat.reduceLT, Nat.zero_lt_succ, Bool.not_true, Bool.not_false, Bool.false_eq_true, reduceIte, decide_true, decide_false, Int.reduceLT, Int.reduceEq, Int.reduceNeg, Int.reducePow, Int.reduceSub, Int.reduceAdd, Int.reduceMul,  List.length_set])
variable {a : Ad}
theorem w_lowest : ∀ (n : Nat) (x y : Int) (s0 s1 s4 : Sl), 0 ≤ x → 0 ≤ y → y < n →
    ∃ s4', whileD (P2.b1 tB (d2 gtD (dV 3) (dC (.int 0)))) (b1_law_lowest a) n [s0, s1, .sh (.int x), .sh (.int y), s4] = .nx [s0, s1, .sh (.int (FM.g x y)), .sh (.int 0), s4']
  | 0, x, y, s0, s1, s4, hx, hy, h => by omega
  | n + 1, x, y, s0, s1, s4, hx, hy, h => by
    rw [q_whileD]
    by_cases z : y = 0
    · subst z
      refine ⟨s4, ?_⟩
      walk_at "den"
      rw [FM.g_zero hx]
    · have hp : 0 < y := by omega
      have hm := Int.emod_lt_of_pos x hp
      obtain ⟨s4', e⟩ := w_lowest n y (x % y) s0 s1 (.sh (.int (x % y))) hy (Int.emod_nonneg x z) (by omega)
      refine ⟨s4', ?_⟩
      unfold b1_law_lowest
      iterate 4 (walk_at "den"; try simp only [decide_eq_true hp, q_mod_p hp, and_self])
      rw [← FM.g_step hx hp]
      exact e
theorem m_lowest (t b : Int) (ht : 0 ≤ t) (hb : 0 < b) (h : b.natAbs < 10 ^ 400) : finT (g_law_lowest a (startD 5 [.int t, .int b])) = .ok (pr (FM.top t b) (FM.bot t b)) := by
  obtain ⟨s4, e⟩ := w_lowest (a := a) 10000000000000000000000000000000000000000000000000000000000000000000000000000000000000000000000000000000000000000000000000000000000000000000000000000000000000000000000000000000000000000000000000000000000000000000000000000000000000000000000000000000000000000000000000000000000000000000000000000000000000000000000000000000000000000000000000000000000000000000000000000000000000000000000000000000000000000 t b (.sh (.int t)) (.sh (.int b)) .no ht (by omega) (by omega)
  rw [← FM.dv_pos hb] at e
  have d1 := q_fdivU (i := t) (FM.dv_ne (t := t) (b := b) (by omega)) (dv_lt (t := t) (b := b) (by omega) h)
  have d2 := q_fdivU (i := b) (FM.dv_ne (t := t) (b := b) (by omega)) (dv_lt (t := t) (b := b) (by omega) h)
  unfold g_law_lowest
  iterate 4 (walk_at "den"; try simp only [and_self])
  rw [e]
  iterate 4 (walk_at "den"; try simp only [d1, d2])
  rfl
theorem fq_of {t b : Int} (ht : 0 ≤ t) (h1 : t < 1000000000) (hb : 0 < b) (h2 : b < 1000000) : Fq (FM.top t b) (FM.bot t b) := by
  have L := FM.low_of (t := t) (b := b) (by omega)
  obtain ⟨s1, s2⟩ := FM.split (t := t) (b := b) (by omega)
  have gp : 0 < FM.dv t b := by rw [FM.dv_pos hb]; exact FM.g_pos (by omega)
  have lp := L.pos
  generalize FM.dv t b = g at *
  generalize FM.top t b = p at *
  generalize FM.bot t b = q at *
  have hp : 0 ≤ p := by
    by_cases w : 0 ≤ p
    · exact w
    · have : g * p < 0 := Int.mul_neg_of_pos_of_neg gp (by omega)
      omega
  have p1 : p ≤ t := by
    have : 1 * p ≤ g * p := Int.mul_le_mul_of_nonneg_right (by omega) hp
    omega
  have q1 : q ≤ b := by
    have : 1 * q ≤ g * q := Int.mul_le_mul_of_nonneg_right (by omega) (by omega)
    omega
  exact ⟨hp, L, by omega, lp, by omega⟩
theorem m_fraction {Fl : List D → R D} (hl : ∀ t b : Int, 0 ≤ t → 0 < b → b.natAbs < 10 ^ 400 → Fl [.int t, .int b] = .ok (pr (FM.top t b) (FM.bot t b))) (c : Int) : ∃ p q, Fq p q ∧ finT (g_law_fraction a Fl (startD 1 [.int c])) = .ok (pr p q) := by
  have pw : powD (.int 10) (.int 9) = .ok (.int 1000000000) := rfl
  have ml : mulUD (.int c) (.int 48271) = .ok (.int (c * 48271)) := q_mulU_r (by decide) (by decide)
  have hp : (0 : Int) < 1000000000 := by decide
  by_cases h0 : c % 3 = 0
  · refine ⟨c / 3 % 9, 1, ⟨by omega, ⟨by decide, ?_⟩, by omega, by decide, by decide⟩, ?_⟩
    · exact Int.gcd_one
    · unfold g_law_fraction
      iterate 5 (walk_at "den"; try simp only [h0, decide_true, pr])
  · by_cases h1 : c % 3 = 1
    · refine ⟨_, _, fq_of (t := c / 3 % 12) (b := 1 + c / 36 % 7) (by omega) (by omega) (by omega) (by omega), ?_⟩
      have e := hl (c / 3 % 12) (1 + c / 36 % 7) (by omega) (by omega) (by omega)
      unfold g_law_fraction
      iterate 6 (walk_at "den"; try simp only [h1, decide_true, pr, e])
    · refine ⟨_, _, fq_of (t := c / 3 % 1000000000) (b := 1 + c * 48271 % 999983) (by omega) (by omega) (by omega) (by omega), ?_⟩
      have e := hl (c / 3 % 1000000000) (1 + c * 48271 % 999983) (by omega) (by omega) (by omega)
      unfold g_law_fraction
      iterate 6 (walk_at "den"; try simp only [h0, h1, decide_false, pr, pw, ml, q_mod_p hp, e])
noncomputable def oneK (k : Nat) : Nat := [122, 98, 120, 107].getD k 98
theorem mul_q : ∀ n : Nat, n < 8 → okMulS (Str.ofString "q") (n : Int) = true ∧ Txt.mul (Str.ofString "q") (n : Int) = mkS (List.replicate n 113) := by decide +kernel
theorem one_k : ∀ k : Nat, k < 4 → L2.atI (Str.ofString "zbxk").cps.toList (k : Int) = some (oneK k) ∧ 97 ≤ oneK k ∧ oneK k ≤ 122 := by decide
theorem m_mast (c k : Int) : ∃ m, (m.length ≤ 8 ∧ m ≠ [] ∧ ∀ c ∈ m, 97 ≤ c ∧ c ≤ 122) ∧ finT (g_law_mast a (startD 4 [.int c, .int k])) = .ok (.str (mkS m)) := by
  have h8 : 0 ≤ c % 8 ∧ c % 8 < 8 := by omega
  obtain ⟨s, hs⟩ := Int.eq_ofNat_of_zero_le h8.1
  have hp : (0 : Int) < 1 + (s : Int) := by omega
  have hpl := Int.emod_nonneg (c / 8) (show (1 : Int) + s ≠ 0 by omega)
  have hpl2 := Int.emod_lt_of_pos (c / 8) hp
  obtain ⟨p, hpe⟩ := Int.eq_ofNat_of_zero_le hpl
  obtain ⟨j, hj⟩ := Int.eq_ofNat_of_zero_le (show 0 ≤ k % 4 by omega)
  have j4 : j < 4 := by omega
  have s8 : s < 8 := by omega
  have ps : p < s + 1 := by omega
  obtain ⟨a2, a3⟩ := one_k j j4
  obtain ⟨o1, t1⟩ := mul_q p (by omega)
  obtain ⟨o2, t2⟩ := mul_q (s - p) (by omega)
  have e3 : (1 : Int) + (s : Int) - 1 - (p : Int) = ((s - p : Nat) : Int) := by omega
  have m1 : mulUD (.str (Str.ofString "q")) (.int (p : Int)) = .ok (.str (mkS (List.replicate p 113))) := by rw [q_mulU_s o1, t1]
  have m2 : mulUD (.str (Str.ofString "q")) (.int ((s - p : Nat) : Int)) = .ok (.str (mkS (List.replicate (s - p) 113))) := by rw [q_mulU_s o2, t2]
  have l1 : (Str.ofString "zbxk").length ≤ sizeLine := by decide
  have x1 : addD (.str (mkS (List.replicate p 113))) (.str ⟨#[oneK j]⟩) = .ok (.str (mkS (List.replicate p 113 ++ [oneK j]))) := addM (y := [oneK j]) (by rw [List.length_replicate]; omega) (by simp)
  have x2 : addD (.str (mkS (List.replicate p 113 ++ [oneK j]))) (.str (mkS (List.replicate (s - p) 113))) = .ok (.str (mkS ((List.replicate p 113 ++ [oneK j]) ++ List.replicate (s - p) 113))) := addM (by simp; omega) (by simp; omega)
  have ai : addD (.int 1) (.int (s : Int)) = .ok (.int (1 + s)) := rfl
  refine ⟨(List.replicate p 113 ++ [oneK j]) ++ List.replicate (s - p) 113, ⟨by simp; omega, by simp, ?_⟩, ?_⟩
  · intro x hx
    simp only [List.mem_append, List.mem_replicate, List.mem_singleton] at hx
    rcases hx with (⟨_, rfl⟩ | rfl) | ⟨_, rfl⟩
    · decide
    · exact a3
    · decide
  · unfold g_law_mast
    generalize mulUD = MUL at *
    generalize addD = ADD at *
    iterate 9 (walk_at "den"; try simp only [hs, hpe, hj, q_mod_p hp, a2, if_pos l1, e3, m1, m2, x1, x2, ai])
theorem m_show {p q : Int} (h : Fq p q) : finT (g_law_show a (startD 2 [pr p q])) = .ok (.str (mkS (showF p q))) := by
  have s1 := strI (i := p) (Nat.lt_of_lt_of_le h.p (by decide))
  have s2 := strI (i := q) (Nat.lt_of_lt_of_le h.q.2 (by decide))
  have l1 := numI_len h.p
  have l2 := numI_len (i := q) (Nat.lt_of_lt_of_le h.q.2 (by decide))
  have x1 : addD (.str (mkS (numI p))) (.str (Str.ofString "/")) = .ok (.str (mkS (numI p ++ [47]))) := addM (y := [47]) (by omega) (by simp)
  have x2 : addD (.str (mkS (numI p ++ [47]))) (.str (mkS (numI q))) = .ok (.str (mkS ((numI p ++ [47]) ++ numI q))) := addM (by simp; omega) (by omega)
  have i0 : L2.atI [D.int p, D.int q] 0 = some (.int p) := rfl
  have i1 : L2.atI [D.int p, D.int q] 1 = some (.int q) := rfl
  have l2 : 2 ≤ sizeLine := by decide
  have sf : showF p q = if q = 1 then numI p else (numI p ++ [47]) ++ numI q := by
    unfold showF
    have hq := h.q.1
    split
    · rfl
    · rw [List.append_assoc, List.singleton_append]; congr 2; unfold numI; rw [if_neg (by omega)]
  rw [sf]
  have hq := h.q.1
  unfold g_law_show pr
  generalize addD = ADD at *
  by_cases w : q = 1
  · subst w
    iterate 7 (walk_at "den"; try simp only [i0, i1, s1, s2, x1, x2, if_pos l2])
  · have w1 : 1 < q := by omega
    iterate 7 (walk_at "den"; try simp only [i0, i1, s1, s2, x1, x2, if_pos l2, w1, w])
noncomputable def tri (t : Tm) : D := .tup [t.d, .str (mkS t.tx), .int t.rk]
noncomputable def tric (c : Cn) : D := .tup [c.d, .str (mkS c.tx), .int c.rk]
theorem m_leaf {Ff Fs Fm : List D → R D} (hf : ∀ c : Int, ∃ p q, Fq p q ∧ Ff [.int c] = .ok (pr p q)) (hs : ∀ p q, Fq p q → Fs [pr p q] = .ok (.str (mkS (showF p q)))) (hm : ∀ c k : Int, ∃ m, (m.length ≤ 8 ∧ m ≠ [] ∧ ∀ c ∈ m, 97 ≤ c ∧ c ≤ 122) ∧ Fm [.int c, .int k] = .ok (.str (mkS m)))
    (h c : Int) : ∃ t : Tm, t.Ok ∧ t.sz = 1 ∧ finT (g_law_leaf a Ff Fs Fm (startD 7 [.int h, .int c])) = .ok (tri t) := by
  obtain ⟨k, hk⟩ := Int.eq_ofNat_of_zero_le (show 0 ≤ c % 8 by omega)
  have k8 : k < 8 := by omega
  by_cases k2 : k < 2
  · obtain ⟨p, q, fq, e1⟩ := hf (c / 8)
    have e2 := hs p q fq
    refine ⟨.num p q, fq, rfl, ?_⟩
    unfold g_law_leaf tri
    have lt : (k : Int) < 2 := by omega
    iterate 7 (walk_at "den"; try simp only [hk, lt, decide_true, e1, e2])
    rfl
  · by_cases k3 : k = 2
    · subst k3
      refine ⟨.here, trivial, rfl, ?_⟩
      unfold g_law_leaf tri
      iterate 7 (walk_at "den"; try simp only [hk, Int.cast_ofNat_Int])
      rfl
    · by_cases k7 : k = 7
      · subst k7
        obtain ⟨m, hO, e1⟩ := hm h (c / 8)
        have x1 : addD (.str (Str.ofString "at ")) (.str (mkS m)) = .ok (.str (mkS ([97, 116, 32] ++ m))) := addM (x := [97, 116, 32]) (by simp) (by omega)
        refine ⟨.at m, hO, rfl, ?_⟩
        unfold g_law_leaf tri
        have ai : addD (.int 1) (.int (c / 8 % 9)) = .ok (.int (1 + c / 8 % 9)) := rfl
        generalize addD = ADD at *
        iterate 7 (walk_at "den"; try simp only [hk, Int.cast_ofNat_Int, e1, x1, ai])
        rfl
      · have lt : ¬ (k : Int) < 2 := by omega
        have n2 : ¬ (k : Int) = 2 := by omega
        have n7 : ¬ (k : Int) = 7 := by omega
        have w4 : (k : Int) - 3 = ((k - 3 : Nat) : Int) := by omega
        have ix : L2.atI [D.str "back", D.str "on", D.str "ago", D.str "until"] ((k - 3 : Nat) : Int) = some (.str (wd (k - 3))) := by
          have : k = 3 ∨ k = 4 ∨ k = 5 ∨ k = 6 := by omega
          rcases this with rfl | rfl | rfl | rfl <;> rfl
        have nb : 1 ≤ 1 + c / 8 % 9 ∧ 1 + c / 8 % 9 ≤ 9 := by omega
        have sn := strI (i := 1 + c / 8 % 9) (Nat.lt_of_lt_of_le (show (1 + c / 8 % 9).natAbs < 10 by omega) (by decide))
        have ln := numI_len (i := 1 + c / 8 % 9) (by omega)
        have lw := wd_len (k - 3)
        have x1 : addD (.str (wd (k - 3))) (.str (Str.ofString " ")) = .ok (.str (mkS (cds (wd (k - 3)) ++ [32]))) := by
          have := addM (x := cds (wd (k - 3))) (y := [32]) (by omega) (by simp)
          rw [mk_cds] at this
          exact this
        have x2 : addD (.str (mkS (cds (wd (k - 3)) ++ [32]))) (.str (mkS (numI (1 + c / 8 % 9)))) = .ok (.str (mkS ((cds (wd (k - 3)) ++ [32]) ++ numI (1 + c / 8 % 9)))) := addM (by simp; omega) (by omega)
        have ai : addD (.int 1) (.int (c / 8 % 9)) = .ok (.int (1 + c / 8 % 9)) := rfl
        have l4 : 4 ≤ sizeLine := by decide
        refine ⟨.plc (k - 3) (1 + c / 8 % 9), nb, rfl, ?_⟩
        have tx : (Tm.plc (k - 3) (1 + c / 8 % 9)).tx = (cds (wd (k - 3)) ++ [32]) ++ numI (1 + c / 8 % 9) := by
          rw [List.append_assoc]; rfl
        unfold g_law_leaf tri
        rw [tx]
        generalize addD = ADD at *
        iterate 9 (walk_at "den"; try simp only [hk, lt, n2, n7, w4, ix, sn, x1, x2, ai, if_pos l4])
        rfl
theorem m_put {d : D} {x : List Nat} {r n : Int} {o c : Nat} (hx : x.length ≤ 30000) : finT (g_law_put a (startD 3 [.tup [d, .str (mkS x), .int r], .int n, .str (mkS [o, c])])) = .ok (.str (mkS (brk o c (decide (r < n)) x))) := by
  have i0 : L2.atI [d, D.str (mkS x), D.int r] 1 = some (.str (mkS x)) := rfl
  have i2 : L2.atI [d, D.str (mkS x), D.int r] 2 = some (.int r) := rfl
  have b0 : ixD (.str (mkS [o, c])) (.int 0) = .ok (.str (mkS [o])) := rfl
  have b1 : ixD (.str (mkS [o, c])) (.int 1) = .ok (.str (mkS [c])) := rfl
  have x1 : addD (.str (mkS [o])) (.str (mkS x)) = .ok (.str (mkS ([o] ++ x))) := addM (by simp) (by omega)
  have x2 : addD (.str (mkS ([o] ++ x))) (.str (mkS [c])) = .ok (.str (mkS (([o] ++ x) ++ [c]))) := addM (by simp; omega) (by simp)
  have l3 : 3 ≤ sizeLine := by decide
  have e1 : ixD (.tup [d, D.str (mkS x), D.int r]) (.int 1) = .ok (.str (mkS x)) := by walk_at "den"; simp only [if_pos l3, i0]
  have e2 : ixD (.tup [d, D.str (mkS x), D.int r]) (.int 2) = .ok (.int r) := by walk_at "den"; simp only [if_pos l3, i2]
  simp only [List.cons_append, List.nil_append] at x1 x2
  unfold g_law_put brk
  generalize addD = ADD at *
  generalize ixD = IX at *
  by_cases h : r < n
  · rw [if_pos (decide_eq_true h)]
    iterate 7 (walk_at "den"; try simp only [e1, e2, b0, b1, x1, x2, decide_eq_true h])
    try simp
  · rw [if_neg (by simp [h])]
    iterate 7 (walk_at "den"; try simp only [e1, e2, b0, b1, x1, x2, decide_eq_false h])
noncomputable def PutOk (F : List D → R D) : Prop := ∀ (d : D) (x : List Nat) (r n : Int) (o c : Nat), x.length ≤ 30000 → F [.tup [d, .str (mkS x), .int r], .int n, .str (mkS [o, c])] = .ok (.str (mkS (brk o c (decide (r < n)) x)))
theorem rk1 (t : Tm) : ¬ t.rk < 1 := by cases t <;> simp [Tm.rk]
theorem tix {d : D} {x : List Nat} {r : Int} : ixD (.tup [d, D.str (mkS x), D.int r]) (.int 0) = .ok d ∧ ixD (.tup [d, D.str (mkS x), D.int r]) (.int 1) = .ok (.str (mkS x)) := by
  have l3 : 3 ≤ sizeLine := by decide
  have i0 : L2.atI [d, D.str (mkS x), D.int r] 0 = some d := rfl
  have i1 : L2.atI [d, D.str (mkS x), D.int r] 1 = some (.str (mkS x)) := rfl
  exact ⟨by walk_at "den"; simp only [if_pos l3, i0], by walk_at "den"; simp only [if_pos l3, i1]⟩
theorem add4 {x w y : List Nat} (h1 : x.length ≤ 15000) (h2 : w.length ≤ 100) (h3 : y.length ≤ 15000) :
    addD (.str (mkS x)) (.str (Str.ofString " ")) = .ok (.str (mkS (x ++ [32]))) ∧ addD (.str (mkS (x ++ [32]))) (.str (mkS w)) = .ok (.str (mkS (x ++ [32] ++ w))) ∧ addD (.str (mkS (x ++ [32] ++ w))) (.str (Str.ofString " ")) = .ok (.str (mkS (x ++ [32] ++ w ++ [32]))) ∧ addD (.str (mkS (x ++ [32] ++ w ++ [32]))) (.str (mkS y)) = .ok (.str (mkS (x ++ 32 :: (w ++ 32 :: y)))) := by
  refine ⟨addM (y := [32]) (by omega) (by simp), addM (by simp; omega) (by omega), addM (y := [32]) (by simp; omega) (by simp), ?_⟩
  rw [addM (by simp; omega) (by omega)]
  simp
theorem m_lsum {Fp : List D → R D} (hp : PutOk Fp) {x y : Tm} {s : Bool} (lx : x.tx.length ≤ 10000) (ly : y.tx.length ≤ 10000) : finT (g_law_sum a Fp (startD 4 [tri x, tri y, .str (sg s)])) = .ok (tri (.bin s x y)) := by
  have p1 := hp x.d x.tx x.rk 1 40 41 (by omega)
  have p2 := hp y.d y.tx y.rk 2 40 41 (by omega)
  have ls := sg_len s
  have lb := brk_len 40 41 (decide (y.rk < 2)) y.tx
  rw [decide_eq_false (rk1 x), show brk 40 41 false x.tx = x.tx from rfl] at p1
  have br : mkS [40, 41] = Str.ofString "()" := rfl
  rw [br] at p1 p2
  obtain ⟨a1, a2, a3, a4⟩ := add4 (x := x.tx) (w := cds (sg s)) (y := brk 40 41 (decide (y.rk < 2)) y.tx) (by omega) (by omega) (by omega)
  rw [mk_cds] at a2
  obtain ⟨i0, _⟩ := tix (d := x.d) (x := x.tx) (r := x.rk)
  obtain ⟨i1, _⟩ := tix (d := y.d) (x := y.tx) (r := y.rk)
  have tx : (Tm.bin s x y).tx = x.tx ++ 32 :: (cds (sg s) ++ 32 :: brk 40 41 (decide (y.rk < 2)) y.tx) := rfl
  unfold g_law_sum tri
  rw [tx, show (Tm.bin s x y).d = .tup [.str (sg s), x.d, y.d] from rfl, show (Tm.bin s x y).rk = 1 from rfl]
  generalize addD = ADD at *
  generalize ixD = IX at *
  iterate 9 (walk_at "den"; try simp only [p1, p2, a1, a2, a3, a4, i0, i1])
theorem m_lover {Ff Fs Fp : List D → R D} (hf : ∀ c : Int, ∃ p q, Fq p q ∧ Ff [.int c] = .ok (pr p q)) (hs : ∀ p q, Fq p q → Fs [pr p q] = .ok (.str (mkS (showF p q)))) (hp : PutOk Fp) {x : Tm} (hx : x.Ok) (lx : x.tx.length ≤ 10000) (c : Int) :
    ∃ t : Tm, t.Ok ∧ t.sz = x.sz + 1 ∧ finT (g_law_over_term a Ff Fs Fp (startD 3 [tri x, .int c])) = .ok (tri t) := by
  obtain ⟨i0, i1⟩ := tix (d := x.d) (x := x.tx) (r := x.rk)
  by_cases h : c % 2 = 0
  · refine ⟨.abs x, hx, rfl, ?_⟩
    have x1 : addD (.str (Str.ofString "abs(")) (.str (mkS x.tx)) = .ok (.str (mkS ([97, 98, 115, 40] ++ x.tx))) := addM (x := [97, 98, 115, 40]) (by simp) (by omega)
    have x2 : addD (.str (mkS ([97, 98, 115, 40] ++ x.tx))) (.str (Str.ofString ")")) = .ok (.str (mkS (([97, 98, 115, 40] ++ x.tx) ++ [41]))) := addM (y := [41]) (by simp; omega) (by simp)
    rw [List.append_assoc] at x2
    simp only [List.cons_append, List.nil_append] at x1 x2
    unfold g_law_over_term tri
    rw [show (Tm.abs x).tx = [97, 98, 115, 40] ++ (x.tx ++ [41]) from rfl, show (Tm.abs x).d = .tup [.str "abs", x.d] from rfl, show (Tm.abs x).rk = 3 from rfl]
    generalize addD = ADD at *
    generalize ixD = IX at *
    iterate 9 (walk_at "den"; try simp only [h, x1, x2, i0, i1])
  · obtain ⟨p, q, fq, e1⟩ := hf (c / 2)
    have e2 := hs p q fq
    have e3 := hp x.d x.tx x.rk 3 40 41 (by omega)
    rw [show mkS [40, 41] = Str.ofString "()" from rfl] at e3
    have lb := brk_len 40 41 (decide (x.rk < 3)) x.tx
    have lf := showF_len fq
    have x1 : addD (.str (mkS (showF p q))) (.str (Str.ofString " * ")) = .ok (.str (mkS (showF p q ++ [32, 42, 32]))) := addM (y := [32, 42, 32]) (by omega) (by simp)
    have x2 : addD (.str (mkS (showF p q ++ [32, 42, 32]))) (.str (mkS (brk 40 41 (decide (x.rk < 3)) x.tx))) = .ok (.str (mkS ((showF p q ++ [32, 42, 32]) ++ brk 40 41 (decide (x.rk < 3)) x.tx))) := addM (by simp; omega) (by omega)
    refine ⟨.times p q x, ⟨fq, hx⟩, rfl, ?_⟩
    have tx : (Tm.times p q x).tx = (showF p q ++ [32, 42, 32]) ++ brk 40 41 (decide (x.rk < 3)) x.tx := by
      rw [List.append_assoc]; rfl
    unfold g_law_over_term tri
    rw [tx, show (Tm.times p q x).d = .tup [.str "times", pr p q, x.d] from rfl, show (Tm.times p q x).rk = 2 from rfl]
    generalize addD = ADD at *
    generalize ixD = IX at *
    iterate 9 (walk_at "den"; try simp only [h, x1, x2, i0, i1, e1, e2, e3])
theorem m_compared {x y : Tm} {s : Bool} (lx : x.tx.length ≤ 10000) (ly : y.tx.length ≤ 10000) : finT (g_law_compared a (startD 3 [tri x, tri y, .str (cg s)])) = .ok (tric (.cmp s x y)) := by
  have ls := cg_len s
  obtain ⟨a1, a2, a3, a4⟩ := add4 (x := x.tx) (w := cds (cg s)) (y := y.tx) (by omega) (by omega) (by omega)
  rw [mk_cds] at a2
  obtain ⟨i0, j0⟩ := tix (d := x.d) (x := x.tx) (r := x.rk)
  obtain ⟨i1, j1⟩ := tix (d := y.d) (x := y.tx) (r := y.rk)
  unfold g_law_compared tri tric
  rw [show (Cn.cmp s x y).tx = x.tx ++ 32 :: (cds (cg s) ++ 32 :: y.tx) from rfl, show (Cn.cmp s x y).d = .tup [.str (cg s), x.d, y.d] from rfl, show (Cn.cmp s x y).rk = 4 from rfl]
  generalize addD = ADD at *
  generalize ixD = IX at *
  iterate 9 (walk_at "den"; try simp only [a1, a2, a3, a4, i0, i1, j0, j1])
theorem m_ljoined {Fp : List D → R D} (hp : PutOk Fp) {x y : Cn} {s : Bool} (lx : x.tx.length ≤ 10000) (ly : y.tx.length ≤ 10000) : finT (g_law_joined a Fp (startD 5 [tric x, tric y, .str (cw s)])) = .ok (tric (.two s x y)) := by
  have ls := cw_len s
  have ib : intBD [.bl (decide (cw s = Str.ofString "and"))] = .ok (.int (if s = true then 1 else 0)) := by cases s <;> rfl
  have ai : addD (.int 1) (.int (if s = true then 1 else 0)) = .ok (.int (if s = true then 2 else 1)) := by cases s <;> rfl
  have aj : addD (.int (if s = true then 2 else 1)) (.int 1) = .ok (.int (if s = true then 3 else 2)) := by cases s <;> rfl
  have p1 := hp x.d x.tx x.rk (if s = true then 2 else 1) 91 93 (by omega)
  have p2 := hp y.d y.tx y.rk (if s = true then 3 else 2) 91 93 (by omega)
  have br : mkS [91, 93] = Str.ofString "[]" := rfl
  rw [br] at p1 p2
  have lb1 := brk_len 91 93 (decide (x.rk < if s = true then 2 else 1)) x.tx
  have lb2 := brk_len 91 93 (decide (y.rk < if s = true then 3 else 2)) y.tx
  obtain ⟨a1, a2, a3, a4⟩ := add4 (x := brk 91 93 (decide (x.rk < if s = true then 2 else 1)) x.tx) (w := cds (cw s)) (y := brk 91 93 (decide (y.rk < if s = true then 3 else 2)) y.tx) (by omega) (by omega) (by omega)
  rw [mk_cds] at a2
  obtain ⟨i0, j0⟩ := tix (d := x.d) (x := x.tx) (r := x.rk)
  obtain ⟨i1, j1⟩ := tix (d := y.d) (x := y.tx) (r := y.rk)
  unfold g_law_joined tric
  rw [show (Cn.two s x y).tx = brk 91 93 (decide (x.rk < if s = true then 2 else 1)) x.tx ++ 32 :: (cds (cw s) ++ 32 :: brk 91 93 (decide (y.rk < if s = true then 3 else 2)) y.tx) from rfl, show (Cn.two s x y).d = .tup [.str (cw s), x.d, y.d] from rfl, show (Cn.two s x y).rk = if s = true then 2 else 1 from rfl]
  generalize addD = ADD at *
  generalize ixD = IX at *
  generalize intBD = IB at *
  generalize (if s = true then (1 : Int) else 0) = r0 at *
  generalize (if s = true then (3 : Int) else 2) = r3 at *
  generalize (if s = true then (2 : Int) else 1) = r1 at *
  iterate 9 (walk_at "den"; try simp only [ib, ai, aj, p1, p2, a1, a2, a3, a4, i0, i1, j0, j1])
theorem m_denied {Fp : List D → R D} (hp : PutOk Fp) {x : Cn} (lx : x.tx.length ≤ 10000) : finT (g_law_denied a Fp (startD 1 [tric x])) = .ok (tric (.not x)) := by
  have p1 := hp x.d x.tx x.rk 3 91 93 (by omega)
  rw [show mkS [91, 93] = Str.ofString "[]" from rfl] at p1
  have lb := brk_len 91 93 (decide (x.rk < 3)) x.tx
  have x1 : addD (.str (Str.ofString "not ")) (.str (mkS (brk 91 93 (decide (x.rk < 3)) x.tx))) = .ok (.str (mkS ([110, 111, 116, 32] ++ brk 91 93 (decide (x.rk < 3)) x.tx))) := addM (x := [110, 111, 116, 32]) (by simp) (by omega)
  obtain ⟨i0, j0⟩ := tix (d := x.d) (x := x.tx) (r := x.rk)
  unfold g_law_denied tric
  rw [show (Cn.not x).tx = [110, 111, 116, 32] ++ brk 91 93 (decide (x.rk < 3)) x.tx from rfl, show (Cn.not x).d = .tup [.str "not", x.d] from rfl, show (Cn.not x).rk = 3 from rfl]
  generalize addD = ADD at *
  generalize ixD = IX at *
  iterate 9 (walk_at "den"; try simp only [p1, x1, i0, j0])
noncomputable def restI (t c : Int) : Int := (t + 1) / 2 + t % 2 + max 0 (c + (t + 1) / 2 - 1) + 3 * (if c + (t + 1) / 2 = 0 then 1 else 0)
theorem m_rest (t c : Int) : finT (g_law_rest a (startD 3 [.int t, .int c])) = .ok (.int (restI t c)) := by
  have m1 : ∀ z : Int, mulUD (.int 3) (.int z) = .ok (.int (3 * z)) := fun z => q_mulU_l (by decide) (by decide)
  have ib : ∀ b : Bool, intBD [.bl b] = .ok (.int (if b = true then 1 else 0)) := fun b => by cases b <;> rfl
  have mx : ∀ z : Int, max2D [.int 0, .int z] = .ok (.int (max 0 z)) := fun z => by
    show R.ok (D.int (if z > 0 then z else 0)) = _
    congr 2
    split <;> omega
  unfold g_law_rest restI
  iterate 7 (walk_at "den"; try simp only [m1, ib, mx])
  by_cases h : c + (t + 1) / 2 = 0 <;> simp [h] <;> (try split) <;> omega
noncomputable def stS (ts cs : List D) (p o : Int) : Sto := [.dk [(.inr "terms", .loc 1), (.inr "conds", .loc 2), (.inr "parts", .d (.int p)), (.inr "over", .d (.int o))], .li (ts.map .d), .li (cs.map .d)]
section
variable {ρ ρ' : ZEv} {S S1 S2 : Sto} {f : ZEv → Sto → RX Z} {ts cs ts' cs' : List D} {p o p' o' : Int} {x : D} {i : Nat}
theorem y_seq {g h : ZEv → Sto → RTZ} (e : g ρ S = .nx ρ' S1) : ySeq g h ρ S = h ρ' S1 := by unfold ySeq; rw [e]; rfl
theorem y_set {z : Z} (e : f ρ S = .ok z S1) (hi : i < ρ.length) : ySet i f ρ S = .nx (ρ.set i (some z)) S1 := by unfold ySet; rw [e]; exact if_pos hi
theorem y_if_t {c : ZEv → Sto → RX Bool} {g h : ZEv → Sto → RTZ} (e : c ρ S = .ok true S1) : yIf c g h ρ S = g ρ S1 := by unfold yIf; rw [e]; rfl
theorem y_if_f {c : ZEv → Sto → RX Bool} {g h : ZEv → Sto → RTZ} (e : c ρ S = .ok false S1) : yIf c g h ρ S = h ρ S1 := by unfold yIf; rw [e]; rfl
theorem last_map (l : List D) (x : D) : ((l ++ [x]).map Z.d)[((l ++ [x]).map Z.d).length - 1]? = some (.d x) := by simp
theorem drop_map (l : List D) (x : D) : ((l ++ [x]).map Z.d).dropLast = l.map .d := by rw [List.map_append]; exact List.dropLast_concat
theorem pop_t (h : ρ[i]? = some (some (.loc 1))) : zPop i ρ (stS (ts ++ [x]) cs p o) = .ok (.d x) (stS ts cs p o) := by
  unfold zPop
  rw [h]
  show (match ((ts ++ [x]).map Z.d)[((ts ++ [x]).map Z.d).length - 1]? with
    | some z => RX.ok z ((stS (ts ++ [x]) cs p o).set 1 (.li ((ts ++ [x]).map Z.d).dropLast))
    | none => RX.bad) = _
  rw [last_map, drop_map]
  rfl
theorem pop_c (h : ρ[i]? = some (some (.loc 2))) : zPop i ρ (stS ts (cs ++ [x]) p o) = .ok (.d x) (stS ts cs p o) := by
  unfold zPop
  rw [h]
  show (match ((cs ++ [x]).map Z.d)[((cs ++ [x]).map Z.d).length - 1]? with
    | some z => RX.ok z ((stS ts (cs ++ [x]) p o).set 2 (.li ((cs ++ [x]).map Z.d).dropLast))
    | none => RX.bad) = _
  rw [last_map, drop_map]
  rfl
theorem app_t (h : ρ[i]? = some (some (.loc 1))) (e : f ρ (stS ts cs p o) = .ok (.d x) (stS ts' cs' p' o')) (hl : ts'.length ≤ 1000) : yApp i f ρ (stS ts cs p o) = .nx ρ (stS (ts' ++ [x]) cs' p' o') := by
  unfold yApp
  rw [h]
  show toZ (f ρ (stS ts cs p o)) _ = _
  rw [e]
  show (if (ts'.map Z.d).length < sizeLine then RTZ.nx ρ ((stS ts' cs' p' o').set 1 (.li (ts'.map Z.d ++ [.d x]))) else .bad) = _
  rw [List.length_map, if_pos (lt_size (by omega))]
  unfold stS
  rw [List.map_append]
  rfl
theorem app_c (h : ρ[i]? = some (some (.loc 2))) (e : f ρ (stS ts cs p o) = .ok (.d x) (stS ts' cs' p' o')) (hl : cs'.length ≤ 1000) : yApp i f ρ (stS ts cs p o) = .nx ρ (stS ts' (cs' ++ [x]) p' o') := by
  unfold yApp
  rw [h]
  show toZ (f ρ (stS ts cs p o)) _ = _
  rw [e]
  show (if (cs'.map Z.d).length < sizeLine then RTZ.nx ρ ((stS ts' cs' p' o').set 2 (.li (cs'.map Z.d ++ [.d x]))) else .bad) = _
  rw [List.length_map, if_pos (lt_size (by omega))]
  unfold stS
  rw [List.map_append]
  rfl
theorem get_t (h : ρ[i]? = some (some (.loc 0))) : zGet (zV i) (dC (.str "terms")) ρ (stS ts cs p o) = .ok (.loc 1) (stS ts cs p o) := by
  unfold zGet zV
  rw [h]
  rfl
theorem get_c (h : ρ[i]? = some (some (.loc 0))) : zGet (zV i) (dC (.str "conds")) ρ (stS ts cs p o) = .ok (.loc 2) (stS ts cs p o) := by
  unfold zGet zV
  rw [h]
  rfl
theorem get_p (h : ρ[i]? = some (some (.loc 0))) : zGet (zV i) (dC (.str "parts")) ρ (stS ts cs p o) = .ok (.d (.int p)) (stS ts cs p o) := by
  unfold zGet zV
  rw [h]
  rfl
theorem get_o (h : ρ[i]? = some (some (.loc 0))) : zGet (zV i) (dC (.str "over")) ρ (stS ts cs p o) = .ok (.d (.int o)) (stS ts cs p o) := by
  unfold zGet zV
  rw [h]
  rfl
theorem put_o {k : Int} (h : ρ[i]? = some (some (.loc 0))) (e : f ρ (stS ts cs p o) = .ok (.d (.int k)) (stS ts cs p o)) : yDput (zV i) (dC (.str "over")) f ρ (stS ts cs p o) = .nx ρ (stS ts cs p k) := by
  unfold yDput
  rw [e]
  unfold zV
  show toZ (match ρ[i]? with | some (some z) => _ | _ => _) _ = _
  rw [h]
  rfl
theorem put_p {k : Int} (h : ρ[i]? = some (some (.loc 0))) (e : f ρ (stS ts cs p o) = .ok (.d (.int k)) (stS ts cs p o)) : yDput (zV i) (dC (.str "parts")) f ρ (stS ts cs p o) = .nx ρ (stS ts cs k o) := by
  unfold yDput
  rw [e]
  unfold zV
  show toZ (match ρ[i]? with | some (some z) => _ | _ => _) _ = _
  rw [h]
  rfl
theorem z_D {g : Ev → R D} {d : D} (e : g (pur ρ) = .ok d) : zD g ρ S = .ok (.d d) S := by unfold zD; rw [e]; rfl
theorem z_B {g : Ev → R Bool} {d : Bool} (e : g (pur ρ) = .ok d) : zB g ρ S = .ok d S := by unfold zB; rw [e]; rfl
theorem z_RB {g : Ev → R Bool} {d : Bool} (e : g (vw S ρ) = .ok d) : zRB g ρ S = .ok d S := by unfold zRB; rw [e]
theorem z_nil : zNil ρ S = .ok [] S := rfl
theorem z_cons {r : ZEv → Sto → RX (List Z)} {z : Z} {zs : List Z} (e : f ρ S = .ok z S1) (e2 : r ρ S1 = .ok zs S2) : zCons f r ρ S = .ok (z :: zs) S2 := by
  unfold zCons
  rw [e]
  show (r ρ S1).bind _ = _
  rw [e2]
  rfl
theorem z_F {g : List D → R D} {r : ZEv → Sto → RX (List Z)} {ds : List D} {d : D} (e : r ρ S = .ok (ds.map .d) S1) (e2 : g ds = .ok d) : zF g r ρ S = .ok (.d d) S1 := by
  unfold zF
  rw [e]
  show (match asDs (ds.map Z.d) with | some ds => _ | none => _) = _
  rw [asDs_of]
  show RX.bind (upR (g ds) S1) _ = _
  rw [e2]
  rfl
theorem z_and_t {c d : ZEv → Sto → RX Bool} {k : Bool} (e : c ρ S = .ok true S1) (e2 : d ρ S1 = .ok k S2) : zAndB c d ρ S = .ok k S2 := by unfold zAndB; rw [e]; exact e2
theorem z_and_f {c d : ZEv → Sto → RX Bool} (e : c ρ S = .ok false S1) : zAndB c d ρ S = .ok false S1 := by unfold zAndB; rw [e]; rfl
theorem z_2 {g : D → D → R D} {fa fb : ZEv → Sto → RX Z} {u v w : D} (e1 : fa ρ S = .ok (.d u) S1) (e2 : fb ρ S1 = .ok (.d v) S2) (e3 : g u v = .ok w) : z2 g fa fb ρ S = .ok (.d w) S2 := by
  unfold z2
  rw [e1]
  show (fb ρ S1).bind _ = _
  rw [e2]
  show RX.bind (upR (g u v) S2) _ = _
  rw [e3]
  rfl
theorem z_tst {g : D → R Bool} {u : D} {k : Bool} (e1 : f ρ S = .ok (.d u) S1) (e3 : g u = .ok k) : zTst g f ρ S = .ok k S1 := by
  unfold zTst
  rw [e1]
  show upR (g u) S1 = _
  rw [e3]
  rfl
end
end WC
namespace WC
open PySem L2 P2 WP TM T2 PySem.NumText
local macro_rules | `(tactic| walk_at "den") => `(tactic| try simp (disch := first | assumption | decide | exact Nat.le_of_ble_eq_true rfl) only [q_bind_k, q_bind_x, q_bind_b, q_toS_k, q_toS_x, q_toS_b, q_seq_n, q_seq_r, q_seq_x, q_seq_b, q_turn_n, q_turn_c, q_turn_k, q_turn_r, q_turn_b, q_turn_x, q_fin_r, q_fin_n, q_fin_x, q_noEx_k, q_okO_k, q_ofO_s, q_sSeq_a, q_sNil_a, q_sRet_a, q_sExpr_a, q_sSet_a, q_sIf_a, q_dC_a, q_d1_a, q_d2_a, q_b1B_a, q_b1T_a, q_bAnd_a, q_bOr_a, q_bNot_a, q_dAnd_a, q_dOr_a, q_dNot_a, q_dIf_a, q_dA_a, q_aNil_a, q_aCons_a, q_asN_a, q_dMt_a, q_dSl_a, q_dComp_a, q_sFor_a, q_toO_s, q_gV_a, q_tB_b, q_tT_b, q_tT_i, q_tT_n, q_tT_l, q_tT_t, q_add_i, q_sub_i, q_fdiv_p, q_mod_p, q_lt_i, q_le_i, q_gt_i, q_ge_i, q_neg_i, q_eq_i, q_eq_s, q_eq_b, q_ne_i, q_ne_s, q_in_s, q_ix_l, q_ix_t, q_ix_s, q_sl_l, q_sl_s, q_pI_i, q_len_s, q_len_l, q_len_t, q_abs_i, q_max_i, q_int_s, q_all_l, q_any_l, q_st_s, q_zf_s, q_hs_s, q_fit_p, q_add_sp, q_add_lp, q_mkT_p, q_asI_l, q_asI_t, q_asI_s, q_fmt_s, q_jNil_a, q_jCons_k, q_isX_i, q_isX_b, q_isX_s, q_isX_t, q_isX_l, q_slW_l, q_slW_s, q_is_bb, q_isn_bb, q_is_nn, q_isn_nn, q_is_tn, q_isn_tn, q_v0, q_v1, q_v2, q_v3, q_v4, q_v5, q_v6, q_v7, q_v8, q_v9, q_v10, q_v11, q_v12, q_v13, startD, List.map_cons, List.map_nil, List.length_cons, List.length_nil, Nat.sub_self, Nat.reduceAdd, Nat.reduceSub, List.replicate_zero, List.replicate_succ, List.append_nil, List.nil_append, List.cons_append, List.set_cons_zero, List.set_cons_succ, if_true, if_false, Nat.reduceLT, Nat.zero_lt_succ, Bool.not_true, Bool.not_false, Bool.false_eq_true, reduceIte, decide_true, decide_false, Int.reduceLT, Int.reduceEq, Int.reduceNeg, Int.reducePow, Int.reduceSub, Int.reduceAdd, Int.reduceMul,  List.length_set])
variable {a : Ad}
noncomputable def wt (ts : List Tm) : Nat := (ts.map Tm.sz).sum
noncomputable def wc (cs : List Cn) : Nat := (cs.map Cn.sz).sum
theorem wt_app (x y : List Tm) : wt (x ++ y) = wt x + wt y := by unfold wt; rw [List.map_append, List.sum_append]
theorem wc_app (x y : List Cn) : wc (x ++ y) = wc x + wc y := by unfold wc; rw [List.map_append, List.sum_append]
theorem wt_one (x : Tm) : wt [x] = x.sz := by simp [wt]
theorem wc_one (x : Cn) : wc [x] = x.sz := by simp [wc]
structure Inv (ts : List Tm) (cs : List Cn) (p : Int) : Prop where
  tO : ∀ t ∈ ts, t.Ok
  cO : ∀ c ∈ cs, c.Ok
  sum : ((wt ts + wc cs : Nat) : Int) = p
  bd : p + restI ts.length cs.length ≤ 30
theorem rest_nn (t c : Nat) : 0 ≤ restI t c := by
  unfold restI
  split <;> omega
theorem two_of {α : Type} {l : List α} (h : 1 < l.length) : ∃ k u v, l = k ++ [u] ++ [v] := by
  have e1 := List.dropLast_concat_getLast (l := l) (by intro w; rw [w] at h; simp at h)
  have e2 := List.dropLast_concat_getLast (l := l.dropLast) (by intro w; have := congrArg List.length w; simp at this; omega)
  exact ⟨_, _, _, by rw [e2, e1]⟩
theorem one_of {α : Type} {l : List α} (h : 0 < l.length) : ∃ k u, l = k ++ [u] := by
  have e1 := List.dropLast_concat_getLast (l := l) (by intro w; rw [w] at h; simp at h)
  exact ⟨_, _, e1.symm⟩
theorem len_t {t : Tm} (h : t.Ok) (n : t.sz ≤ 200) : t.tx.length ≤ 10000 := by have := Tm.len h; omega
theorem len_c {t : Cn} (h : t.Ok) (n : t.sz ≤ 200) : t.tx.length ≤ 10000 := by have := Cn.len h; omega
noncomputable abbrev stT (ts : List Tm) (cs : List Cn) (p o : Int) : Sto := stS (ts.map tri) (cs.map tric) p o
theorem map_tt (l : List Tm) (u v : Tm) : (l ++ [u] ++ [v]).map tri = (l.map tri ++ [tri u]) ++ [tri v] := by simp
theorem map_t (l : List Tm) (u : Tm) : (l ++ [u]).map tri = l.map tri ++ [tri u] := by simp
theorem map_cc (l : List Cn) (u v : Cn) : (l ++ [u] ++ [v]).map tric = (l.map tric ++ [tric u]) ++ [tric v] := by simp
theorem map_c (l : List Cn) (u : Cn) : (l ++ [u]).map tric = l.map tric ++ [tric u] := by simp
noncomputable def rh (c h k : Int) (s : Option Z) : ZEv := [some (.loc 0), some (.d (.int c)), some (.d (.int h)), some (.loc 1), some (.loc 2), some (.d (.int k)), s]
theorem vw_rh {ts cs : List D} {p o c h k : Int} : vw (stS ts cs p o) (rh c h k none) = [.no, .sh (.int c), .sh (.int h), .sh (.lst ts), .sh (.lst cs), .sh (.int k), .no] := by
  unfold vw rh
  simp only [List.map_cons, List.map_nil]
  have e1 : vwS (stS ts cs p o) (some (.loc 1)) = .sh (.lst ts) := by
    show (match asDs (ts.map Z.d) with | some ds => Sl.sh (.lst ds) | none => .no) = _
    rw [asDs_of]
  have e2 : vwS (stS ts cs p o) (some (.loc 2)) = .sh (.lst cs) := by
    show (match asDs (cs.map Z.d) with | some ds => Sl.sh (.lst ds) | none => .no) = _
    rw [asDs_of]
  rw [e1, e2]
  rfl
theorem in_two {k : Nat} (hk : k < 16) : (inLD (.int k) (.tup [.int 6, .int 7]) = .ok (.bl (decide (k = 6 ∨ k = 7)))) ∧ (inLD (.int k) (.tup [.int 8, .int 9]) = .ok (.bl (decide (k = 8 ∨ k = 9)))) ∧ (inLD (.int k) (.tup [.int 10, .int 11]) = .ok (.bl (decide (k = 10 ∨ k = 11)))) ∧ (inLD (.int k) (.tup [.int 13, .int 14]) = .ok (.bl (decide (k = 13 ∨ k = 14)))) := by
  have : k = 0 ∨ k = 1 ∨ k = 2 ∨ k = 3 ∨ k = 4 ∨ k = 5 ∨ k = 6 ∨ k = 7 ∨ k = 8 ∨ k = 9 ∨ k = 10 ∨ k = 11 ∨ k = 12 ∨ k = 13 ∨ k = 14 ∨ k = 15 := by omega
  rcases this with rfl | rfl | rfl | rfl | rfl | rfl | rfl | rfl | rfl | rfl | rfl | rfl | rfl | rfl | rfl | rfl <;> exact ⟨rfl, rfl, rfl, rfl⟩
section
variable {ts cs : List D} {p o c h : Int} {k : Nat} (hk : k < 16)
include hk
theorem tst1 : zRB (bAnd (P2.b1 tB (d2 inLD (dV 5) (dA mkT (aCons (dC (.int 6)) (aCons (dC (.int 7)) aNil))))) (P2.b1 tB (d2 gtD (dA lenD (aCons (dV 3) aNil)) (dC (.int 1))))) (rh c h k none) (stS ts cs p o) = .ok (decide ((k = 6 ∨ k = 7) ∧ 1 < ts.length)) (stS ts cs p o) := by
  obtain ⟨i1, i2, i3, i4⟩ := in_two hk
  refine z_RB ?_
  rw [vw_rh]
  by_cases z : k = 6 ∨ k = 7
  · iterate 4 (walk_at "den"; try simp only [i1, z, true_and, decide_true, gt_iff_lt])
    congr 1
    apply decide_eq_decide.mpr
    omega
  · iterate 4 (walk_at "den"; try simp only [i1, z, false_and, decide_false])
theorem tst3 : zRB (bAnd (P2.b1 tB (d2 inLD (dV 5) (dA mkT (aCons (dC (.int 10)) (aCons (dC (.int 11)) aNil))))) (P2.b1 tB (d2 gtD (dA lenD (aCons (dV 3) aNil)) (dC (.int 1))))) (rh c h k none) (stS ts cs p o) = .ok (decide ((k = 10 ∨ k = 11) ∧ 1 < ts.length)) (stS ts cs p o) := by
  obtain ⟨i1, i2, i3, i4⟩ := in_two hk
  refine z_RB ?_
  rw [vw_rh]
  by_cases z : k = 10 ∨ k = 11
  · iterate 4 (walk_at "den"; try simp only [i3, z, true_and, decide_true, gt_iff_lt])
    congr 1
    apply decide_eq_decide.mpr
    omega
  · iterate 4 (walk_at "den"; try simp only [i3, z, false_and, decide_false])
theorem tst5 : zRB (bAnd (P2.b1 tB (d2 inLD (dV 5) (dA mkT (aCons (dC (.int 13)) (aCons (dC (.int 14)) aNil))))) (P2.b1 tB (d2 gtD (dA lenD (aCons (dV 4) aNil)) (dC (.int 1))))) (rh c h k none) (stS ts cs p o) = .ok (decide ((k = 13 ∨ k = 14) ∧ 1 < cs.length)) (stS ts cs p o) := by
  obtain ⟨i1, i2, i3, i4⟩ := in_two hk
  refine z_RB ?_
  rw [vw_rh]
  by_cases z : k = 13 ∨ k = 14
  · iterate 4 (walk_at "den"; try simp only [i4, z, true_and, decide_true, gt_iff_lt])
    congr 1
    apply decide_eq_decide.mpr
    omega
  · iterate 4 (walk_at "den"; try simp only [i4, z, false_and, decide_false])
theorem tst4 : zRB (bAnd (P2.b1 tB (d2 eqSD (dV 5) (dC (.int 12)))) (P2.b1 tB (d2 gtD (dA lenD (aCons (dV 4) aNil)) (dC (.int 0))))) (rh c h k none) (stS ts cs p o) = .ok (decide (k = 12 ∧ 0 < cs.length)) (stS ts cs p o) := by
  refine z_RB ?_
  rw [vw_rh]
  by_cases z : k = 12
  · have z' : (k : Int) = 12 := by omega
    iterate 4 (walk_at "den"; try simp only [z, z', true_and, decide_true, gt_iff_lt, Int.cast_ofNat_Int])
    congr 1
    apply decide_eq_decide.mpr
    omega
  · have z' : ¬ (k : Int) = 12 := by omega
    iterate 4 (walk_at "den"; try simp only [z, z', false_and, decide_false])
theorem tst2 : (zAndB (zB (P2.b1 tB (d2 inLD (dV 5) (dA mkT (aCons (dC (.int 8)) (aCons (dC (.int 9)) aNil)))))) (zAndB (zRB (P2.b1 tB (d2 gtD (dA lenD (aCons (dV 3) aNil)) (dC (.int 0))))) (zTst tB (z2 ltD (zGet (zV 0) (dC (.str "over"))) (zD (dC (.int 3))))))) (rh c h k none) (stS ts cs p o) = .ok (decide ((k = 8 ∨ k = 9) ∧ 0 < ts.length ∧ o < 3)) (stS ts cs p o) := by
  obtain ⟨i1, i2, i3, i4⟩ := in_two hk
  have b1 : (P2.b1 tB (d2 inLD (dV 5) (dA mkT (aCons (dC (.int 8)) (aCons (dC (.int 9)) aNil))))) (pur (rh c h k none)) = .ok (decide (k = 8 ∨ k = 9)) := by
    show (P2.b1 tB (d2 inLD (dV 5) (dA mkT (aCons (dC (.int 8)) (aCons (dC (.int 9)) aNil))))) [.no, .sh (.int c), .sh (.int h), .no, .no, .sh (.int k), .no] = _
    iterate 4 (walk_at "den"; try simp only [i2])
  have b2 : (zRB (P2.b1 tB (d2 gtD (dA lenD (aCons (dV 3) aNil)) (dC (.int 0))))) (rh c h k none) (stS ts cs p o) = .ok (decide (0 < ts.length)) (stS ts cs p o) := by
    refine z_RB ?_
    rw [vw_rh]
    iterate 4 (walk_at "den"; try simp only [gt_iff_lt])
    congr 1
    apply decide_eq_decide.mpr
    omega
  have b3 : (zTst tB (z2 ltD (zGet (zV 0) (dC (.str "over"))) (zD (dC (.int 3))))) (rh c h k none) (stS ts cs p o) = .ok (decide (o < 3)) (stS ts cs p o) := z_tst (z_2 (get_o rfl) (z_D rfl) rfl) rfl
  by_cases z1 : k = 8 ∨ k = 9
  · rw [decide_eq_true z1] at b1
    by_cases z2 : 0 < ts.length
    · rw [decide_eq_true z2] at b2
      rw [z_and_t (z_B b1) (z_and_t b2 b3)]
      simp [z1, z2]
    · rw [decide_eq_false z2] at b2
      rw [z_and_t (z_B b1) (z_and_f b2)]
      simp [z2]
  · rw [decide_eq_false z1] at b1
    rw [z_and_f (z_B b1)]
    simp [z1]
end
structure Fns (Fsu Fov Fco Fde Fjo Fle : List D → R D) : Prop where
  su : ∀ (x y : Tm) (s : Bool), x.tx.length ≤ 10000 → y.tx.length ≤ 10000 → Fsu [tri x, tri y, .str (sg s)] = .ok (tri (.bin s x y))
  ov : ∀ (x : Tm) (c : Int), x.Ok → x.tx.length ≤ 10000 → ∃ t : Tm, t.Ok ∧ t.sz = x.sz + 1 ∧ Fov [tri x, .int c] = .ok (tri t)
  co : ∀ (x y : Tm) (s : Bool), x.tx.length ≤ 10000 → y.tx.length ≤ 10000 → Fco [tri x, tri y, .str (cg s)] = .ok (tric (.cmp s x y))
  de : ∀ (x : Cn), x.tx.length ≤ 10000 → Fde [tric x] = .ok (tric (.not x))
  jo : ∀ (x y : Cn) (s : Bool), x.tx.length ≤ 10000 → y.tx.length ≤ 10000 → Fjo [tric x, tric y, .str (cw s)] = .ok (tric (.two s x y))
  le : ∀ h c : Int, ∃ t : Tm, t.Ok ∧ t.sz = 1 ∧ Fle [.int h, .int c] = .ok (tri t)
section
variable {Fsu Fov Fco Fde Fjo Fle : List D → R D}
theorem m_step (F : Fns Fsu Fov Fco Fde Fjo Fle) {ts : List Tm} {cs : List Cn} {p o : Int} (I : Inv ts cs p) (hr : p + 1 + restI ts.length cs.length ≤ 30) (hr2 : p + 1 + restI (ts.length + 1) cs.length ≤ 30) (c h : Int) (b : Nat) :
    ∃ ts' cs' o', Inv ts' cs' (p + 1) ∧ finZ (g_law_step a Fsu Fov Fco Fde Fjo Fle b (startZ 7 [.loc 0, .d (.int c), .d (.int h)]) (stT ts cs p o)) = .ok (.d .non) (stT ts' cs' (p + 1) o') := by
  have hS := I.sum
  have r0 := rest_nn ts.length cs.length
  obtain ⟨k, hk⟩ := Int.eq_ofNat_of_zero_le (show 0 ≤ c % 16 by omega)
  have k16 : k < 16 := by omega
  have lts : ts.length ≤ 30 := by
    have : ∀ l : List Tm, l.length ≤ wt l := fun l => by
      induction l with
      | nil => exact Nat.le_refl _
      | cons t l ih => have := t.pos; show l.length + 1 ≤ t.sz + wt l; omega
    have := this ts
    omega
  have lcs : cs.length ≤ 30 := by
    have : ∀ l : List Cn, l.length ≤ wc l := fun l => by
      induction l with
      | nil => exact Nat.le_refl _
      | cons t l ih => have : 1 ≤ t.sz := by cases t <;> (simp only [Cn.sz]; omega)
                       show l.length + 1 ≤ t.sz + wc l; omega
    have := this cs
    omega
  have parts : ∀ (ρ : ZEv) (ts' cs' : List D) (o' : Int), ρ[0]? = some (some (.loc 0)) → yDput (zV 0) (dC (.str "parts")) (z2 addD (zGet (zV 0) (dC (.str "parts"))) (zD (dC (.int 1)))) ρ (stS ts' cs' p o') = .nx ρ (stS ts' cs' (p + 1) o') := fun ρ ts' cs' o' e => put_p e (z_2 (get_p e) (z_D rfl) rfl)
  -- all but the choice
  have whole : ∀ (g : ZEv → Sto → RTZ) (h1 : ZEv) (ts' : List Tm) (cs' : List Cn) (o' : Int), h1[0]? = some (some (.loc 0)) → g (rh c h k none) (stT ts cs p o) = .nx h1 (stT ts' cs' p o') → finZ ((ySeq (ySet 3 (zGet (zV 0) (dC (.str "terms")))) (ySeq (ySet 4 (zGet (zV 0) (dC (.str "conds")))) (ySeq (ySet 5 (zD (d2 modD (dV 1) (dC (.int 16))))) (ySeq g (yDput (zV 0) (dC (.str "parts")) (z2 addD (zGet (zV 0) (dC (.str "parts"))) (zD (dC (.int 1))))))))) (startZ 7 [.loc 0, .d (.int c), .d (.int h)]) (stT ts cs p o)) = .ok (.d .non) (stT ts' cs' (p + 1) o') := by
    intro g h1 ts' cs' o' e0 e1
    have m : (d2 modD (dV 1) (dC (.int 16))) (pur ([some (.loc 0), some (.d (.int c)), some (.d (.int h)), some (.loc 1), some (.loc 2), none, none] : ZEv)) = .ok (.int k) := by
      show (d2 modD (dV 1) (dC (.int 16))) [.no, .sh (.int c), .sh (.int h), .no, .no, .no, .no] = _
      iterate 3 (walk_at "den"; try simp only [hk])
    rw [y_seq (y_set (get_t rfl) (by simp [startZ])), y_seq (y_set (get_c rfl) (by simp [startZ]))]
    show finZ (ySeq (ySet 5 (zD (d2 modD (dV 1) (dC (.int 16))))) _ ([some (.loc 0), some (.d (.int c)), some (.d (.int h)), some (.loc 1), some (.loc 2), none, none] : ZEv) (stT ts cs p o)) = _
    rw [y_seq (y_set (z_D m) (by simp))]
    show finZ (ySeq g _ (rh c h k none) (stT ts cs p o)) = _
    rw [y_seq e1, parts _ _ _ _ e0]
    rfl
  unfold g_law_step
  by_cases B1 : (k = 6 ∨ k = 7) ∧ 1 < ts.length
  · obtain ⟨l, u, v, e⟩ := two_of B1.2
    have t1 := tst1 (ts := ts.map tri) (cs := cs.map tric) (p := p) (o := o) (c := c) (h := h) k16
    rw [List.length_map, decide_eq_true B1] at t1
    subst e
    rw [wt_app, wt_app, wt_one, wt_one] at hS
    have su := F.su u v (decide (k = 6)) (len_t (I.tO u (by simp)) (by omega)) (len_t (I.tO v (by simp)) (by omega))
    refine ⟨l ++ [.bin (decide (k = 6)) u v], cs, o, ⟨?_, I.cO, ?_, ?_⟩, ?_⟩
    · intro t ht
      simp only [List.mem_append, List.mem_singleton] at ht
      rcases ht with ht | rfl
      · exact I.tO t (by simp [ht])
      · exact ⟨I.tO u (by simp), I.tO v (by simp)⟩
    · rw [wt_app, wt_one]; show ((wt l + (u.sz + v.sz + 1) + wc cs : Nat) : Int) = _; omega
    · simp only [List.length_append, List.length_cons, List.length_nil] at hr hr2 ⊢
      unfold restI at *
      split at hr2 <;> split <;> omega
    · refine whole _ (rh c h k (some (.d (tri v)))) _ _ _ rfl ?_
      rw [y_if_t t1]
      show _ = RTZ.nx _ (stS ((l ++ [Tm.bin (decide (k = 6)) u v]).map tri) (cs.map tric) p o)
      rw [map_tt, map_t]
      rw [y_seq (y_set (pop_t rfl) (by simp [rh]))]
      refine app_t rfl (z_F (ds := [tri u, tri v, .str (sg (decide (k = 6)))]) (z_cons (pop_t rfl) (z_cons (z_D rfl) (z_cons (z_D ?_) z_nil))) su) (by simp at lts ⊢; omega)
      rcases B1.1 with rfl | rfl <;> rfl
  by_cases B2 : (k = 8 ∨ k = 9) ∧ 0 < ts.length ∧ o < 3
  · obtain ⟨l, u, e⟩ := one_of B2.2.1
    have t1 := tst1 (ts := ts.map tri) (cs := cs.map tric) (p := p) (o := o) (c := c) (h := h) k16
    have t2 := tst2 (ts := ts.map tri) (cs := cs.map tric) (p := p) (o := o) (c := c) (h := h) k16
    rw [List.length_map, decide_eq_false B1] at t1
    rw [List.length_map, decide_eq_true B2] at t2
    subst e
    rw [wt_app, wt_one] at hS
    have uO := I.tO u (by simp)
    obtain ⟨t, tO, tz, te⟩ := F.ov u (c / 16) uO (len_t uO (by omega))
    refine ⟨l ++ [t], cs, o + 1, ⟨?_, I.cO, ?_, ?_⟩, ?_⟩
    · intro t' ht
      simp only [List.mem_append, List.mem_singleton] at ht
      rcases ht with ht | rfl
      · exact I.tO t' (by simp [ht])
      · exact tO
    · rw [wt_app, wt_one, tz]; omega
    · simp only [List.length_append, List.length_cons, List.length_nil] at hr hr2 ⊢
      exact hr
    · refine whole _ (rh c h k none) _ _ _ rfl ?_
      rw [y_if_f t1, y_if_t t2]
      show _ = RTZ.nx _ (stS ((l ++ [t]).map tri) (cs.map tric) p (o + 1))
      rw [map_t, map_t]
      have fd : (d2 fdivD (dV 1) (dC (.int 16))) (pur (rh c h k none)) = .ok (.int (c / 16)) := by
        show (d2 fdivD (dV 1) (dC (.int 16))) [.no, .sh (.int c), .sh (.int h), .no, .no, .sh (.int k), .no] = _
        walk_at "den"
      rw [y_seq (app_t rfl (z_F (ds := [tri u, .int (c / 16)]) (z_cons (pop_t rfl) (z_cons (z_D fd) z_nil)) te) (by simp at lts ⊢; omega))]
      exact put_o rfl (z_2 (get_o rfl) (z_D rfl) rfl)
  by_cases B3 : (k = 10 ∨ k = 11) ∧ 1 < ts.length
  · obtain ⟨l, u, v, e⟩ := two_of B3.2
    have t1 := tst1 (ts := ts.map tri) (cs := cs.map tric) (p := p) (o := o) (c := c) (h := h) k16
    have t2 := tst2 (ts := ts.map tri) (cs := cs.map tric) (p := p) (o := o) (c := c) (h := h) k16
    have t3 := tst3 (ts := ts.map tri) (cs := cs.map tric) (p := p) (o := o) (c := c) (h := h) k16
    rw [List.length_map, decide_eq_false B1] at t1
    rw [List.length_map, decide_eq_false B2] at t2
    rw [List.length_map, decide_eq_true B3] at t3
    subst e
    rw [wt_app, wt_app, wt_one, wt_one] at hS
    have co := F.co u v (decide (k = 10)) (len_t (I.tO u (by simp)) (by omega)) (len_t (I.tO v (by simp)) (by omega))
    refine ⟨l, cs ++ [.cmp (decide (k = 10)) u v], o, ⟨fun t ht => I.tO t (by simp [ht]), ?_, ?_, ?_⟩, ?_⟩
    · intro t ht
      simp only [List.mem_append, List.mem_singleton] at ht
      rcases ht with ht | rfl
      · exact I.cO t ht
      · exact ⟨I.tO u (by simp), I.tO v (by simp)⟩
    · rw [wc_app, wc_one]; show ((wt l + (wc cs + (u.sz + v.sz + 1)) : Nat) : Int) = _; omega
    · simp only [List.length_append, List.length_cons, List.length_nil] at hr hr2 ⊢
      unfold restI at *
      split at hr <;> split <;> omega
    · refine whole _ (rh c h k (some (.d (tri v)))) _ _ _ rfl ?_
      rw [y_if_f t1, y_if_f t2, y_if_t t3]
      show _ = RTZ.nx _ (stS (l.map tri) ((cs ++ [Cn.cmp (decide (k = 10)) u v]).map tric) p o)
      rw [map_tt, map_c]
      rw [y_seq (y_set (pop_t rfl) (by simp [rh]))]
      refine app_c rfl (z_F (ds := [tri u, tri v, .str (cg (decide (k = 10)))]) (z_cons (pop_t rfl) (z_cons (z_D rfl) (z_cons (z_D ?_) z_nil))) co) (by simp; omega)
      rcases B3.1 with rfl | rfl <;> rfl
  by_cases B4 : k = 12 ∧ 0 < cs.length
  · obtain ⟨l, u, e⟩ := one_of B4.2
    have t1 := tst1 (ts := ts.map tri) (cs := cs.map tric) (p := p) (o := o) (c := c) (h := h) k16
    have t2 := tst2 (ts := ts.map tri) (cs := cs.map tric) (p := p) (o := o) (c := c) (h := h) k16
    have t3 := tst3 (ts := ts.map tri) (cs := cs.map tric) (p := p) (o := o) (c := c) (h := h) k16
    have t4 := tst4 (ts := ts.map tri) (cs := cs.map tric) (p := p) (o := o) (c := c) (h := h) k16
    rw [List.length_map, decide_eq_false B1] at t1
    rw [List.length_map, decide_eq_false B2] at t2
    rw [List.length_map, decide_eq_false B3] at t3
    rw [List.length_map, decide_eq_true B4] at t4
    subst e
    rw [wc_app, wc_one] at hS
    have de := F.de u (len_c (I.cO u (by simp)) (by omega))
    refine ⟨ts, l ++ [.not u], o, ⟨I.tO, ?_, ?_, ?_⟩, ?_⟩
    · intro t ht
      simp only [List.mem_append, List.mem_singleton] at ht
      rcases ht with ht | rfl
      · exact I.cO t (by simp [ht])
      · exact I.cO u (by simp)
    · rw [wc_app, wc_one]; show ((wt ts + (wc l + (u.sz + 1)) : Nat) : Int) = _; omega
    · simp only [List.length_append, List.length_cons, List.length_nil] at hr hr2 ⊢
      exact hr
    · refine whole _ (rh c h k none) _ _ _ rfl ?_
      rw [y_if_f t1, y_if_f t2, y_if_f t3, y_if_t t4]
      show _ = RTZ.nx _ (stS (ts.map tri) ((l ++ [Cn.not u]).map tric) p o)
      rw [map_c, map_c]
      exact app_c rfl (z_F (ds := [tric u]) (z_cons (pop_c rfl) z_nil) de) (by simp at lcs ⊢; omega)
  by_cases B5 : (k = 13 ∨ k = 14) ∧ 1 < cs.length
  · obtain ⟨l, u, v, e⟩ := two_of B5.2
    have t1 := tst1 (ts := ts.map tri) (cs := cs.map tric) (p := p) (o := o) (c := c) (h := h) k16
    have t2 := tst2 (ts := ts.map tri) (cs := cs.map tric) (p := p) (o := o) (c := c) (h := h) k16
    have t3 := tst3 (ts := ts.map tri) (cs := cs.map tric) (p := p) (o := o) (c := c) (h := h) k16
    have t4 := tst4 (ts := ts.map tri) (cs := cs.map tric) (p := p) (o := o) (c := c) (h := h) k16
    have t5 := tst5 (ts := ts.map tri) (cs := cs.map tric) (p := p) (o := o) (c := c) (h := h) k16
    rw [List.length_map, decide_eq_false B1] at t1
    rw [List.length_map, decide_eq_false B2] at t2
    rw [List.length_map, decide_eq_false B3] at t3
    rw [List.length_map, decide_eq_false B4] at t4
    rw [List.length_map, decide_eq_true B5] at t5
    subst e
    rw [wc_app, wc_app, wc_one, wc_one] at hS
    have jo := F.jo u v (decide (k = 13)) (len_c (I.cO u (by simp)) (by omega)) (len_c (I.cO v (by simp)) (by omega))
    refine ⟨ts, l ++ [.two (decide (k = 13)) u v], o, ⟨I.tO, ?_, ?_, ?_⟩, ?_⟩
    · intro t ht
      simp only [List.mem_append, List.mem_singleton] at ht
      rcases ht with ht | rfl
      · exact I.cO t (by simp [ht])
      · exact ⟨I.cO u (by simp), I.cO v (by simp)⟩
    · rw [wc_app, wc_one]; show ((wt ts + (wc l + (u.sz + v.sz + 1)) : Nat) : Int) = _; omega
    · simp only [List.length_append, List.length_cons, List.length_nil] at hr hr2 ⊢
      unfold restI at *
      split at hr <;> split <;> omega
    · refine whole _ (rh c h k (some (.d (tric v)))) _ _ _ rfl ?_
      rw [y_if_f t1, y_if_f t2, y_if_f t3, y_if_f t4, y_if_t t5]
      show _ = RTZ.nx _ (stS (ts.map tri) ((l ++ [Cn.two (decide (k = 13)) u v]).map tric) p o)
      rw [map_cc, map_c]
      rw [y_seq (y_set (pop_c rfl) (by simp [rh]))]
      refine app_c rfl (z_F (ds := [tric u, tric v, .str (cw (decide (k = 13)))]) (z_cons (pop_c rfl) (z_cons (z_D rfl) (z_cons (z_D ?_) z_nil))) jo) (by simp at lcs ⊢; omega)
      rcases B5.1 with rfl | rfl <;> rfl
  · have t1 := tst1 (ts := ts.map tri) (cs := cs.map tric) (p := p) (o := o) (c := c) (h := h) k16
    have t2 := tst2 (ts := ts.map tri) (cs := cs.map tric) (p := p) (o := o) (c := c) (h := h) k16
    have t3 := tst3 (ts := ts.map tri) (cs := cs.map tric) (p := p) (o := o) (c := c) (h := h) k16
    have t4 := tst4 (ts := ts.map tri) (cs := cs.map tric) (p := p) (o := o) (c := c) (h := h) k16
    have t5 := tst5 (ts := ts.map tri) (cs := cs.map tric) (p := p) (o := o) (c := c) (h := h) k16
    rw [List.length_map, decide_eq_false B1] at t1
    rw [List.length_map, decide_eq_false B2] at t2
    rw [List.length_map, decide_eq_false B3] at t3
    rw [List.length_map, decide_eq_false B4] at t4
    rw [List.length_map, decide_eq_false B5] at t5
    obtain ⟨t, tO, tz, te⟩ := F.le h (c / 16)
    refine ⟨ts ++ [t], cs, o, ⟨?_, I.cO, ?_, ?_⟩, ?_⟩
    · intro t' ht
      simp only [List.mem_append, List.mem_singleton] at ht
      rcases ht with ht | rfl
      · exact I.tO t' ht
      · exact tO
    · rw [wt_app, wt_one, tz]; omega
    · simp only [List.length_append, List.length_cons, List.length_nil]
      exact hr2
    · refine whole _ (rh c h k none) _ _ _ rfl ?_
      rw [y_if_f t1, y_if_f t2, y_if_f t3, y_if_f t4, y_if_f t5]
      show _ = RTZ.nx _ (stS ((ts ++ [t]).map tri) (cs.map tric) p o)
      rw [map_t]
      have fd : (dA Fle (aCons (dV 2) (aCons (d2 fdivD (dV 1) (dC (.int 16))) aNil))) (pur (rh c h k none)) = .ok (tri t) := by
        show (dA Fle (aCons (dV 2) (aCons (d2 fdivD (dV 1) (dC (.int 16))) aNil))) [.no, .sh (.int c), .sh (.int h), .no, .no, .sh (.int k), .no] = _
        iterate 3 (walk_at "den"; try simp only [te])
      exact app_t rfl (z_D fd) (by simp; omega)
noncomputable def re (w : Str) (s4 s5 : Option Z) : ZEv := [some (.loc 0), some (.d (.str w)), some (.loc 1), some (.loc 2), s4, s5]
theorem vw_re {ts cs : List D} {p o : Int} {w : Str} {s4 s5 : Option Z} : ∃ u v, vw (stS ts cs p o) (re w s4 s5) = [.no, .sh (.str w), .sh (.lst ts), .sh (.lst cs), u, v] := by
  refine ⟨vwS (stS ts cs p o) s4, vwS (stS ts cs p o) s5, ?_⟩
  unfold vw re
  simp only [List.map_cons, List.map_nil]
  have e1 : vwS (stS ts cs p o) (some (.loc 1)) = .sh (.lst ts) := by
    show (match asDs (ts.map Z.d) with | some ds => Sl.sh (.lst ds) | none => .no) = _
    rw [asDs_of]
  have e2 : vwS (stS ts cs p o) (some (.loc 2)) = .sh (.lst cs) := by
    show (match asDs (cs.map Z.d) with | some ds => Sl.sh (.lst ds) | none => .no) = _
    rw [asDs_of]
  rw [e1, e2]
  rfl
structure InvE (ts : List Tm) (cs : List Cn) (n : Nat) : Prop where
  tO : ∀ t ∈ ts, t.Ok
  cO : ∀ c ∈ cs, c.Ok
  sum : wt ts + wc cs + ts.length + cs.length = n
theorem loop1 (hc : ∀ (x y : Tm) (s : Bool), x.tx.length ≤ 10000 → y.tx.length ≤ 10000 → Fco [tri x, tri y, .str (cg s)] = .ok (tric (.cmp s x y))) {w : Str} {p o : Int} {n : Nat} (hn : n ≤ 150) : ∀ (f : Nat) (m : Nat) (ts : List Tm) (cs : List Cn) (s4 s5 : Option Z), ts.length = 2 * m → m < f → InvE ts cs n →
    ∃ cs' s5', InvE [] cs' n ∧ cs'.length = cs.length + m ∧ whileZ (zRB (P2.b1 tB (d2 gtD (dA lenD (aCons (dV 2) aNil)) (dC (.int 0))))) (b1_law_ended a Fco Fjo) f (re w s4 s5) (stT ts cs p o) = .nx (re w s4 s5') (stT [] cs' p o)
  | 0, m, ts, cs, s4, s5, h1, h2, I => by omega
  | f + 1, m, ts, cs, s4, s5, h1, h2, I => by
    have tst : (zRB (P2.b1 tB (d2 gtD (dA lenD (aCons (dV 2) aNil)) (dC (.int 0))))) (re w s4 s5) (stT ts cs p o) = .ok (decide (0 < ts.length)) (stT ts cs p o) := by
      refine z_RB ?_
      obtain ⟨u, v, e⟩ := vw_re (ts := ts.map tri) (cs := cs.map tric) (p := p) (o := o) (w := w) (s4 := s4) (s5 := s5)
      rw [e]
      iterate 4 (walk_at "den"; try simp only [gt_iff_lt])
      rw [List.length_map]
      congr 1
      apply decide_eq_decide.mpr
      omega
    show ∃ cs' s5', _ ∧ _ ∧ toZ ((zRB (P2.b1 tB (d2 gtD (dA lenD (aCons (dV 2) aNil)) (dC (.int 0))))) (re w s4 s5) (stT ts cs p o)) _ = _
    rw [tst]
    by_cases z : 0 < ts.length
    · obtain ⟨l, u, v, e⟩ := two_of (show 1 < ts.length by omega)
      subst e
      have hS := I.sum
      rw [wt_app, wt_app, wt_one, wt_one] at hS
      have uO := I.tO u (by simp)
      have vO := I.tO v (by simp)
      have co := hc u v true (len_t uO (by omega)) (len_t vO (by omega))
      simp only [List.length_append, List.length_cons, List.length_nil] at h1 hS
      have lw : ∀ l : List Cn, l.length ≤ wc l := fun l => by
        induction l with
        | nil => exact Nat.le_refl _
        | cons t l ih => have : 1 ≤ t.sz := by cases t <;> (simp only [Cn.sz]; omega)
                         show l.length + 1 ≤ t.sz + wc l; omega
      have lw := lw cs
      obtain ⟨cs', s5', I', l', e'⟩ := loop1 hc hn f (m - 1) l (cs ++ [.cmp true u v]) s4 (some (.d (tri v))) (by omega) (by omega) ⟨fun t ht => I.tO t (by simp [ht]), fun t ht => by
        simp only [List.mem_append, List.mem_singleton] at ht
        rcases ht with ht | rfl
        · exact I.cO t ht
        · exact ⟨uO, vO⟩, by
        rw [wc_app, wc_one, List.length_append, List.length_singleton]
        show wt l + (wc cs + (u.sz + v.sz + 1)) + l.length + (cs.length + 1) = n
        omega⟩
      refine ⟨cs', s5', I', by rw [l', List.length_append, List.length_singleton]; omega, ?_⟩
      have bd : b1_law_ended a Fco Fjo (re w s4 s5) (stT (l ++ [u] ++ [v]) cs p o) = .nx (re w s4 (some (.d (tri v)))) (stT l (cs ++ [.cmp true u v]) p o) := by
        unfold b1_law_ended
        show _ = RTZ.nx _ (stS (l.map tri) ((cs ++ [Cn.cmp true u v]).map tric) p o)
        show ySeq _ _ _ (stS ((l ++ [u] ++ [v]).map tri) (cs.map tric) p o) = _
        rw [map_tt, map_c]
        rw [y_seq (y_set (pop_t rfl) (by simp [re]))]
        exact app_c rfl (z_F (ds := [tri u, tri v, .str (cg true)]) (z_cons (pop_t rfl) (z_cons (z_D rfl) (z_cons (z_D rfl) z_nil))) co) (by simp; omega)
      show (if decide (0 < (l ++ [u] ++ [v]).length) = true then turnZ (b1_law_ended a Fco Fjo (re w s4 s5) (stT (l ++ [u] ++ [v]) cs p o)) _ else _) = _
      rw [if_pos (decide_eq_true z), bd]
      exact e'
    · have e : ts = [] := List.eq_nil_of_length_eq_zero (by omega)
      subst e
      exact ⟨cs, s5, I, by simp at h1; omega, rfl⟩
theorem loop2 (hj : ∀ (x y : Cn) (s : Bool), x.tx.length ≤ 10000 → y.tx.length ≤ 10000 → Fjo [tric x, tric y, .str (cw s)] = .ok (tric (.two s x y))) {w : Bool} {p o : Int} {n : Nat} (hn : n ≤ 150) : ∀ (f : Nat) (cs : List Cn) (s4 s5 : Option Z), 0 < cs.length → cs.length < f → InvE [] cs n →
    ∃ c s5', c.Ok ∧ c.sz + 1 = n ∧ whileZ (zRB (P2.b1 tB (d2 gtD (dA lenD (aCons (dV 3) aNil)) (dC (.int 1))))) (b2_law_ended a Fco Fjo) f (re (cw w) s4 s5) (stT [] cs p o) = .nx (re (cw w) s4 s5') (stT [] [c] p o)
  | 0, cs, s4, s5, h1, h2, I => by omega
  | f + 1, cs, s4, s5, h1, h2, I => by
    have tst : (zRB (P2.b1 tB (d2 gtD (dA lenD (aCons (dV 3) aNil)) (dC (.int 1))))) (re (cw w) s4 s5) (stT [] cs p o) = .ok (decide (1 < cs.length)) (stT [] cs p o) := by
      refine z_RB ?_
      obtain ⟨u, v, e⟩ := vw_re (ts := [].map tri) (cs := cs.map tric) (p := p) (o := o) (w := cw w) (s4 := s4) (s5 := s5)
      rw [e]
      iterate 4 (walk_at "den"; try simp only [gt_iff_lt])
      rw [List.length_map]
      congr 1
      apply decide_eq_decide.mpr
      omega
    show ∃ c s5', _ ∧ _ ∧ toZ ((zRB (P2.b1 tB (d2 gtD (dA lenD (aCons (dV 3) aNil)) (dC (.int 1))))) (re (cw w) s4 s5) (stT [] cs p o)) _ = _
    rw [tst]
    by_cases z : 1 < cs.length
    · obtain ⟨l, u, v, e⟩ := two_of z
      subst e
      have hS := I.sum
      rw [wc_app, wc_app, wc_one, wc_one] at hS
      have uO := I.cO u (by simp)
      have vO := I.cO v (by simp)
      have jo := hj u v w (len_c uO (by omega)) (len_c vO (by omega))
      simp only [List.length_append, List.length_cons, List.length_nil, show wt [] = 0 from rfl] at h2 hS
      obtain ⟨c, s5', cO, cz, e'⟩ := loop2 hj hn f (l ++ [.two w u v]) s4 (some (.d (tric v))) (by simp) (by simp; omega) ⟨nofun, fun t ht => by
        simp only [List.mem_append, List.mem_singleton] at ht
        rcases ht with ht | rfl
        · exact I.cO t (by simp [ht])
        · exact ⟨uO, vO⟩, by
        rw [wc_app, wc_one, List.length_append, List.length_singleton]
        show 0 + (wc l + (u.sz + v.sz + 1)) + 0 + (l.length + 1) = n
        omega⟩
      refine ⟨c, s5', cO, cz, ?_⟩
      have bd : b2_law_ended a Fco Fjo (re (cw w) s4 s5) (stT [] (l ++ [u] ++ [v]) p o) = .nx (re (cw w) s4 (some (.d (tric v)))) (stT [] (l ++ [.two w u v]) p o) := by
        unfold b2_law_ended
        show _ = RTZ.nx _ (stS ([].map tri) ((l ++ [Cn.two w u v]).map tric) p o)
        show ySeq _ _ _ (stS ([].map tri) ((l ++ [u] ++ [v]).map tric) p o) = _
        rw [map_cc, map_c]
        rw [y_seq (y_set (pop_c rfl) (by simp [re]))]
        exact app_c rfl (z_F (ds := [tric u, tric v, .str (cw w)]) (z_cons (pop_c rfl) (z_cons (z_D rfl) (z_cons (z_D rfl) z_nil))) jo) (by simp; omega)
      show (if decide (1 < (l ++ [u] ++ [v]).length) = true then turnZ (b2_law_ended a Fco Fjo (re (cw w) s4 s5) (stT [] (l ++ [u] ++ [v]) p o)) _ else _) = _
      rw [if_pos (decide_eq_true z), bd]
      exact e'
    · obtain ⟨c, e⟩ := List.length_eq_one_iff.mp (show cs.length = 1 by omega)
      subst e
      have hS := I.sum
      rw [wc_one] at hS
      exact ⟨c, s5, I.cO c (by simp), by simp [wt] at hS; omega, rfl⟩
theorem Tm.noL (t : Tm) : P2.noL t.d = true := by
  induction t with
  | bin s x y h1 h2 => simp [Tm.d, P2.noL, noLs, h1, h2]
  | times p q x h => simp [Tm.d, P2.noL, noLs, h]
  | abs x h => simp [Tm.d, P2.noL, noLs, h]
  | _ => simp [Tm.d, P2.noL, noLs]
theorem Cn.noL (t : Cn) : P2.noL t.d = true := by
  induction t with
  | cmp s x y => simp [Cn.d, P2.noL, noLs, Tm.noL]
  | not x h => simp [Cn.d, P2.noL, noLs, h]
  | two s x y h1 h2 => simp [Cn.d, P2.noL, noLs, h1, h2]
theorem tric_noL (c : Cn) : P2.noL (tric c) = true := by simp [tric, P2.noL, noLs, Cn.noL]
theorem m_ended (F : Fns Fsu Fov Fco Fde Fjo Fle) {ts : List Tm} {cs : List Cn} {p o : Int} (I : Inv ts cs p) (w : Bool) (b : Nat) :
    ∃ c S', c.Ok ∧ c.sz ≤ 30 ∧ finZ (g_law_ended a Fco Fjo b (startZ 6 [.loc 0, .d (.str (cw w))]) (stT ts cs p o)) = .ok (.d (tric c)) S' := by
  have hS := I.sum
  have hB := I.bd
  have r0 := rest_nn ts.length cs.length
  have lw : ∀ l : List Cn, l.length ≤ wc l := fun l => by
    induction l with
    | nil => exact Nat.le_refl _
    | cons t l ih => have : 1 ≤ t.sz := by cases t <;> (simp only [Cn.sz]; omega)
                     show l.length + 1 ≤ t.sz + wc l; omega
  have lv : ∀ l : List Tm, l.length ≤ wt l := fun l => by
    induction l with
    | nil => exact Nat.le_refl _
    | cons t l ih => have := t.pos; show l.length + 1 ≤ t.sz + wt l; omega
  have l1 := lw cs
  have l2 := lv ts
  unfold g_law_ended
  rw [y_seq (y_set (get_t rfl) (by simp [startZ])), y_seq (y_set (get_c rfl) (by simp [startZ])), y_seq (y_set (z_D rfl) (by simp [startZ]))]
  show ∃ c S', _ ∧ _ ∧ finZ (ySeq _ _ (re (cw w) (some (.d (tri .here))) none) (stT ts cs p o)) = _
  have app : ∀ (us : List Tm), us.length ≤ 100 → yApp 2 (zD (dV 4)) (re (cw w) (some (.d (tri .here))) none) (stT us cs p o) = .nx (re (cw w) (some (.d (tri .here))) none) (stT (us ++ [.here]) cs p o) := fun us hu => by
    show _ = RTZ.nx _ (stS ((us ++ [Tm.here]).map tri) (cs.map tric) p o)
    rw [map_t]
    exact app_t rfl (z_D rfl) (by simp; omega)
  have if1 : yIf (zRB (P2.b1 tB (d2 eqSD (d2 addD (dA lenD (aCons (dV 2) aNil)) (dA lenD (aCons (dV 3) aNil))) (dC (.int 0))))) (yApp 2 (zD (dV 4))) yNil (re (cw w) (some (.d (tri .here))) none) (stT ts cs p o) = .nx (re (cw w) (some (.d (tri .here))) none) (stT (if ts.length + cs.length = 0 then ts ++ [.here] else ts) cs p o) := by
    have tst : (zRB (P2.b1 tB (d2 eqSD (d2 addD (dA lenD (aCons (dV 2) aNil)) (dA lenD (aCons (dV 3) aNil))) (dC (.int 0))))) (re (cw w) (some (.d (tri .here))) none) (stT ts cs p o) = .ok (decide (ts.length + cs.length = 0)) (stT ts cs p o) := by
      refine z_RB ?_
      obtain ⟨u, v, e⟩ := vw_re (ts := ts.map tri) (cs := cs.map tric) (p := p) (o := o) (w := cw w) (s4 := some (.d (tri .here))) (s5 := none)
      rw [e]
      iterate 4 (walk_at "den")
      rw [List.length_map, List.length_map]
      congr 1
      apply decide_eq_decide.mpr
      omega
    by_cases z : ts.length + cs.length = 0
    · rw [decide_eq_true z] at tst
      rw [y_if_t tst, if_pos z]
      exact app ts (by omega)
    · rw [decide_eq_false z] at tst
      rw [y_if_f tst, if_neg z]
      rfl
  rw [y_seq if1]
  have if2 : ∀ us : List Tm, us.length ≤ 100 → yIf (zRB (P2.b1 tB (d2 eqSD (d2 modD (dA lenD (aCons (dV 2) aNil)) (dC (.int 2))) (dC (.int 1))))) (yApp 2 (zD (dV 4))) yNil (re (cw w) (some (.d (tri .here))) none) (stT us cs p o) = .nx (re (cw w) (some (.d (tri .here))) none) (stT (if us.length % 2 = 1 then us ++ [.here] else us) cs p o) := fun us hu => by
    have tst : (zRB (P2.b1 tB (d2 eqSD (d2 modD (dA lenD (aCons (dV 2) aNil)) (dC (.int 2))) (dC (.int 1))))) (re (cw w) (some (.d (tri .here))) none) (stT us cs p o) = .ok (decide (us.length % 2 = 1)) (stT us cs p o) := by
      refine z_RB ?_
      obtain ⟨u, v, e⟩ := vw_re (ts := us.map tri) (cs := cs.map tric) (p := p) (o := o) (w := cw w) (s4 := some (.d (tri .here))) (s5 := none)
      rw [e]
      iterate 4 (walk_at "den")
      rw [List.length_map]
      congr 1
      apply decide_eq_decide.mpr
      omega
    by_cases z : us.length % 2 = 1
    · rw [decide_eq_true z] at tst
      rw [y_if_t tst, if_pos z]
      exact app us (by omega)
    · rw [decide_eq_false z] at tst
      rw [y_if_f tst, if_neg z]
      rfl
  have fin : ∀ (us : List Tm) (n m : Nat), us.length = 2 * m → 0 < us.length + cs.length → InvE us cs n → n ≤ 31 + 30 → ∃ c S', c.Ok ∧ c.sz + 1 = n ∧ finZ ((ySeq (whileZ (zRB (P2.b1 tB (d2 gtD (dA lenD (aCons (dV 2) aNil)) (dC (.int 0))))) (b1_law_ended a Fco Fjo) 100) (ySeq (whileZ (zRB (P2.b1 tB (d2 gtD (dA lenD (aCons (dV 3) aNil)) (dC (.int 1))))) (b2_law_ended a Fco Fjo) 100) (yRet (zR (d2 ixD (dV 3) (dC (.int 0))))))) (re (cw w) (some (.d (tri .here))) none) (stT us cs p o)) = .ok (.d (tric c)) S' := by
    intro us n m h1 h2 J hn
    obtain ⟨cs', s5', I1, k1, e1⟩ := loop1 (a := a) (Fjo := Fjo) F.co (w := cw w) (p := p) (o := o) (n := n) (by omega) 100 m us cs (some (.d (tri .here))) none h1 (by have := J.sum; omega) J
    obtain ⟨c, s6, cO, cz, e2⟩ := loop2 (a := a) (Fco := Fco) F.jo (w := w) (p := p) (o := o) (n := n) (by omega) 100 cs' (some (.d (tri .here))) s5' (by omega) (by have := I1.sum; omega) I1
    refine ⟨c, stT [] [c] p o, cO, cz, ?_⟩
    rw [y_seq e1, y_seq e2]
    unfold yRet zR
    obtain ⟨u, v, e⟩ := vw_re (ts := [].map tri) (cs := [c].map tric) (p := p) (o := o) (w := cw w) (s4 := some (.d (tri .here))) (s5 := s6)
    rw [e]
    have ix : (d2 ixD (dV 3) (dC (.int 0))) [.no, .sh (.str (cw w)), .sh (.lst ([].map tri)), .sh (.lst ([c].map tric)), u, v] = .ok (tric c) := rfl
    rw [ix]
    dsimp only
    rw [if_pos (tric_noL c)]
    rfl
  by_cases z : ts.length + cs.length = 0
  · have e1 : ts = [] := List.eq_nil_of_length_eq_zero (by omega)
    have e2 : cs = [] := List.eq_nil_of_length_eq_zero (by omega)
    subst e1 e2
    rw [y_seq (if2 _ (by simp))]
    obtain ⟨c, S', cO, cz, e⟩ := fin [.here, .here] 4 1 rfl (by simp) ⟨by intro t ht; simp at ht; subst ht; trivial, nofun, rfl⟩ (by omega)
    exact ⟨c, S', cO, by omega, e⟩
  · rw [if_neg z, y_seq (if2 ts (by omega))]
    by_cases y : ts.length % 2 = 1
    · rw [if_pos y]
      obtain ⟨c, S', cO, cz, e⟩ := fin (ts ++ [.here]) (wt ts + wc cs + ts.length + cs.length + 2) ((ts.length + 1) / 2) (by simp; omega) (by simp; omega) ⟨fun t ht => by
          simp only [List.mem_append, List.mem_singleton] at ht
          rcases ht with ht | rfl
          · exact I.tO t ht
          · trivial, I.cO, by rw [wt_app, wt_one]; simp only [List.length_append, List.length_singleton, Tm.sz]; omega⟩ (by unfold restI at hB r0; split at hB <;> omega)
      refine ⟨c, S', cO, ?_, e⟩
      unfold restI at hB
      split at hB <;> omega
    · rw [if_neg y]
      obtain ⟨c, S', cO, cz, e⟩ := fin ts (wt ts + wc cs + ts.length + cs.length) (ts.length / 2) (by omega) (by omega) ⟨I.tO, I.cO, rfl⟩ (by unfold restI at hB r0; split at hB <;> omega)
      refine ⟨c, S', cO, ?_, e⟩
      unfold restI at hB
      split at hB <;> omega
theorem turns {Fr : List D → R D} {Zs Ze : List Z → Sto → RX Z} (hr : ∀ t c : Int, Fr [.int t, .int c] = .ok (.int (restI t c)))
    (hs : ∀ (ts : List Tm) (cs : List Cn) (p o c h : Int), Inv ts cs p → p + 1 + restI ts.length cs.length ≤ 30 → p + 1 + restI (ts.length + 1) cs.length ≤ 30 → ∃ ts' cs' o', Inv ts' cs' (p + 1) ∧ Zs [.loc 0, .d (.int c), .d (.int h)] (stT ts cs p o) = .ok (.d .non) (stT ts' cs' (p + 1) o')) {h : Int} {s1 s2 : Option Z} :
    ∀ (ns : List Int) (ts : List Tm) (cs : List Cn) (p o : Int) (s4 s5 s6 : Option Z), Inv ts cs p → ∃ ts' cs' p' o' t4 t5 t6, Inv ts' cs' p' ∧ forZ (hV 4) (b1_law_condition a Fr Zs Ze) (ns.map D.int) [some (.d (.int h)), s1, s2, some (.loc 0), s4, s5, s6] (stT ts cs p o) = .nx [some (.d (.int h)), s1, s2, some (.loc 0), t4, t5, t6] (stT ts' cs' p' o')
  | [], ts, cs, p, o, s4, s5, s6, I => ⟨ts, cs, p, o, s4, s5, s6, I, rfl⟩
  | n :: ns, ts, cs, p, o, s4, s5, s6, I => by
    have lc : ∀ (ρ : ZEv), ρ[3]? = some (some (.loc 0)) → zLen (zGet (zV 3) (dC (.str "conds"))) ρ (stT ts cs p o) = .ok (.d (.int cs.length)) (stT ts cs p o) := fun ρ e => by
      unfold zLen
      rw [get_c e]
      show RX.ok (Z.d (.int (((cs.map tric).map Z.d).length : Nat))) _ = _
      rw [List.length_map, List.length_map]
    have lt : ∀ (ρ : ZEv), ρ[3]? = some (some (.loc 0)) → zLen (zGet (zV 3) (dC (.str "terms"))) ρ (stT ts cs p o) = .ok (.d (.int ts.length)) (stT ts cs p o) := fun ρ e => by
      unfold zLen
      rw [get_t e]
      show RX.ok (Z.d (.int (((ts.map tri).map Z.d).length : Nat))) _ = _
      rw [List.length_map, List.length_map]
    have mx : ∀ x y : Int, max2D [.int x, .int y] = .ok (.int (max x y)) := fun x y => by
      show R.ok (D.int (if y > x then y else x)) = _
      congr 2
      split <;> omega
    have h1 : ∀ z : Int, (b1_law_condition a Fr Zs Ze) [some (.d (.int h)), s1, s2, some (.loc 0), some (.d (.int n)), s5, s6] (stT ts cs p o) = ySeq (yIf (zTst tB (z2 gtD (z2 addD (z2 addD (zGet (zV 3) (dC (.str "parts"))) (zD (dC (.int 1)))) (zD (dV 6))) (zD (dC (.int 30))))) RTZ.bk yNil) (yExpr (zZ Zs (zCons (zV 3) (zCons (zD (dV 4)) (zCons (zD (dV 0)) zNil))))) [some (.d (.int h)), s1, s2, some (.loc 0), some (.d (.int n)), some (.d (.int cs.length)), some (.d (.int (max (restI ts.length cs.length) (restI (ts.length + 1) cs.length))))] (stT ts cs p o) := fun z => by
      unfold b1_law_condition
      rw [y_seq (y_set (lc _ rfl) (by simp))]
      exact y_seq (y_set (z_F (ds := [.int (restI ts.length cs.length), .int (restI (ts.length + 1) cs.length)]) (z_cons (z_F (ds := [.int ts.length, .int cs.length]) (z_cons (lt _ rfl) (z_cons (z_D rfl) z_nil)) (hr _ _)) (z_cons (z_F (ds := [.int (ts.length + 1), .int cs.length]) (z_cons (z_2 (lt _ rfl) (z_D rfl) rfl) (z_cons (z_D rfl) z_nil)) (hr _ _)) z_nil)) (mx _ _)) (by simp))
    have tst : (zTst tB (z2 gtD (z2 addD (z2 addD (zGet (zV 3) (dC (.str "parts"))) (zD (dC (.int 1)))) (zD (dV 6))) (zD (dC (.int 30))))) [some (.d (.int h)), s1, s2, some (.loc 0), some (.d (.int n)), some (.d (.int cs.length)), some (.d (.int (max (restI ts.length cs.length) (restI (ts.length + 1) cs.length))))] (stT ts cs p o) = .ok (decide (p + 1 + max (restI ts.length cs.length) (restI (ts.length + 1) cs.length) > 30)) (stT ts cs p o) := z_tst (z_2 (z_2 (z_2 (get_p rfl) (z_D rfl) rfl) (z_D rfl) rfl) (z_D rfl) rfl) rfl
    by_cases z : p + 1 + max (restI ts.length cs.length) (restI (ts.length + 1) cs.length) > 30
    · rw [decide_eq_true z] at tst
      refine ⟨ts, cs, p, o, some (.d (.int n)), some (.d (.int cs.length)), some (.d (.int (max (restI ts.length cs.length) (restI (ts.length + 1) cs.length)))), I, ?_⟩
      show turnZ ((b1_law_condition a Fr Zs Ze) [some (.d (.int h)), s1, s2, some (.loc 0), some (.d (.int n)), s5, s6] (stT ts cs p o)) _ = _
      rw [h1 0]
      unfold ySeq
      rw [y_if_t tst]
      rfl
    · rw [decide_eq_false z] at tst
      obtain ⟨ts1, cs1, o1, I1, e1⟩ := hs ts cs p o n h I (by omega) (by omega)
      obtain ⟨ts', cs', p', o', t4, t5, t6, I', e'⟩ := turns hr hs ns ts1 cs1 (p + 1) o1 (some (.d (.int n))) (some (.d (.int cs.length))) (some (.d (.int (max (restI ts.length cs.length) (restI (ts.length + 1) cs.length))))) I1
      refine ⟨ts', cs', p', o', t4, t5, t6, I', ?_⟩
      show turnZ ((b1_law_condition a Fr Zs Ze) [some (.d (.int h)), s1, s2, some (.loc 0), some (.d (.int n)), s5, s6] (stT ts cs p o)) (forZ (hV 4) (b1_law_condition a Fr Zs Ze) (ns.map D.int)) = _
      rw [h1 0]
      unfold ySeq
      rw [y_if_f tst]
      show turnZ (yExpr _ _ (stT ts cs p o)) _ = _
      have call : (zZ Zs (zCons (zV 3) (zCons (zD (dV 4)) (zCons (zD (dV 0)) zNil)))) [some (.d (.int h)), s1, s2, some (.loc 0), some (.d (.int n)), some (.d (.int cs.length)), some (.d (.int (max (restI ts.length cs.length) (restI (ts.length + 1) cs.length))))] (stT ts cs p o) = .ok (.d .non) (stT ts1 cs1 (p + 1) o1) := by
        have ar : (zCons (zV 3) (zCons (zD (dV 4)) (zCons (zD (dV 0)) zNil))) [some (.d (.int h)), s1, s2, some (.loc 0), some (.d (.int n)), some (.d (.int cs.length)), some (.d (.int (max (restI ts.length cs.length) (restI (ts.length + 1) cs.length))))] (stT ts cs p o) = .ok [.loc 0, .d (.int n), .d (.int h)] (stT ts cs p o) := z_cons rfl (z_cons (z_D rfl) (z_cons (z_D rfl) z_nil))
        unfold zZ
        rw [ar]
        exact e1
      unfold yExpr
      rw [call]
      exact e'
theorem m_lcondition {Fr : List D → R D} {Zs Ze : List Z → Sto → RX Z} (hr : ∀ t c : Int, Fr [.int t, .int c] = .ok (.int (restI t c)))
    (hs : ∀ (ts : List Tm) (cs : List Cn) (p o c h : Int), Inv ts cs p → p + 1 + restI ts.length cs.length ≤ 30 → p + 1 + restI (ts.length + 1) cs.length ≤ 30 → ∃ ts' cs' o', Inv ts' cs' (p + 1) ∧ Zs [.loc 0, .d (.int c), .d (.int h)] (stT ts cs p o) = .ok (.d .non) (stT ts' cs' (p + 1) o'))
    (he : ∀ (ts : List Tm) (cs : List Cn) (p o : Int) (w : Bool), Inv ts cs p → ∃ c S', c.Ok ∧ c.sz ≤ 30 ∧ Ze [.loc 0, .d (.str (cw w))] (stT ts cs p o) = .ok (.d (tric c)) S') (h : Int) (ns : List Int) (w : Bool) (b : Nat) :
    ∃ c : Cn, c.Ok ∧ c.sz ≤ 30 ∧ clo (finZ (g_law_condition a Fr Zs Ze b (startZ 7 [.d (.int h), .d (.lst (ns.map .int)), .d (.str (cw w))]) [])) = .ok (tric c) := by
  have I0 : Inv [] [] 0 := ⟨nofun, nofun, rfl, by decide⟩
  obtain ⟨ts', cs', p', o', t4, t5, t6, I', e'⟩ := turns (a := a) (Ze := Ze) hr hs (h := h) (s1 := some (.d (.lst (ns.map .int)))) (s2 := some (.d (.str (cw w)))) ns [] [] 0 0 none none none I0
  obtain ⟨c, S', cO, cz, e2⟩ := he ts' cs' p' o' w I'
  refine ⟨c, cO, cz, ?_⟩
  unfold g_law_condition
  have ds : zDisp [.inr "terms", .inr "conds", .inr "parts", .inr "over"] (zCons (zNew (fun ρ => (aNil ρ).bind fitL)) (zCons (zNew (fun ρ => (aNil ρ).bind fitL)) (zCons (zD (dC (.int 0))) (zCons (zD (dC (.int 0))) zNil)))) (startZ 7 [.d (.int h), .d (.lst (ns.map .int)), .d (.str (cw w))]) [] = .ok (.loc 0) (stT [] [] 0 0) := rfl
  rw [y_seq (y_set ds (by simp [startZ]))]
  show clo (finZ (ySeq (yFor (fun ρ => ((dV 1) ρ).bind asI) (hV 4) (b1_law_condition a Fr Zs Ze)) _ [some (.d (.int h)), some (.d (.lst (ns.map .int))), some (.d (.str (cw w))), some (.loc 0), none, none, none] (stT [] [] 0 0))) = _
  have fo : yFor (fun ρ => ((dV 1) ρ).bind asI) (hV 4) (b1_law_condition a Fr Zs Ze) [some (.d (.int h)), some (.d (.lst (ns.map .int))), some (.d (.str (cw w))), some (.loc 0), none, none, none] (stT [] [] 0 0) = .nx [some (.d (.int h)), some (.d (.lst (ns.map .int))), some (.d (.str (cw w))), some (.loc 0), t4, t5, t6] (stT ts' cs' p' o') := e'
  rw [y_seq fo]
  have ar : (zCons (zV 3) (zCons (zD (dV 2)) zNil)) [some (.d (.int h)), some (.d (.lst (ns.map .int))), some (.d (.str (cw w))), some (.loc 0), t4, t5, t6] (stT ts' cs' p' o') = .ok [.loc 0, .d (.str (cw w))] (stT ts' cs' p' o') := z_cons rfl (z_cons (z_D rfl) z_nil)
  unfold yRet zZ
  rw [ar]
  show clo (finZ (toZ (Ze [.loc 0, .d (.str (cw w))] (stT ts' cs' p' o')) RTZ.rt)) = _
  rw [e2]
  rfl
end
end WC
namespace W32
open PySem L2 P2 WP WC
noncomputable def at_ (i : Nat) : Stmt := PySem.Challenge.pw_weather_k32_conditions_written.main.body.getD i (.Pass ⟨0, 0, 0, 0⟩)
noncomputable abbrev s_show_fraction : Stmt := at_ 1
noncomputable abbrev s_show_condition : Stmt := at_ 3
noncomputable abbrev s_show_bound : Stmt := at_ 4
noncomputable abbrev s_show_term : Stmt := at_ 5
noncomputable abbrev s_show_tight : Stmt := at_ 6
noncomputable abbrev s_joined : Stmt := at_ 7
noncomputable abbrev s_law_cell_at : Stmt := at_ 9
noncomputable abbrev s_law_lowest : Stmt := at_ 10
noncomputable abbrev s_law_fraction : Stmt := at_ 11
noncomputable abbrev s_law_mast : Stmt := at_ 12
noncomputable abbrev s_law_show : Stmt := at_ 13
noncomputable abbrev s_law_leaf : Stmt := at_ 14
noncomputable abbrev s_law_put : Stmt := at_ 15
noncomputable abbrev s_law_sum : Stmt := at_ 16
noncomputable abbrev s_law_over_term : Stmt := at_ 17
noncomputable abbrev s_law_compared : Stmt := at_ 18
noncomputable abbrev s_law_joined : Stmt := at_ 19
noncomputable abbrev s_law_denied : Stmt := at_ 20
noncomputable abbrev s_law_rest : Stmt := at_ 21
noncomputable abbrev s_law_step : Stmt := at_ 22
noncomputable abbrev s_law_ended : Stmt := at_ 23
noncomputable abbrev s_law_condition : Stmt := at_ 24
noncomputable abbrev s_law : Stmt := at_ 25
structure Tx (K : PySem.W.Frag) (mg : Str → Option Value) (a : Ad) : Prop where
  b_int : mg "int" = none
  b_isinstance : mg "isinstance" = none
  b_len : mg "len" = none
  b_max : mg "max" = none
  b_str : mg "str" = none
  isok : IsOk K a.isx
section
variable {P : Program} {w : World} {K : PySem.W.Frag} {mg : Str → Option Value} {base : Heap} {f : Addr} {fd : FuncData}
theorem sc_show_fraction : FnScope ["one", "top", "bottom"] ["one"] (defScope s_show_fraction) := ⟨rfl, rfl, rfl, by decide +kernel, rfl, by decide +kernel, by decide +kernel⟩
theorem ok_show_fraction {a : Ad} (T : Tx K mg a) (F : Fun K "show_fraction" "show_fraction" s_show_fraction f fd) :
    FnOk P w K mg base (CXx P w) 1 f fd ["one"] (spD 1 K fun ds => finT (g_show_fraction a (startD 3 ds))) :=
  fn_den F sc_show_fraction fun cdv A outer s H E hr => (dss_cons (ds_set 1 sc_show_fraction.nd rfl (Or.inl rfl) (de_ix ix_D (de_var 0) de_int))
    (dss_cons (ds_set 2 sc_show_fraction.nd rfl (Or.inl rfl) (de_ix ix_D (de_var 0) de_int))
    (dss_cons (ds_if (dt_cmp op_eqSD (de_var 2) de_int) (dss_one (ds_ret (de_callTy call_strD rfl T.b_str bt_str (da_cons (de_var 1) da_nil)))) dss_nil)
    (dss_one (ds_ret (de_join (dj_cons (de_fmt (de_var 1)) (dj_cons de_str (dj_cons (de_fmt (de_var 2)) dj_nil)))))))))
theorem sc_joined : FnScope ["left", "sign", "right"] ["left", "sign", "right"] (defScope s_joined) := ⟨rfl, rfl, rfl, by decide +kernel, rfl, by decide +kernel, by decide +kernel⟩
theorem ok_joined {a : Ad} (T : Tx K mg a) (F : Fun K "joined" "joined" s_joined f fd) :
    FnOk P w K mg base (CXx P w) 1 f fd ["left", "sign", "right"] (spD 3 K fun ds => finT (g_joined a (startD 3 ds))) :=
  fn_den F sc_joined fun cdv A outer s H E hr => (dss_one (ds_ret (de_join (dj_cons (de_fmt (de_var 0)) (dj_cons de_str (dj_cons (de_fmt (de_var 1)) (dj_cons de_str (dj_cons (de_fmt (de_var 2)) dj_nil))))))))
theorem sc_show_tight : FnScope ["term", "loose", "text"] ["term", "loose"] (defScope s_show_tight) := ⟨rfl, rfl, rfl, by decide +kernel, rfl, by decide +kernel, by decide +kernel⟩
theorem ok_show_tight {a : Ad} {k : Nat} {F_show_term : List D → R D} (T : Tx K mg a) (F : Fun K "show_tight" "show_tight" s_show_tight f fd)
    (h_show_term : Has P w K mg base (CXx P w) k "show_term" ["term"] (spD 1 K F_show_term)) :
    FnOk P w K mg base (CXx P w) (k + 1) f fd ["term", "loose"] (spD 2 K fun ds => finT (g_show_tight a F_show_term (startD 3 ds))) :=
  fn_den F sc_show_tight fun cdv A outer s H E hr => (dss_cons (ds_set 2 sc_show_tight.nd rfl (Or.inl rfl) (de_call h_show_term hr rfl passX rfl (da_cons (de_var 0) da_nil)))
    (dss_one (ds_ret (de_if (dt_cmp (op_inLD hr.units) (de_ix ix_D (de_var 0) de_int) (de_var 1)) (de_join (dj_cons de_str (dj_cons (de_fmt (de_var 2)) (dj_cons de_str dj_nil)))) (de_var 2)))))
theorem sc_show_term : FnScope ["term", "kind", "inner", "place"] ["term"] (defScope s_show_term) := ⟨rfl, rfl, rfl, by decide +kernel, rfl, by decide +kernel, by decide +kernel⟩
theorem ok_show_term {a : Ad} {k : Nat} {F_show_tight : List D → R D} {F_show_term : List D → R D} {F_joined : List D → R D} {F_show_fraction : List D → R D} (T : Tx K mg a) (F : Fun K "show_term" "show_term" s_show_term f fd)
    (h_show_tight : Has P w K mg base (CXx P w) k "show_tight" ["term", "loose"] (spD 2 K F_show_tight))
    (h_show_term : Has P w K mg base (CXx P w) k "show_term" ["term"] (spD 1 K F_show_term))
    (h_joined : Has P w K mg base (CXx P w) k "joined" ["left", "sign", "right"] (spD 3 K F_joined))
    (h_show_fraction : Has P w K mg base (CXx P w) k "show_fraction" ["one"] (spD 1 K F_show_fraction)) :
    FnOk P w K mg base (CXx P w) (k + 1) f fd ["term"] (spD 1 K fun ds => finT (g_show_term a F_show_tight F_show_term F_joined F_show_fraction (startD 4 ds))) :=
  fn_den F sc_show_term fun cdv A outer s H E hr => (dss_cons (ds_set 1 sc_show_term.nd rfl (Or.inl rfl) (de_ix ix_D (de_var 0) de_int))
    (dss_cons (ds_if (dt_cmp (op_inLD hr.units) (de_var 1) (de_tup (da_cons de_str (da_cons de_str da_nil)))) (dss_one (ds_ret (de_call h_joined hr rfl passX rfl (da_cons (de_call h_show_term hr rfl passX rfl (da_cons (de_ix ix_D (de_var 0) de_int) da_nil)) (da_cons (de_var 1) (da_cons (de_call h_show_tight hr rfl passX rfl (da_cons (de_ix ix_D (de_var 0) de_int) (da_cons (de_tup (da_cons de_str (da_cons de_str da_nil))) da_nil))) da_nil)))))) dss_nil)
    (dss_cons (ds_if (dt_cmp op_eqSD (de_var 1) de_str) (dss_one (ds_ret (de_call h_joined hr rfl passX rfl (da_cons (de_call h_show_fraction hr rfl passX rfl (da_cons (de_ix ix_D (de_var 0) de_int) da_nil)) (da_cons de_str (da_cons (de_call h_show_tight hr rfl passX rfl (da_cons (de_ix ix_D (de_var 0) de_int) (da_cons (de_tup (da_cons de_str (da_cons de_str (da_cons de_str da_nil)))) da_nil))) da_nil)))))) dss_nil)
    (dss_cons (ds_if (dt_cmp op_eqSD (de_var 1) de_str) (dss_cons (ds_set 2 sc_show_term.nd rfl (Or.inl rfl) (de_call h_show_term hr rfl passX rfl (da_cons (de_ix ix_D (de_var 0) de_int) da_nil)))
    (dss_one (ds_ret (de_join (dj_cons de_str (dj_cons (de_fmt (de_var 2)) (dj_cons de_str dj_nil))))))) dss_nil)
    (dss_cons (ds_if (dt_cmp op_eqSD (de_var 1) de_str) (dss_one (ds_ret (de_call h_show_fraction hr rfl passX rfl (da_cons (de_ix ix_D (de_var 0) de_int) da_nil)))) dss_nil)
    (dss_cons (ds_if (dt_cmp op_eqSD (de_var 1) de_str) (dss_one (ds_ret (de_var 1))) dss_nil)
    (dss_cons (ds_set 3 sc_show_term.nd rfl (Or.inl rfl) (de_ix ix_D (de_var 0) de_int))
    (dss_one (ds_ret (de_join (dj_cons (de_fmt (de_var 1)) (dj_cons de_str (dj_cons (de_fmt (de_var 3)) dj_nil)))))))))))))
theorem sc_show_bound : FnScope ["condition", "loose", "text"] ["condition", "loose"] (defScope s_show_bound) := ⟨rfl, rfl, rfl, by decide +kernel, rfl, by decide +kernel, by decide +kernel⟩
theorem ok_show_bound {a : Ad} {k : Nat} {F_show_condition : List D → R D} (T : Tx K mg a) (F : Fun K "show_bound" "show_bound" s_show_bound f fd)
    (h_show_condition : Has P w K mg base (CXx P w) k "show_condition" ["condition"] (spD 1 K F_show_condition)) :
    FnOk P w K mg base (CXx P w) (k + 1) f fd ["condition", "loose"] (spD 2 K fun ds => finT (g_show_bound a F_show_condition (startD 3 ds))) :=
  fn_den F sc_show_bound fun cdv A outer s H E hr => (dss_cons (ds_set 2 sc_show_bound.nd rfl (Or.inl rfl) (de_call h_show_condition hr rfl passX rfl (da_cons (de_var 0) da_nil)))
    (dss_one (ds_ret (de_if (dt_cmp (op_inLD hr.units) (de_ix ix_D (de_var 0) de_int) (de_var 1)) (de_join (dj_cons de_str (dj_cons (de_fmt (de_var 2)) (dj_cons de_str dj_nil)))) (de_var 2)))))
theorem sc_show_condition : FnScope ["condition", "kind"] ["condition"] (defScope s_show_condition) := ⟨rfl, rfl, rfl, by decide +kernel, rfl, by decide +kernel, by decide +kernel⟩
theorem ok_show_condition {a : Ad} {k : Nat} {F_show_bound : List D → R D} {F_show_condition : List D → R D} {F_joined : List D → R D} {F_show_term : List D → R D} (T : Tx K mg a) (F : Fun K "show_condition" "show_condition" s_show_condition f fd)
    (h_show_bound : Has P w K mg base (CXx P w) k "show_bound" ["condition", "loose"] (spD 2 K F_show_bound))
    (h_show_condition : Has P w K mg base (CXx P w) k "show_condition" ["condition"] (spD 1 K F_show_condition))
    (h_joined : Has P w K mg base (CXx P w) k "joined" ["left", "sign", "right"] (spD 3 K F_joined))
    (h_show_term : Has P w K mg base (CXx P w) k "show_term" ["term"] (spD 1 K F_show_term)) :
    FnOk P w K mg base (CXx P w) (k + 1) f fd ["condition"] (spD 1 K fun ds => finT (g_show_condition a F_show_bound F_show_condition F_joined F_show_term (startD 2 ds))) :=
  fn_den F sc_show_condition fun cdv A outer s H E hr => (dss_cons (ds_set 1 sc_show_condition.nd rfl (Or.inl rfl) (de_ix ix_D (de_var 0) de_int))
    (dss_cons (ds_if (dt_cmp op_eqSD (de_var 1) de_str) (dss_one (ds_ret (de_call h_joined hr rfl passX rfl (da_cons (de_call h_show_condition hr rfl passX rfl (da_cons (de_ix ix_D (de_var 0) de_int) da_nil)) (da_cons (de_var 1) (da_cons (de_call h_show_bound hr rfl passX rfl (da_cons (de_ix ix_D (de_var 0) de_int) (da_cons (de_tup (da_cons de_str da_nil)) da_nil))) da_nil)))))) dss_nil)
    (dss_cons (ds_if (dt_cmp op_eqSD (de_var 1) de_str) (dss_one (ds_ret (de_call h_joined hr rfl passX rfl (da_cons (de_call h_show_bound hr rfl passX rfl (da_cons (de_ix ix_D (de_var 0) de_int) (da_cons (de_tup (da_cons de_str da_nil)) da_nil))) (da_cons (de_var 1) (da_cons (de_call h_show_bound hr rfl passX rfl (da_cons (de_ix ix_D (de_var 0) de_int) (da_cons (de_tup (da_cons de_str (da_cons de_str da_nil))) da_nil))) da_nil)))))) dss_nil)
    (dss_cons (ds_if (dt_cmp op_eqSD (de_var 1) de_str) (dss_one (ds_ret (de_op op_addD de_str (de_call h_show_bound hr rfl passX rfl (da_cons (de_ix ix_D (de_var 0) de_int) (da_cons (de_tup (da_cons de_str (da_cons de_str da_nil))) da_nil)))))) dss_nil)
    (dss_one (ds_ret (de_call h_joined hr rfl passX rfl (da_cons (de_call h_show_term hr rfl passX rfl (da_cons (de_ix ix_D (de_var 0) de_int) da_nil)) (da_cons (de_var 1) (da_cons (de_call h_show_term hr rfl passX rfl (da_cons (de_ix ix_D (de_var 0) de_int) da_nil)) da_nil))))))))))
theorem sc_law_cell_at : FnScope ["_law_script", "_law_k"] ["_law_script", "_law_k"] (defScope s_law_cell_at) := ⟨rfl, rfl, rfl, by decide +kernel, rfl, by decide +kernel, by decide +kernel⟩
noncomputable def g_law_cell_at (a : Ad) : Ev → RT := (sSeq (sIf (b1 tB (d2 ltD (dV 1) (dA lenD (aCons (dV 0) aNil)))) (sRet (d2 ixD (dV 0) (dV 1))) sNil)
    (sRet (dC (.int 0))))
theorem ok_law_cell_at {a : Ad} (T : Tx K mg a) (F : Fun K "_law_cell_at" "_law_cell_at" s_law_cell_at f fd) :
    FnOk P w K mg base (CXx P w) 1 f fd ["_law_script", "_law_k"] (spD 2 K fun ds => finT (g_law_cell_at a (startD 2 ds))) :=
  fn_den F sc_law_cell_at fun cdv A outer s H E hr => (dss_cons (ds_if (dt_cmp op_ltD (de_var 1) (de_callB call_lenD rfl T.b_len bt_len (da_cons (de_var 0) da_nil))) (dss_one (ds_ret (de_ix ix_D (de_var 0) (de_var 1)))) dss_nil)
    (dss_one (ds_ret de_int)))
theorem sc_law_lowest : FnScope ["_law_top", "_law_bottom", "_law_one", "_law_other", "_law_rest_here"] ["_law_top", "_law_bottom"] (defScope s_law_lowest) := ⟨rfl, rfl, rfl, by decide +kernel, rfl, by decide +kernel, by decide +kernel⟩
theorem ok_law_lowest {a : Ad} (T : Tx K mg a) (F : Fun K "_law_lowest" "_law_lowest" s_law_lowest f fd) :
    FnOk P w K mg base (CXx P w) 1 f fd ["_law_top", "_law_bottom"] (spD 2 K fun ds => finT (g_law_lowest a (startD 5 ds))) :=
  fn_den F sc_law_lowest fun cdv A outer s H E hr => (dss_cons (ds_set 2 sc_law_lowest.nd rfl (Or.inl rfl) (de_var 0))
    (dss_cons (ds_set 3 sc_law_lowest.nd rfl (Or.inl rfl) (de_var 1))
    (dss_cons (ds_while 10000000000000000000000000000000000000000000000000000000000000000000000000000000000000000000000000000000000000000000000000000000000000000000000000000000000000000000000000000000000000000000000000000000000000000000000000000000000000000000000000000000000000000000000000000000000000000000000000000000000000000000000000000000000000000000000000000000000000000000000000000000000000000000000000000000000000000 pass_cx (dt_cmp op_gtD (de_var 3) de_int) (dss_cons (ds_set 4 sc_law_lowest.nd rfl (Or.inl rfl) (de_op op_modD (de_var 2) (de_var 3)))
    (dss_cons (ds_set 2 sc_law_lowest.nd rfl (Or.inl rfl) (de_var 3))
    (dss_one (ds_set 3 sc_law_lowest.nd rfl (Or.inl rfl) (de_var 4))))))
    (dss_one (ds_ret (de_tup (da_cons (de_op op_fdivD (de_var 0) (de_var 2)) (da_cons (de_op op_fdivD (de_var 1) (de_var 2)) da_nil))))))))
theorem sc_law_fraction : FnScope ["_law_cell"] ["_law_cell"] (defScope s_law_fraction) := ⟨rfl, rfl, rfl, by decide +kernel, rfl, by decide +kernel, by decide +kernel⟩
theorem ok_law_fraction {a : Ad} {F_law_lowest : List D → R D} (T : Tx K mg a) (F : Fun K "_law_fraction" "_law_fraction" s_law_fraction f fd)
    (h_law_lowest : Has P w K mg base (CXx P w) 1 "_law_lowest" ["_law_top", "_law_bottom"] (spD 2 K F_law_lowest)) :
    FnOk P w K mg base (CXx P w) 2 f fd ["_law_cell"] (spD 1 K fun ds => finT (g_law_fraction a F_law_lowest (startD 1 ds))) :=
  fn_den F sc_law_fraction fun cdv A outer s H E hr => (dss_cons (ds_if (dt_cmp op_eqSD (de_op op_modD (de_var 0) de_int) de_int) (dss_one (ds_ret (de_tup (da_cons (de_op op_modD (de_op op_fdivD (de_var 0) de_int) de_int) (da_cons de_int da_nil))))) dss_nil)
    (dss_cons (ds_if (dt_cmp op_eqSD (de_op op_modD (de_var 0) de_int) de_int) (dss_one (ds_ret (de_call h_law_lowest hr rfl passX rfl (da_cons (de_op op_modD (de_op op_fdivD (de_var 0) de_int) de_int) (da_cons (de_op op_addD de_int (de_op op_modD (de_op op_fdivD (de_var 0) de_int) de_int)) da_nil))))) dss_nil)
    (dss_one (ds_ret (de_call h_law_lowest hr rfl passX rfl (da_cons (de_op op_modD (de_op op_fdivD (de_var 0) de_int) (de_op op_powD de_int de_int)) (da_cons (de_op op_addD de_int (de_op op_modD (de_op op_mulUD (de_var 0) de_int) de_int)) da_nil)))))))
theorem sc_law_mast : FnScope ["_law_cell", "_law_k", "_law_size", "_law_place"] ["_law_cell", "_law_k"] (defScope s_law_mast) := ⟨rfl, rfl, rfl, by decide +kernel, rfl, by decide +kernel, by decide +kernel⟩
theorem ok_law_mast {a : Ad} (T : Tx K mg a) (F : Fun K "_law_mast" "_law_mast" s_law_mast f fd) :
    FnOk P w K mg base (CXx P w) 1 f fd ["_law_cell", "_law_k"] (spD 2 K fun ds => finT (g_law_mast a (startD 4 ds))) :=
  fn_den F sc_law_mast fun cdv A outer s H E hr => (dss_cons (ds_set 2 sc_law_mast.nd rfl (Or.inl rfl) (de_op op_addD de_int (de_op op_modD (de_var 0) de_int)))
    (dss_cons (ds_set 3 sc_law_mast.nd rfl (Or.inl rfl) (de_op op_modD (de_op op_fdivD (de_var 0) de_int) (de_var 2)))
    (dss_one (ds_ret (de_op op_addD (de_op op_addD (de_op op_mulUD de_str (de_var 3)) (de_ix ix_D de_str (de_op op_modD (de_var 1) de_int))) (de_op op_mulUD de_str (de_op op_subD (de_op op_subD (de_var 2) de_int) (de_var 3))))))))
theorem sc_law_show : FnScope ["_law_one", "_law_text"] ["_law_one"] (defScope s_law_show) := ⟨rfl, rfl, rfl, by decide +kernel, rfl, by decide +kernel, by decide +kernel⟩
theorem ok_law_show {a : Ad} (T : Tx K mg a) (F : Fun K "_law_show" "_law_show" s_law_show f fd) :
    FnOk P w K mg base (CXx P w) 1 f fd ["_law_one"] (spD 1 K fun ds => finT (g_law_show a (startD 2 ds))) :=
  fn_den F sc_law_show fun cdv A outer s H E hr => (dss_cons (ds_set 1 sc_law_show.nd rfl (Or.inl rfl) (de_callTy call_strD rfl T.b_str bt_str (da_cons (de_ix ix_D (de_var 0) de_int) da_nil)))
    (dss_cons (ds_if (dt_cmp op_gtD (de_ix ix_D (de_var 0) de_int) de_int) (dss_one (ds_set 1 sc_law_show.nd rfl (Or.inl rfl) (de_op op_addD (de_op op_addD (de_var 1) de_str) (de_callTy call_strD rfl T.b_str bt_str (da_cons (de_ix ix_D (de_var 0) de_int) da_nil))))) dss_nil)
    (dss_one (ds_ret (de_var 1)))))
theorem sc_law_leaf : FnScope ["_law_head", "_law_cell", "_law_kind", "_law_n", "_law_f", "_law_mast_here", "_law_word"] ["_law_head", "_law_cell"] (defScope s_law_leaf) := ⟨rfl, rfl, rfl, by decide +kernel, rfl, by decide +kernel, by decide +kernel⟩
theorem ok_law_leaf {a : Ad} {F_law_fraction : List D → R D} {F_law_show : List D → R D} {F_law_mast : List D → R D} (T : Tx K mg a) (F : Fun K "_law_leaf" "_law_leaf" s_law_leaf f fd)
    (h_law_fraction : Has P w K mg base (CXx P w) 2 "_law_fraction" ["_law_cell"] (spD 1 K F_law_fraction))
    (h_law_show : Has P w K mg base (CXx P w) 2 "_law_show" ["_law_one"] (spD 1 K F_law_show))
    (h_law_mast : Has P w K mg base (CXx P w) 2 "_law_mast" ["_law_cell", "_law_k"] (spD 2 K F_law_mast)) :
    FnOk P w K mg base (CXx P w) 3 f fd ["_law_head", "_law_cell"] (spD 2 K fun ds => finT (g_law_leaf a F_law_fraction F_law_show F_law_mast (startD 7 ds))) :=
  fn_den F sc_law_leaf fun cdv A outer s H E hr => (dss_cons (ds_set 2 sc_law_leaf.nd rfl (Or.inl rfl) (de_op op_modD (de_var 1) de_int))
    (dss_cons (ds_set 3 sc_law_leaf.nd rfl (Or.inl rfl) (de_op op_addD de_int (de_op op_modD (de_op op_fdivD (de_var 1) de_int) de_int)))
    (dss_cons (ds_if (dt_cmp op_ltD (de_var 2) de_int) (dss_cons (ds_set 4 sc_law_leaf.nd rfl (Or.inl rfl) (de_call h_law_fraction hr rfl passX rfl (da_cons (de_op op_fdivD (de_var 1) de_int) da_nil)))
    (dss_one (ds_ret (de_tup (da_cons (de_tup (da_cons de_str (da_cons (de_var 4) da_nil))) (da_cons (de_call h_law_show hr rfl passX rfl (da_cons (de_var 4) da_nil)) (da_cons de_int da_nil))))))) dss_nil)
    (dss_cons (ds_if (dt_cmp op_eqSD (de_var 2) de_int) (dss_one (ds_ret (de_tup (da_cons (de_tup (da_cons de_str da_nil)) (da_cons de_str (da_cons de_int da_nil)))))) dss_nil)
    (dss_cons (ds_if (dt_cmp op_eqSD (de_var 2) de_int) (dss_cons (ds_set 5 sc_law_leaf.nd rfl (Or.inl rfl) (de_call h_law_mast hr rfl passX rfl (da_cons (de_var 0) (da_cons (de_op op_fdivD (de_var 1) de_int) da_nil))))
    (dss_one (ds_ret (de_tup (da_cons (de_tup (da_cons de_str (da_cons (de_var 5) da_nil))) (da_cons (de_op op_addD de_str (de_var 5)) (da_cons de_int da_nil))))))) dss_nil)
    (dss_cons (ds_set 6 sc_law_leaf.nd rfl (Or.inl rfl) (de_ix ix_D (DN.de (dn_lst (da_cons de_str (da_cons de_str (da_cons de_str (da_cons de_str da_nil)))))) (de_op op_subD (de_var 2) de_int)))
    (dss_one (ds_ret (de_tup (da_cons (de_tup (da_cons (de_var 6) (da_cons (de_var 3) da_nil))) (da_cons (de_op op_addD (de_op op_addD (de_var 6) de_str) (de_callTy call_strD rfl T.b_str bt_str (da_cons (de_var 3) da_nil))) (da_cons de_int da_nil))))))))))))
theorem sc_law_put : FnScope ["_law_one", "_law_least", "_law_brackets"] ["_law_one", "_law_least", "_law_brackets"] (defScope s_law_put) := ⟨rfl, rfl, rfl, by decide +kernel, rfl, by decide +kernel, by decide +kernel⟩
theorem ok_law_put {a : Ad} (T : Tx K mg a) (F : Fun K "_law_put" "_law_put" s_law_put f fd) :
    FnOk P w K mg base (CXx P w) 1 f fd ["_law_one", "_law_least", "_law_brackets"] (spD 3 K fun ds => finT (g_law_put a (startD 3 ds))) :=
  fn_den F sc_law_put fun cdv A outer s H E hr => (dss_cons (ds_if (dt_cmp op_ltD (de_ix ix_D (de_var 0) de_int) (de_var 1)) (dss_one (ds_ret (de_op op_addD (de_op op_addD (de_ix ix_D (de_var 2) de_int) (de_ix ix_D (de_var 0) de_int)) (de_ix ix_D (de_var 2) de_int)))) dss_nil)
    (dss_one (ds_ret (de_ix ix_D (de_var 0) de_int))))
theorem sc_law_sum : FnScope ["_law_one", "_law_other", "_law_sign", "_law_text"] ["_law_one", "_law_other", "_law_sign"] (defScope s_law_sum) := ⟨rfl, rfl, rfl, by decide +kernel, rfl, by decide +kernel, by decide +kernel⟩
theorem ok_law_sum {a : Ad} {F_law_put : List D → R D} (T : Tx K mg a) (F : Fun K "_law_sum" "_law_sum" s_law_sum f fd)
    (h_law_put : Has P w K mg base (CXx P w) 1 "_law_put" ["_law_one", "_law_least", "_law_brackets"] (spD 3 K F_law_put)) :
    FnOk P w K mg base (CXx P w) 2 f fd ["_law_one", "_law_other", "_law_sign"] (spD 3 K fun ds => finT (g_law_sum a F_law_put (startD 4 ds))) :=
  fn_den F sc_law_sum fun cdv A outer s H E hr => (dss_cons (ds_set 3 sc_law_sum.nd rfl (Or.inl rfl) (de_op op_addD (de_op op_addD (de_op op_addD (de_op op_addD (de_call h_law_put hr rfl passX rfl (da_cons (de_var 0) (da_cons de_int (da_cons de_str da_nil)))) de_str) (de_var 2)) de_str) (de_call h_law_put hr rfl passX rfl (da_cons (de_var 1) (da_cons de_int (da_cons de_str da_nil))))))
    (dss_one (ds_ret (de_tup (da_cons (de_tup (da_cons (de_var 2) (da_cons (de_ix ix_D (de_var 0) de_int) (da_cons (de_ix ix_D (de_var 1) de_int) da_nil)))) (da_cons (de_var 3) (da_cons de_int da_nil)))))))
theorem sc_law_over_term : FnScope ["_law_one", "_law_cell", "_law_f"] ["_law_one", "_law_cell"] (defScope s_law_over_term) := ⟨rfl, rfl, rfl, by decide +kernel, rfl, by decide +kernel, by decide +kernel⟩
theorem ok_law_over_term {a : Ad} {F_law_fraction : List D → R D} {F_law_show : List D → R D} {F_law_put : List D → R D} (T : Tx K mg a) (F : Fun K "_law_over_term" "_law_over_term" s_law_over_term f fd)
    (h_law_fraction : Has P w K mg base (CXx P w) 2 "_law_fraction" ["_law_cell"] (spD 1 K F_law_fraction))
    (h_law_show : Has P w K mg base (CXx P w) 2 "_law_show" ["_law_one"] (spD 1 K F_law_show))
    (h_law_put : Has P w K mg base (CXx P w) 2 "_law_put" ["_law_one", "_law_least", "_law_brackets"] (spD 3 K F_law_put)) :
    FnOk P w K mg base (CXx P w) 3 f fd ["_law_one", "_law_cell"] (spD 2 K fun ds => finT (g_law_over_term a F_law_fraction F_law_show F_law_put (startD 3 ds))) :=
  fn_den F sc_law_over_term fun cdv A outer s H E hr => (dss_cons (ds_if (dt_cmp op_eqSD (de_op op_modD (de_var 1) de_int) de_int) (dss_one (ds_ret (de_tup (da_cons (de_tup (da_cons de_str (da_cons (de_ix ix_D (de_var 0) de_int) da_nil))) (da_cons (de_op op_addD (de_op op_addD de_str (de_ix ix_D (de_var 0) de_int)) de_str) (da_cons de_int da_nil)))))) dss_nil)
    (dss_cons (ds_set 2 sc_law_over_term.nd rfl (Or.inl rfl) (de_call h_law_fraction hr rfl passX rfl (da_cons (de_op op_fdivD (de_var 1) de_int) da_nil)))
    (dss_one (ds_ret (de_tup (da_cons (de_tup (da_cons de_str (da_cons (de_var 2) (da_cons (de_ix ix_D (de_var 0) de_int) da_nil)))) (da_cons (de_op op_addD (de_op op_addD (de_call h_law_show hr rfl passX rfl (da_cons (de_var 2) da_nil)) de_str) (de_call h_law_put hr rfl passX rfl (da_cons (de_var 0) (da_cons de_int (da_cons de_str da_nil))))) (da_cons de_int da_nil))))))))
theorem sc_law_compared : FnScope ["_law_one", "_law_other", "_law_sign"] ["_law_one", "_law_other", "_law_sign"] (defScope s_law_compared) := ⟨rfl, rfl, rfl, by decide +kernel, rfl, by decide +kernel, by decide +kernel⟩
theorem ok_law_compared {a : Ad} (T : Tx K mg a) (F : Fun K "_law_compared" "_law_compared" s_law_compared f fd) :
    FnOk P w K mg base (CXx P w) 1 f fd ["_law_one", "_law_other", "_law_sign"] (spD 3 K fun ds => finT (g_law_compared a (startD 3 ds))) :=
  fn_den F sc_law_compared fun cdv A outer s H E hr => (dss_one (ds_ret (de_tup (da_cons (de_tup (da_cons (de_var 2) (da_cons (de_ix ix_D (de_var 0) de_int) (da_cons (de_ix ix_D (de_var 1) de_int) da_nil)))) (da_cons (de_op op_addD (de_op op_addD (de_op op_addD (de_op op_addD (de_ix ix_D (de_var 0) de_int) de_str) (de_var 2)) de_str) (de_ix ix_D (de_var 1) de_int)) (da_cons de_int da_nil))))))
theorem sc_law_joined : FnScope ["_law_one", "_law_other", "_law_word", "_law_rank", "_law_text"] ["_law_one", "_law_other", "_law_word"] (defScope s_law_joined) := ⟨rfl, rfl, rfl, by decide +kernel, rfl, by decide +kernel, by decide +kernel⟩
theorem ok_law_joined {a : Ad} {F_law_put : List D → R D} (T : Tx K mg a) (F : Fun K "_law_joined" "_law_joined" s_law_joined f fd)
    (h_law_put : Has P w K mg base (CXx P w) 1 "_law_put" ["_law_one", "_law_least", "_law_brackets"] (spD 3 K F_law_put)) :
    FnOk P w K mg base (CXx P w) 2 f fd ["_law_one", "_law_other", "_law_word"] (spD 3 K fun ds => finT (g_law_joined a F_law_put (startD 5 ds))) :=
  fn_den F sc_law_joined fun cdv A outer s H E hr => (dss_cons (ds_set 3 sc_law_joined.nd rfl (Or.inl rfl) (de_op op_addD de_int (de_callTy call_intBD rfl T.b_int bt_int (da_cons (de_cmp op_eqSD (de_var 2) de_str) da_nil))))
    (dss_cons (ds_set 4 sc_law_joined.nd rfl (Or.inl rfl) (de_op op_addD (de_op op_addD (de_op op_addD (de_op op_addD (de_call h_law_put hr rfl passX rfl (da_cons (de_var 0) (da_cons (de_var 3) (da_cons de_str da_nil)))) de_str) (de_var 2)) de_str) (de_call h_law_put hr rfl passX rfl (da_cons (de_var 1) (da_cons (de_op op_addD (de_var 3) de_int) (da_cons de_str da_nil))))))
    (dss_one (ds_ret (de_tup (da_cons (de_tup (da_cons (de_var 2) (da_cons (de_ix ix_D (de_var 0) de_int) (da_cons (de_ix ix_D (de_var 1) de_int) da_nil)))) (da_cons (de_var 4) (da_cons (de_var 3) da_nil))))))))
theorem sc_law_denied : FnScope ["_law_one"] ["_law_one"] (defScope s_law_denied) := ⟨rfl, rfl, rfl, by decide +kernel, rfl, by decide +kernel, by decide +kernel⟩
theorem ok_law_denied {a : Ad} {F_law_put : List D → R D} (T : Tx K mg a) (F : Fun K "_law_denied" "_law_denied" s_law_denied f fd)
    (h_law_put : Has P w K mg base (CXx P w) 1 "_law_put" ["_law_one", "_law_least", "_law_brackets"] (spD 3 K F_law_put)) :
    FnOk P w K mg base (CXx P w) 2 f fd ["_law_one"] (spD 1 K fun ds => finT (g_law_denied a F_law_put (startD 1 ds))) :=
  fn_den F sc_law_denied fun cdv A outer s H E hr => (dss_one (ds_ret (de_tup (da_cons (de_tup (da_cons de_str (da_cons (de_ix ix_D (de_var 0) de_int) da_nil))) (da_cons (de_op op_addD de_str (de_call h_law_put hr rfl passX rfl (da_cons (de_var 0) (da_cons de_int (da_cons de_str da_nil))))) (da_cons de_int da_nil))))))
theorem sc_law_rest : FnScope ["_law_terms", "_law_conds", "_law_made"] ["_law_terms", "_law_conds"] (defScope s_law_rest) := ⟨rfl, rfl, rfl, by decide +kernel, rfl, by decide +kernel, by decide +kernel⟩
theorem ok_law_rest {a : Ad} (T : Tx K mg a) (F : Fun K "_law_rest" "_law_rest" s_law_rest f fd) :
    FnOk P w K mg base (CXx P w) 1 f fd ["_law_terms", "_law_conds"] (spD 2 K fun ds => finT (g_law_rest a (startD 3 ds))) :=
  fn_den F sc_law_rest fun cdv A outer s H E hr => (dss_cons (ds_set 2 sc_law_rest.nd rfl (Or.inl rfl) (de_op op_addD (de_var 1) (de_op op_fdivD (de_op op_addD (de_var 0) de_int) de_int)))
    (dss_one (ds_ret (de_op op_addD (de_op op_addD (de_op op_addD (de_op op_fdivD (de_op op_addD (de_var 0) de_int) de_int) (de_op op_modD (de_var 0) de_int)) (de_callB (call_max2D rfl) rfl T.b_max bt_max (da_cons de_int (da_cons (de_op op_subD (de_var 2) de_int) da_nil)))) (de_op op_mulUD de_int (de_callTy call_intBD rfl T.b_int bt_int (da_cons (de_cmp op_eqSD (de_var 2) de_int) da_nil)))))))
theorem sc_law_step : FnScope ["_law_state", "_law_cell", "_law_head", "_law_terms", "_law_conds", "_law_kind", "_law_other"] ["_law_state", "_law_cell", "_law_head"] (defScope s_law_step) := ⟨rfl, rfl, rfl, by decide +kernel, rfl, by decide +kernel, by decide +kernel⟩
theorem ok_law_step {a : Ad} {F_law_sum : List D → R D} {F_law_over_term : List D → R D} {F_law_compared : List D → R D} {F_law_denied : List D → R D} {F_law_joined : List D → R D} {F_law_leaf : List D → R D} (T : Tx K mg a) (F : Fun K "_law_step" "_law_step" s_law_step f fd)
    (h_law_sum : Has P w K mg base (CXx P w) 3 "_law_sum" ["_law_one", "_law_other", "_law_sign"] (spD 3 K F_law_sum))
    (h_law_over_term : Has P w K mg base (CXx P w) 3 "_law_over_term" ["_law_one", "_law_cell"] (spD 2 K F_law_over_term))
    (h_law_compared : Has P w K mg base (CXx P w) 3 "_law_compared" ["_law_one", "_law_other", "_law_sign"] (spD 3 K F_law_compared))
    (h_law_denied : Has P w K mg base (CXx P w) 3 "_law_denied" ["_law_one"] (spD 1 K F_law_denied))
    (h_law_joined : Has P w K mg base (CXx P w) 3 "_law_joined" ["_law_one", "_law_other", "_law_word"] (spD 3 K F_law_joined))
    (h_law_leaf : Has P w K mg base (CXx P w) 3 "_law_leaf" ["_law_head", "_law_cell"] (spD 2 K F_law_leaf)) :
    FnOk P w K mg base (CXx P w) 4 f fd ["_law_state", "_law_cell", "_law_head"] (spZ 3 K fun zs S => finZ (g_law_step a F_law_sum F_law_over_term F_law_compared F_law_denied F_law_joined F_law_leaf S.length (startZ 7 zs) S)) :=
  fn_denZ F sc_law_step fun b cdv A outer s H E hr => (zss_cons (zs_set 3 sc_law_step.nd rfl (Or.inl rfl) (ze_dget hr.units (ze_var 0) de_str))
    (zss_cons (zs_set 4 sc_law_step.nd rfl (Or.inl rfl) (ze_dget hr.units (ze_var 0) de_str))
    (zss_cons (zs_set 5 sc_law_step.nd rfl (Or.inl rfl) (ze_lift (de_op op_modD (de_var 1) de_int)))
    (zss_cons (zs_if (zt_read (DW.dt (dw_and (dt_cmp (op_inLD hr.units) (de_var 5) (de_tup (da_cons de_int (da_cons de_int da_nil)))) (dw_and1 (dt_cmp op_gtD (de_callB call_lenD rfl T.b_len bt_len (da_cons (de_var 3) da_nil)) de_int))))) (zss_cons (zs_set 6 sc_law_step.nd rfl (Or.inl rfl) (ze_pop 3 PySem.F.plainAttrs_list PySem.F.slot_list_pop PySem.F.type_list_pop))
    (zss_one (zs_append 3 PySem.F.plainAttrs_list PySem.F.slot_list_append PySem.F.type_list_append (ze_callD h_law_sum hr rfl passX rfl (za_cons (ze_pop 3 PySem.F.plainAttrs_list PySem.F.slot_list_pop PySem.F.type_list_pop) (za_cons (ze_lift (de_var 6)) (za_cons (ze_lift (de_ix ix_D (DN.de (dn_lst (da_cons de_str (da_cons de_str da_nil)))) (de_op op_subD (de_var 5) de_int))) za_nil))))))) (zss_one (zs_if (ZW.zt (zw_and (zt_lift (dt_cmp (op_inLD hr.units) (de_var 5) (de_tup (da_cons de_int (da_cons de_int da_nil))))) (zw_and (zt_read (dt_cmp op_gtD (de_callB call_lenD rfl T.b_len bt_len (da_cons (de_var 3) da_nil)) de_int)) (zw_and1 (zt_cmp op_ltD (ze_dget hr.units (ze_var 0) de_str) (ze_lift de_int)))))) (zss_cons (zs_append 3 PySem.F.plainAttrs_list PySem.F.slot_list_append PySem.F.type_list_append (ze_callD h_law_over_term hr rfl passX rfl (za_cons (ze_pop 3 PySem.F.plainAttrs_list PySem.F.slot_list_pop PySem.F.type_list_pop) (za_cons (ze_lift (de_op op_fdivD (de_var 1) de_int)) za_nil))))
    (zss_one (zs_dput hr.units (ze_var 0) de_str (ze_op op_addD (ze_dget hr.units (ze_var 0) de_str) (ze_lift de_int))))) (zss_one (zs_if (zt_read (DW.dt (dw_and (dt_cmp (op_inLD hr.units) (de_var 5) (de_tup (da_cons de_int (da_cons de_int da_nil)))) (dw_and1 (dt_cmp op_gtD (de_callB call_lenD rfl T.b_len bt_len (da_cons (de_var 3) da_nil)) de_int))))) (zss_cons (zs_set 6 sc_law_step.nd rfl (Or.inl rfl) (ze_pop 3 PySem.F.plainAttrs_list PySem.F.slot_list_pop PySem.F.type_list_pop))
    (zss_one (zs_append 4 PySem.F.plainAttrs_list PySem.F.slot_list_append PySem.F.type_list_append (ze_callD h_law_compared hr rfl passX rfl (za_cons (ze_pop 3 PySem.F.plainAttrs_list PySem.F.slot_list_pop PySem.F.type_list_pop) (za_cons (ze_lift (de_var 6)) (za_cons (ze_lift (de_ix ix_D (DN.de (dn_lst (da_cons de_str (da_cons de_str da_nil)))) (de_op op_subD (de_var 5) de_int))) za_nil))))))) (zss_one (zs_if (zt_read (DW.dt (dw_and (dt_cmp op_eqSD (de_var 5) de_int) (dw_and1 (dt_cmp op_gtD (de_callB call_lenD rfl T.b_len bt_len (da_cons (de_var 4) da_nil)) de_int))))) (zss_one (zs_append 4 PySem.F.plainAttrs_list PySem.F.slot_list_append PySem.F.type_list_append (ze_callD h_law_denied hr rfl passX rfl (za_cons (ze_pop 4 PySem.F.plainAttrs_list PySem.F.slot_list_pop PySem.F.type_list_pop) za_nil)))) (zss_one (zs_if (zt_read (DW.dt (dw_and (dt_cmp (op_inLD hr.units) (de_var 5) (de_tup (da_cons de_int (da_cons de_int da_nil)))) (dw_and1 (dt_cmp op_gtD (de_callB call_lenD rfl T.b_len bt_len (da_cons (de_var 4) da_nil)) de_int))))) (zss_cons (zs_set 6 sc_law_step.nd rfl (Or.inl rfl) (ze_pop 4 PySem.F.plainAttrs_list PySem.F.slot_list_pop PySem.F.type_list_pop))
    (zss_one (zs_append 4 PySem.F.plainAttrs_list PySem.F.slot_list_append PySem.F.type_list_append (ze_callD h_law_joined hr rfl passX rfl (za_cons (ze_pop 4 PySem.F.plainAttrs_list PySem.F.slot_list_pop PySem.F.type_list_pop) (za_cons (ze_lift (de_var 6)) (za_cons (ze_lift (de_ix ix_D (DN.de (dn_lst (da_cons de_str (da_cons de_str da_nil)))) (de_op op_subD (de_var 5) de_int))) za_nil))))))) (zss_one (zs_append 3 PySem.F.plainAttrs_list PySem.F.slot_list_append PySem.F.type_list_append (ze_lift (de_call h_law_leaf hr rfl passX rfl (da_cons (de_var 2) (da_cons (de_op op_fdivD (de_var 1) de_int) da_nil)))))))))))))))
    (zss_one (zs_dput hr.units (ze_var 0) de_str (ze_op op_addD (ze_dget hr.units (ze_var 0) de_str) (ze_lift de_int))))))))
theorem sc_law_ended : FnScope ["_law_state", "_law_word", "_law_terms", "_law_conds", "_law_here", "_law_other"] ["_law_state", "_law_word"] (defScope s_law_ended) := ⟨rfl, rfl, rfl, by decide +kernel, rfl, by decide +kernel, by decide +kernel⟩
theorem ok_law_ended {a : Ad} {F_law_compared : List D → R D} {F_law_joined : List D → R D} (T : Tx K mg a) (F : Fun K "_law_ended" "_law_ended" s_law_ended f fd)
    (h_law_compared : Has P w K mg base (CXx P w) 2 "_law_compared" ["_law_one", "_law_other", "_law_sign"] (spD 3 K F_law_compared))
    (h_law_joined : Has P w K mg base (CXx P w) 2 "_law_joined" ["_law_one", "_law_other", "_law_word"] (spD 3 K F_law_joined)) :
    FnOk P w K mg base (CXx P w) 3 f fd ["_law_state", "_law_word"] (spZ 2 K fun zs S => finZ (g_law_ended a F_law_compared F_law_joined S.length (startZ 6 zs) S)) :=
  fn_denZ F sc_law_ended fun b cdv A outer s H E hr => (zss_cons (zs_set 2 sc_law_ended.nd rfl (Or.inl rfl) (ze_dget hr.units (ze_var 0) de_str))
    (zss_cons (zs_set 3 sc_law_ended.nd rfl (Or.inl rfl) (ze_dget hr.units (ze_var 0) de_str))
    (zss_cons (zs_set 4 sc_law_ended.nd rfl (Or.inl rfl) (ze_lift (de_tup (da_cons (de_tup (da_cons de_str da_nil)) (da_cons de_str (da_cons de_int da_nil))))))
    (zss_cons (zs_if (zt_read (dt_cmp op_eqSD (de_op op_addD (de_callB call_lenD rfl T.b_len bt_len (da_cons (de_var 2) da_nil)) (de_callB call_lenD rfl T.b_len bt_len (da_cons (de_var 3) da_nil))) de_int)) (zss_one (zs_append 2 PySem.F.plainAttrs_list PySem.F.slot_list_append PySem.F.type_list_append (ze_lift (de_var 4)))) zss_nil)
    (zss_cons (zs_if (zt_read (dt_cmp op_eqSD (de_op op_modD (de_callB call_lenD rfl T.b_len bt_len (da_cons (de_var 2) da_nil)) de_int) de_int)) (zss_one (zs_append 2 PySem.F.plainAttrs_list PySem.F.slot_list_append PySem.F.type_list_append (ze_lift (de_var 4)))) zss_nil)
    (zss_cons (zs_while 100 pass_cx (zt_read (dt_cmp op_gtD (de_callB call_lenD rfl T.b_len bt_len (da_cons (de_var 2) da_nil)) de_int)) (zss_cons (zs_set 5 sc_law_ended.nd rfl (Or.inl rfl) (ze_pop 2 PySem.F.plainAttrs_list PySem.F.slot_list_pop PySem.F.type_list_pop))
    (zss_one (zs_append 3 PySem.F.plainAttrs_list PySem.F.slot_list_append PySem.F.type_list_append (ze_callD h_law_compared hr rfl passX rfl (za_cons (ze_pop 2 PySem.F.plainAttrs_list PySem.F.slot_list_pop PySem.F.type_list_pop) (za_cons (ze_lift (de_var 5)) (za_cons (ze_lift de_str) za_nil))))))))
    (zss_cons (zs_while 100 pass_cx (zt_read (dt_cmp op_gtD (de_callB call_lenD rfl T.b_len bt_len (da_cons (de_var 3) da_nil)) de_int)) (zss_cons (zs_set 5 sc_law_ended.nd rfl (Or.inl rfl) (ze_pop 3 PySem.F.plainAttrs_list PySem.F.slot_list_pop PySem.F.type_list_pop))
    (zss_one (zs_append 3 PySem.F.plainAttrs_list PySem.F.slot_list_append PySem.F.type_list_append (ze_callD h_law_joined hr rfl passX rfl (za_cons (ze_pop 3 PySem.F.plainAttrs_list PySem.F.slot_list_pop PySem.F.type_list_pop) (za_cons (ze_lift (de_var 5)) (za_cons (ze_lift (de_var 1)) za_nil))))))))
    (zss_one (zs_ret (ze_read (de_ix ix_D (de_var 3) de_int)))))))))))
theorem sc_law_condition : FnScope ["_law_head", "_law_cells", "_law_word", "_law_state", "_law_cell", "_law_many", "_law_rest_here"] ["_law_head", "_law_cells", "_law_word"] (defScope s_law_condition) := ⟨rfl, rfl, rfl, by decide +kernel, rfl, by decide +kernel, by decide +kernel⟩
theorem ok_law_condition {a : Ad} {F_law_rest : List D → R D} {Z_law_step : List Z → Sto → RX Z} {Z_law_ended : List Z → Sto → RX Z} (T : Tx K mg a) (F : Fun K "_law_condition" "_law_condition" s_law_condition f fd)
    (h_law_rest : Has P w K mg base (CXx P w) 4 "_law_rest" ["_law_terms", "_law_conds"] (spD 2 K F_law_rest))
    (h_law_step : Has P w K mg base (CXx P w) 4 "_law_step" ["_law_state", "_law_cell", "_law_head"] (spZ 3 K Z_law_step))
    (h_law_ended : Has P w K mg base (CXx P w) 4 "_law_ended" ["_law_state", "_law_word"] (spZ 2 K Z_law_ended)) :
    FnOk P w K mg base (CXx P w) 5 f fd ["_law_head", "_law_cells", "_law_word"] (spZ 3 K fun zs S => finZ (g_law_condition a F_law_rest Z_law_step Z_law_ended S.length (startZ 7 zs) S)) :=
  fn_denZ F sc_law_condition fun b cdv A outer s H E hr => (zss_cons (zs_set 3 sc_law_condition.nd rfl (Or.inl rfl) (ze_disp (zps_cons (ze_new (dn_lst da_nil)) (zps_cons (ze_new (dn_lst da_nil)) (zps_cons (ze_lift de_int) (zps_cons (ze_lift de_int) zps_nil))))))
    (zss_cons (zs_for pass_cx rfl (di_any (de_var 1)) (zg_name 4 sc_law_condition.nd rfl (Or.inl rfl)) (zss_cons (zs_set 5 sc_law_condition.nd rfl (Or.inl rfl) (ze_len rfl rfl T.b_len bt_len (ze_dget hr.units (ze_var 3) de_str)))
    (zss_cons (zs_set 6 sc_law_condition.nd rfl (Or.inl rfl) (ze_callB (call_max2D rfl) rfl T.b_max bt_max (za_cons (ze_callD h_law_rest hr rfl passX rfl (za_cons (ze_len rfl rfl T.b_len bt_len (ze_dget hr.units (ze_var 3) de_str)) (za_cons (ze_lift (de_var 5)) za_nil))) (za_cons (ze_callD h_law_rest hr rfl passX rfl (za_cons (ze_op op_addD (ze_len rfl rfl T.b_len bt_len (ze_dget hr.units (ze_var 3) de_str)) (ze_lift de_int)) (za_cons (ze_lift (de_var 5)) za_nil))) za_nil))))
    (zss_cons (zs_if (zt_cmp op_gtD (ze_op op_addD (ze_op op_addD (ze_dget hr.units (ze_var 3) de_str) (ze_lift de_int)) (ze_lift (de_var 6))) (ze_lift de_int)) (zss_one zs_break) zss_nil)
    (zss_one (zs_expr (ze_callZ h_law_step hr rfl passX rfl (za_cons (ze_var 3) (za_cons (ze_lift (de_var 4)) (za_cons (ze_lift (de_var 0)) za_nil))))))))))
    (zss_one (zs_ret (ze_callZ h_law_ended hr rfl passX rfl (za_cons (ze_var 3) (za_cons (ze_lift (de_var 2)) za_nil)))))))
theorem sc_law : FnScope ["_law_script", "_law_made", "_law_found"] ["_law_script"] (defScope s_law) := ⟨rfl, rfl, rfl, by decide +kernel, rfl, by decide +kernel, by decide +kernel⟩
noncomputable def g_law (a : Ad) (F_law_cell_at : List D → R D) (F_law_condition : List D → R D) (F_show_condition : List D → R D) : Ev → RT := (sSeq (sSet 1 (dA F_law_condition (aCons (dA F_law_cell_at (aCons (dV 0) (aCons (dC (.int 0)) aNil))) (aCons (dSl slWD (dV 0) (fun ρ => ((dC (.int 2)) ρ).bind pI) (fun _ => .ok none)) (aCons (d2 ixD (asN (fun ρ => ((aCons (dC (.str "and")) (aCons (dC (.str "or")) aNil)) ρ).bind fitL)) (d2 modD (dA F_law_cell_at (aCons (dV 0) (aCons (dC (.int 1)) aNil))) (dC (.int 2)))) aNil)))))
    (sSeq (sSet 2 (dA F_show_condition (aCons (d2 ixD (dV 1) (dC (.int 0))) aNil)))
    (sRet (dAnd (dA (isXD a.isx) (aCons (dV 2) (aCons (dC (.ty "str")) aNil))) (d2 eqSD (dV 2) (d2 ixD (dV 1) (dC (.int 1))))))))
theorem ok_law {a : Ad} {F_law_cell_at : List D → R D} {F_law_condition : List D → R D} {F_show_condition : List D → R D} (T : Tx K mg a) (F : Fun K "law" "law" s_law f fd)
    (h_law_cell_at : Has P w K mg base (CXx P w) 129 "_law_cell_at" ["_law_script", "_law_k"] (spD 2 K F_law_cell_at))
    (h_law_condition : Has P w K mg base (CXx P w) 129 "_law_condition" ["_law_head", "_law_cells", "_law_word"] (spD 3 K F_law_condition))
    (h_show_condition : Has P w K mg base (CXx P w) 129 "show_condition" ["condition"] (spD 1 K F_show_condition)) :
    FnOk P w K mg base (CXx P w) 130 f fd ["_law_script"] (spD 1 K fun ds => finT (g_law a F_law_cell_at F_law_condition F_show_condition (startD 3 ds))) :=
  fn_den F sc_law fun cdv A outer s H E hr => (dss_cons (ds_set 1 sc_law.nd rfl (Or.inl rfl) (de_call h_law_condition hr rfl passX rfl (da_cons (de_call h_law_cell_at hr rfl passX rfl (da_cons (de_var 0) (da_cons de_int da_nil))) (da_cons (de_slice sl_WD (de_var 0) (do_some de_int) do_none) (da_cons (de_ix ix_D (DN.de (dn_lst (da_cons de_str (da_cons de_str da_nil)))) (de_op op_modD (de_call h_law_cell_at hr rfl passX rfl (da_cons (de_var 0) (da_cons de_int da_nil))) de_int)) da_nil)))))
    (dss_cons (ds_set 2 sc_law.nd rfl (Or.inl rfl) (de_call h_show_condition hr rfl passX rfl (da_cons (de_ix ix_D (de_var 1) de_int) da_nil)))
    (dss_one (ds_ret (de_and (de_callB (call_isXD T.isok) rfl T.b_isinstance bt_isinstance (da_cons (de_var 2) (da_cons (de_ty rfl T.b_str bt_str) da_nil))) (de_one (de_cmp op_eqSD (de_var 2) (de_ix ix_D (de_var 1) de_int))))))))
end
end W32
namespace W32
open PySem L2 P2 WP WC TM T2 PySem.NumText
local macro_rules | `(tactic| walk_at "den") => `(tactic| try simp (disch := first | assumption | decide | exact Nat.le_of_ble_eq_true rfl) only [q_bind_k, q_bind_x, q_bind_b, q_toS_k, q_toS_x, q_toS_b, q_seq_n, q_seq_r, q_seq_x, q_seq_b, q_turn_n, q_turn_c, q_turn_k, q_turn_r, q_turn_b, q_turn_x, q_fin_r, q_fin_n, q_fin_x, q_noEx_k, q_okO_k, q_ofO_s, q_sSeq_a, q_sNil_a, q_sRet_a, q_sExpr_a, q_sSet_a, q_sIf_a, q_dC_a, q_d1_a, q_d2_a, q_b1B_a, q_b1T_a, q_bAnd_a, q_bOr_a, q_bNot_a, q_dAnd_a, q_dOr_a, q_dNot_a, q_dIf_a, q_dA_a, q_aNil_a, q_aCons_a, q_asN_a, q_dMt_a, q_dSl_a, q_dComp_a, q_sFor_a, q_toO_s, q_gV_a, q_tB_b, q_tT_b, q_tT_i, q_tT_n, q_tT_l, q_tT_t, q_add_i, q_sub_i, q_fdiv_p, q_mod_p, q_lt_i, q_le_i, q_gt_i, q_ge_i, q_neg_i, q_eq_i, q_eq_s, q_eq_b, q_ne_i, q_ne_s, q_in_s, q_ix_l, q_ix_t, q_ix_s, q_sl_l, q_sl_s, q_pI_i, q_len_s, q_len_l, q_len_t, q_abs_i, q_max_i, q_int_s, q_all_l, q_any_l, q_st_s, q_zf_s, q_hs_s, q_fit_p, q_add_sp, q_add_lp, q_mkT_p, q_asI_l, q_asI_t, q_asI_s, q_fmt_s, q_jNil_a, q_jCons_k, q_isX_i, q_isX_b, q_isX_s, q_isX_t, q_isX_l, q_slW_l, q_slW_s, q_is_bb, q_isn_bb, q_is_nn, q_isn_nn, q_is_tn, q_isn_tn, q_v0, q_v1, q_v2, q_v3, q_v4, q_v5, q_v6, q_v7, q_v8, q_v9, q_v10, q_v11, q_v12, q_v13, startD, List.map_cons, List.map_nil, List.length_cons, List.length_nil, Nat.sub_self, Nat.reduceAdd, Nat.reduceSub, List.replicate_zero, List.replicate_succ, List.append_nil, List.nil_append, List.cons_append, List.set_cons_zero, List.set_cons_succ, if_true, if_false, Nat.reduceLT, Nat.zero_lt_succ, Bool.not_true, Bool.not_false, Bool.false_eq_true, reduceIte, decide_true, decide_false, Int.reduceLT, Int.reduceEq, Int.reduceNeg, Int.reducePow, Int.reduceSub, Int.reduceAdd, Int.reduceMul,  List.length_set])
variable {a : Ad}
theorem cut_map {α : Type} (f : α → D) (ns : List α) (lo hi : Option Int) : ∃ ms : List α, cutD (ns.map f) lo hi = ms.map f := by
  unfold cutD
  refine ⟨?_, ?_⟩
  rotate_left
  · rw [List.length_map, ← List.map_drop, ← List.map_take]
theorem ao (x : Int) : ∃ w : Bool, L2.atI [D.str (Str.ofString "and"), D.str (Str.ofString "or")] (x % 2) = some (.str (cw w)) := by
  have : x % 2 = 0 ∨ x % 2 = 1 := by omega
  rcases this with h | h
  · exact ⟨true, by rw [h]; rfl⟩
  · exact ⟨false, by rw [h]; rfl⟩
theorem m_law {Fc Fco Fs : List D → R D} (hc : ∀ (ns : List Int) (k : Nat), Fc [.lst (ns.map .int), .int k] = .ok (.int (ns.getD k 0)))
    (hco : ∀ (h : Int) (ns : List Int) (w : Bool), ∃ c : Cn, c.Ok ∧ c.sz ≤ 30 ∧ Fco [.int h, .lst (ns.map .int), .str (cw w)] = .ok (tric c))
    (hs : ∀ c : Cn, c.Ok → c.sz ≤ 30 → Fs [c.d] = .ok (.str (mkS c.tx))) (ns : List Int) : finT (g_law a Fc Fco Fs (startD 3 [.lst (ns.map .int)])) = .ok (.bl true) := by
  have c0 : Fc [.lst (ns.map .int), .int 0] = .ok (.int (ns.getD 0 0)) := hc ns 0
  have c1 : Fc [.lst (ns.map .int), .int 1] = .ok (.int (ns.getD 1 0)) := hc ns 1
  obtain ⟨ms, hm⟩ := cut_map D.int ns (some 2) none
  obtain ⟨w, hw⟩ := ao (ns.getD 1 0)
  obtain ⟨c, cO, cz, e1⟩ := hco (ns.getD 0 0) ms w
  have e2 := hs c cO cz
  obtain ⟨i0, i1⟩ := tix (d := c.d) (x := c.tx) (r := c.rk)
  have l2 : 2 ≤ sizeLine := by decide
  have l3 : 3 ≤ sizeLine := by decide
  have i0' : ixD (tric c) (.int 0) = .ok c.d := i0
  have i1' : ixD (tric c) (.int 1) = .ok (.str (mkS c.tx)) := i1
  generalize tric c = T at *
  generalize ns.getD 0 0 = n0 at *
  generalize ns.getD 1 0 = n1 at *
  unfold g_law
  iterate 9 (walk_at "den"; try simp only [c0, c1, hm, hw, e1, e2, i0', i1', if_pos l2, if_pos l3])
end W32
namespace W32
open PySem L2 P2 WP WC TM T2 PySem.NumText
noncomputable def spLaw (K : PySem.W.Frag) : Sp := fun vs H Q E => ∃ (al : Addr → Prop) (ns : List Int), vs.length = 1 ∧ (∀ a, H a = none → al a) ∧ ns.length ≤ 63 ∧ Reps K al H vs [.lst (ns.map D.int)] ∧ TbOk K H ∧ ∀ H', Same K H H' → Q (.bl true) H'
theorem reps_ints {K : PySem.W.Frag} {al : Addr → Prop} {H : Hp} : ∀ ns : List Int, Reps K al H (ns.map V.int) (ns.map D.int)
  | [] => .nil
  | _ :: ns => .cons (.int _) (reps_ints ns)
theorem spLaw_of {K : PySem.W.Frag} {H : Hp} {a : Addr} {ns : List Int} (hl : ns.length ≤ 63) (tt : TbOk K H) (r : Rep K (fun _ => True) H (.ref a) (.lst (ns.map D.int))) : spLaw K [.ref a] H (fun v _ => v = .bl true) fun _ _ _ => False :=
  ⟨fun _ => True, ns, rfl, fun _ _ => trivial, hl, .cons r .nil, tt, fun _ _ => rfl⟩
noncomputable def isF (K : PySem.W.Frag) (cs : List Addr) (c : Addr) (u : Value) : Option Bool := if c ∈ cs then PySem.W.kitOne K (.ref c) u else none
theorem isF_ok {K : PySem.W.Frag} {cs : List Addr} (h : ∀ c ∈ cs, YCls K c) : IsOk K (isF K cs) := fun c u b e => by
  unfold isF at e
  split at e
  · rename_i z; exact ⟨h c z, e⟩
  · cases e
section
variable (a : Ad)
noncomputable abbrev M_show_fraction : List D → R D := fun ds => finT (g_show_fraction a (startD 3 ds))
noncomputable abbrev M_joined : List D → R D := fun ds => finT (g_joined a (startD 3 ds))
noncomputable abbrev R_show_tight (Fs : List D → R D) : List D → R D := fun ds => finT (g_show_tight a Fs (startD 3 ds))
noncomputable abbrev R_show_term (Fs : List D → R D) : List D → R D := fun ds => finT (g_show_term a (R_show_tight a Fs) Fs (M_joined a) (M_show_fraction a) (startD 4 ds))
noncomputable abbrev M_show_term : List D → R D := fixD (R_show_term a) 32
noncomputable abbrev R_show_bound (Fs : List D → R D) : List D → R D := fun ds => finT (g_show_bound a Fs (startD 3 ds))
noncomputable abbrev R_show_condition (Fs : List D → R D) : List D → R D := fun ds => finT (g_show_condition a (R_show_bound a Fs) Fs (M_joined a) (M_show_term a) (startD 2 ds))
noncomputable abbrev M_show_condition : List D → R D := fixD (R_show_condition a) 32
noncomputable abbrev M_law_cell_at : List D → R D := fun ds => finT (g_law_cell_at a (startD 2 ds))
noncomputable abbrev M_law_lowest : List D → R D := fun ds => finT (g_law_lowest a (startD 5 ds))
noncomputable abbrev M_law_fraction : List D → R D := fun ds => finT (g_law_fraction a (M_law_lowest a) (startD 1 ds))
noncomputable abbrev M_law_mast : List D → R D := fun ds => finT (g_law_mast a (startD 4 ds))
noncomputable abbrev M_law_show : List D → R D := fun ds => finT (g_law_show a (startD 2 ds))
noncomputable abbrev M_law_leaf : List D → R D := fun ds => finT (g_law_leaf a (M_law_fraction a) (M_law_show a) (M_law_mast a) (startD 7 ds))
noncomputable abbrev M_law_put : List D → R D := fun ds => finT (g_law_put a (startD 3 ds))
noncomputable abbrev M_law_sum : List D → R D := fun ds => finT (g_law_sum a (M_law_put a) (startD 4 ds))
noncomputable abbrev M_law_over_term : List D → R D := fun ds => finT (g_law_over_term a (M_law_fraction a) (M_law_show a) (M_law_put a) (startD 3 ds))
noncomputable abbrev M_law_compared : List D → R D := fun ds => finT (g_law_compared a (startD 3 ds))
noncomputable abbrev M_law_joined : List D → R D := fun ds => finT (g_law_joined a (M_law_put a) (startD 5 ds))
noncomputable abbrev M_law_denied : List D → R D := fun ds => finT (g_law_denied a (M_law_put a) (startD 1 ds))
noncomputable abbrev M_law_rest : List D → R D := fun ds => finT (g_law_rest a (startD 3 ds))
noncomputable abbrev M_law_step : List Z → Sto → RX Z := fun zs S => finZ (g_law_step a (M_law_sum a) (M_law_over_term a) (M_law_compared a) (M_law_denied a) (M_law_joined a) (M_law_leaf a) S.length (startZ 7 zs) S)
noncomputable abbrev M_law_ended : List Z → Sto → RX Z := fun zs S => finZ (g_law_ended a (M_law_compared a) (M_law_joined a) S.length (startZ 6 zs) S)
noncomputable abbrev Y_law_condition : List Z → Sto → RX Z := fun zs S => finZ (g_law_condition a (M_law_rest a) (M_law_step a) (M_law_ended a) S.length (startZ 7 zs) S)
noncomputable abbrev M_law_condition : List D → R D := fun ds => clo (Y_law_condition a (ds.map .d) [])
theorem cellM (ns : List Int) (k : Nat) : M_law_cell_at a [.lst (ns.map .int), .int k] = .ok (.int (ns.getD k 0)) := WP.m_cell (a := a) ns k
theorem fracM (c : Int) : ∃ p q, Fq p q ∧ M_law_fraction a [.int c] = .ok (WC.pr p q) := m_fraction (fun t b h1 h2 h3 => m_lowest t b h1 h2 h3) c
theorem lshowM (p q : Int) (h : Fq p q) : M_law_show a [WC.pr p q] = .ok (.str (mkS (showF p q))) := m_show h
theorem putM : PutOk (M_law_put a) := fun d x r n o c h => m_put h
theorem fnsM : Fns (M_law_sum a) (M_law_over_term a) (M_law_compared a) (M_law_denied a) (M_law_joined a) (M_law_leaf a) where
  su := fun x y s h1 h2 => m_lsum (putM a) h1 h2
  ov := fun x c hx h => m_lover (fracM a) (lshowM a) (putM a) hx h c
  co := fun x y s h1 h2 => m_compared h1 h2
  de := fun x h => m_denied (putM a) h
  jo := fun x y s h1 h2 => m_ljoined (putM a) h1 h2
  le := fun h c => m_leaf (fracM a) (lshowM a) (fun c k => m_mast c k) h c
theorem condM (h : Int) (ns : List Int) (w : Bool) : ∃ c : Cn, c.Ok ∧ c.sz ≤ 30 ∧ M_law_condition a [.int h, .lst (ns.map .int), .str (cw w)] = .ok (tric c) :=
  m_lcondition (fun t c => m_rest t c) (fun ts cs p o c h I h1 h2 => m_step (fnsM a) I h1 h2 c h _) (fun ts cs p o w I => m_ended (fnsM a) I w _) h ns w _
theorem shM (c : Cn) (h : c.Ok) (hz : c.sz ≤ 30) : M_show_condition a [c.d] = .ok (.str (mkS c.tx)) :=
  show_C (a := a) (Ft := M_show_term a) (m := 30) (fun t tO tz => show_T t tO (by omega) 32 (Nat.le_trans t.dp_le (by omega))) c h (by omega) (Nat.le_trans c.tm_le hz) 32 (Nat.le_trans c.dp_le (by omega))
end
theorem all_mk {l : PySem.W.OpenLaw} {w : World} {K : PySem.W.Frag} {h : Heap} {mg : Str → Option Value} {fa : Addr} {f1 f2 f3 f4 f5 f6 f7 f8 f9 f10 f11 f12 f13 f14 f15 f16 f17 f18 f19 f20 f21 f22 f23  : Addr} (X : K.In h) (G : h.Ns mainGlobals mg) (hfa : mg "law" = some (.ref fa))
    {od1 an1 od2 an2 od3 an3 od4 an4 od5 an5 od6 an6 od7 an7 od8 an8 od9 an9 od10 an10 od11 an11 od12 an12 od13 an13 od14 an14 od15 an15 od16 an16 od17 an17 od18 an18 od19 an19 od20 an20 od21 an21 od22 an22 od23 an23 : Option Addr} {sl1 sl2 sl3 sl4 sl5 sl6 sl7 sl8 sl9 sl10 sl11 sl12 sl13 sl14 sl15 sl16 sl17 sl18 sl19 sl20 sl21 sl22 sl23 : Array (Option Value)} {oc1 kV1 dc1 pm1 cd1 ct1 oc2 kV2 dc2 pm2 cd2 ct2 oc3 kV3 dc3 pm3 cd3 ct3 oc4 kV4 dc4 pm4 cd4 ct4 oc5 kV5 dc5 pm5 cd5 ct5 oc6 kV6 dc6 pm6 cd6 ct6 oc7 kV7 dc7 pm7 cd7 ct7 oc8 kV8 dc8 pm8 cd8 ct8 oc9 kV9 dc9 pm9 cd9 ct9 oc10 kV10 dc10 pm10 cd10 ct10 oc11 kV11 dc11 pm11 cd11 ct11 oc12 kV12 dc12 pm12 cd12 ct12 oc13 kV13 dc13 pm13 cd13 ct13 oc14 kV14 dc14 pm14 cd14 ct14 oc15 kV15 dc15 pm15 cd15 ct15 oc16 kV16 dc16 pm16 cd16 ct16 oc17 kV17 dc17 pm17 cd17 ct17 oc18 kV18 dc18 pm18 cd18 ct18 oc19 kV19 dc19 pm19 cd19 ct19 oc20 kV20 dc20 pm20 cd20 ct20 oc21 kV21 dc21 pm21 cd21 ct21 oc22 kV22 dc22 pm22 cd22 ct22 oc23 kV23 dc23 pm23 cd23 ct23 : Value}
    (a1 : PySem.W.nsIn K mainGlobals "show_fraction" = some (some (.ref f1)))
    (l1 : K.lookup f1 = some ⟨oc1, od1, .func (PySem.W.fnOf "show_fraction" "show_fraction" (defArgs s_show_fraction) (defBody s_show_fraction) (defScope s_show_fraction) .none kV1 dc1 pm1 an1 cd1 ct1), sl1⟩) (c1 : PySem.W.codeIn K cd1 "show_fraction" = true) (k1 : PySem.W.keepIn K (.ref f1) = true)
    (a2 : PySem.W.nsIn K mainGlobals "joined" = some (some (.ref f2)))
    (l2 : K.lookup f2 = some ⟨oc2, od2, .func (PySem.W.fnOf "joined" "joined" (defArgs s_joined) (defBody s_joined) (defScope s_joined) .none kV2 dc2 pm2 an2 cd2 ct2), sl2⟩) (c2 : PySem.W.codeIn K cd2 "joined" = true) (k2 : PySem.W.keepIn K (.ref f2) = true)
    (a3 : PySem.W.nsIn K mainGlobals "show_tight" = some (some (.ref f3)))
    (l3 : K.lookup f3 = some ⟨oc3, od3, .func (PySem.W.fnOf "show_tight" "show_tight" (defArgs s_show_tight) (defBody s_show_tight) (defScope s_show_tight) .none kV3 dc3 pm3 an3 cd3 ct3), sl3⟩) (c3 : PySem.W.codeIn K cd3 "show_tight" = true) (k3 : PySem.W.keepIn K (.ref f3) = true)
    (a4 : PySem.W.nsIn K mainGlobals "show_term" = some (some (.ref f4)))
    (l4 : K.lookup f4 = some ⟨oc4, od4, .func (PySem.W.fnOf "show_term" "show_term" (defArgs s_show_term) (defBody s_show_term) (defScope s_show_term) .none kV4 dc4 pm4 an4 cd4 ct4), sl4⟩) (c4 : PySem.W.codeIn K cd4 "show_term" = true) (k4 : PySem.W.keepIn K (.ref f4) = true)
    (a5 : PySem.W.nsIn K mainGlobals "show_bound" = some (some (.ref f5)))
    (l5 : K.lookup f5 = some ⟨oc5, od5, .func (PySem.W.fnOf "show_bound" "show_bound" (defArgs s_show_bound) (defBody s_show_bound) (defScope s_show_bound) .none kV5 dc5 pm5 an5 cd5 ct5), sl5⟩) (c5 : PySem.W.codeIn K cd5 "show_bound" = true) (k5 : PySem.W.keepIn K (.ref f5) = true)
    (a6 : PySem.W.nsIn K mainGlobals "show_condition" = some (some (.ref f6)))
    (l6 : K.lookup f6 = some ⟨oc6, od6, .func (PySem.W.fnOf "show_condition" "show_condition" (defArgs s_show_condition) (defBody s_show_condition) (defScope s_show_condition) .none kV6 dc6 pm6 an6 cd6 ct6), sl6⟩) (c6 : PySem.W.codeIn K cd6 "show_condition" = true) (k6 : PySem.W.keepIn K (.ref f6) = true)
    (a7 : PySem.W.nsIn K mainGlobals "_law_cell_at" = some (some (.ref f7)))
    (l7 : K.lookup f7 = some ⟨oc7, od7, .func (PySem.W.fnOf "_law_cell_at" "_law_cell_at" (defArgs s_law_cell_at) (defBody s_law_cell_at) (defScope s_law_cell_at) .none kV7 dc7 pm7 an7 cd7 ct7), sl7⟩) (c7 : PySem.W.codeIn K cd7 "_law_cell_at" = true) (k7 : PySem.W.keepIn K (.ref f7) = true)
    (a8 : PySem.W.nsIn K mainGlobals "_law_lowest" = some (some (.ref f8)))
    (l8 : K.lookup f8 = some ⟨oc8, od8, .func (PySem.W.fnOf "_law_lowest" "_law_lowest" (defArgs s_law_lowest) (defBody s_law_lowest) (defScope s_law_lowest) .none kV8 dc8 pm8 an8 cd8 ct8), sl8⟩) (c8 : PySem.W.codeIn K cd8 "_law_lowest" = true) (k8 : PySem.W.keepIn K (.ref f8) = true)
    (a9 : PySem.W.nsIn K mainGlobals "_law_fraction" = some (some (.ref f9)))
    (l9 : K.lookup f9 = some ⟨oc9, od9, .func (PySem.W.fnOf "_law_fraction" "_law_fraction" (defArgs s_law_fraction) (defBody s_law_fraction) (defScope s_law_fraction) .none kV9 dc9 pm9 an9 cd9 ct9), sl9⟩) (c9 : PySem.W.codeIn K cd9 "_law_fraction" = true) (k9 : PySem.W.keepIn K (.ref f9) = true)
    (a10 : PySem.W.nsIn K mainGlobals "_law_mast" = some (some (.ref f10)))
    (l10 : K.lookup f10 = some ⟨oc10, od10, .func (PySem.W.fnOf "_law_mast" "_law_mast" (defArgs s_law_mast) (defBody s_law_mast) (defScope s_law_mast) .none kV10 dc10 pm10 an10 cd10 ct10), sl10⟩) (c10 : PySem.W.codeIn K cd10 "_law_mast" = true) (k10 : PySem.W.keepIn K (.ref f10) = true)
    (a11 : PySem.W.nsIn K mainGlobals "_law_show" = some (some (.ref f11)))
    (l11 : K.lookup f11 = some ⟨oc11, od11, .func (PySem.W.fnOf "_law_show" "_law_show" (defArgs s_law_show) (defBody s_law_show) (defScope s_law_show) .none kV11 dc11 pm11 an11 cd11 ct11), sl11⟩) (c11 : PySem.W.codeIn K cd11 "_law_show" = true) (k11 : PySem.W.keepIn K (.ref f11) = true)
    (a12 : PySem.W.nsIn K mainGlobals "_law_leaf" = some (some (.ref f12)))
    (l12 : K.lookup f12 = some ⟨oc12, od12, .func (PySem.W.fnOf "_law_leaf" "_law_leaf" (defArgs s_law_leaf) (defBody s_law_leaf) (defScope s_law_leaf) .none kV12 dc12 pm12 an12 cd12 ct12), sl12⟩) (c12 : PySem.W.codeIn K cd12 "_law_leaf" = true) (k12 : PySem.W.keepIn K (.ref f12) = true)
    (a13 : PySem.W.nsIn K mainGlobals "_law_put" = some (some (.ref f13)))
    (l13 : K.lookup f13 = some ⟨oc13, od13, .func (PySem.W.fnOf "_law_put" "_law_put" (defArgs s_law_put) (defBody s_law_put) (defScope s_law_put) .none kV13 dc13 pm13 an13 cd13 ct13), sl13⟩) (c13 : PySem.W.codeIn K cd13 "_law_put" = true) (k13 : PySem.W.keepIn K (.ref f13) = true)
    (a14 : PySem.W.nsIn K mainGlobals "_law_sum" = some (some (.ref f14)))
    (l14 : K.lookup f14 = some ⟨oc14, od14, .func (PySem.W.fnOf "_law_sum" "_law_sum" (defArgs s_law_sum) (defBody s_law_sum) (defScope s_law_sum) .none kV14 dc14 pm14 an14 cd14 ct14), sl14⟩) (c14 : PySem.W.codeIn K cd14 "_law_sum" = true) (k14 : PySem.W.keepIn K (.ref f14) = true)
    (a15 : PySem.W.nsIn K mainGlobals "_law_over_term" = some (some (.ref f15)))
    (l15 : K.lookup f15 = some ⟨oc15, od15, .func (PySem.W.fnOf "_law_over_term" "_law_over_term" (defArgs s_law_over_term) (defBody s_law_over_term) (defScope s_law_over_term) .none kV15 dc15 pm15 an15 cd15 ct15), sl15⟩) (c15 : PySem.W.codeIn K cd15 "_law_over_term" = true) (k15 : PySem.W.keepIn K (.ref f15) = true)
    (a16 : PySem.W.nsIn K mainGlobals "_law_compared" = some (some (.ref f16)))
    (l16 : K.lookup f16 = some ⟨oc16, od16, .func (PySem.W.fnOf "_law_compared" "_law_compared" (defArgs s_law_compared) (defBody s_law_compared) (defScope s_law_compared) .none kV16 dc16 pm16 an16 cd16 ct16), sl16⟩) (c16 : PySem.W.codeIn K cd16 "_law_compared" = true) (k16 : PySem.W.keepIn K (.ref f16) = true)
    (a17 : PySem.W.nsIn K mainGlobals "_law_joined" = some (some (.ref f17)))
    (l17 : K.lookup f17 = some ⟨oc17, od17, .func (PySem.W.fnOf "_law_joined" "_law_joined" (defArgs s_law_joined) (defBody s_law_joined) (defScope s_law_joined) .none kV17 dc17 pm17 an17 cd17 ct17), sl17⟩) (c17 : PySem.W.codeIn K cd17 "_law_joined" = true) (k17 : PySem.W.keepIn K (.ref f17) = true)
    (a18 : PySem.W.nsIn K mainGlobals "_law_denied" = some (some (.ref f18)))
    (l18 : K.lookup f18 = some ⟨oc18, od18, .func (PySem.W.fnOf "_law_denied" "_law_denied" (defArgs s_law_denied) (defBody s_law_denied) (defScope s_law_denied) .none kV18 dc18 pm18 an18 cd18 ct18), sl18⟩) (c18 : PySem.W.codeIn K cd18 "_law_denied" = true) (k18 : PySem.W.keepIn K (.ref f18) = true)
    (a19 : PySem.W.nsIn K mainGlobals "_law_rest" = some (some (.ref f19)))
    (l19 : K.lookup f19 = some ⟨oc19, od19, .func (PySem.W.fnOf "_law_rest" "_law_rest" (defArgs s_law_rest) (defBody s_law_rest) (defScope s_law_rest) .none kV19 dc19 pm19 an19 cd19 ct19), sl19⟩) (c19 : PySem.W.codeIn K cd19 "_law_rest" = true) (k19 : PySem.W.keepIn K (.ref f19) = true)
    (a20 : PySem.W.nsIn K mainGlobals "_law_step" = some (some (.ref f20)))
    (l20 : K.lookup f20 = some ⟨oc20, od20, .func (PySem.W.fnOf "_law_step" "_law_step" (defArgs s_law_step) (defBody s_law_step) (defScope s_law_step) .none kV20 dc20 pm20 an20 cd20 ct20), sl20⟩) (c20 : PySem.W.codeIn K cd20 "_law_step" = true) (k20 : PySem.W.keepIn K (.ref f20) = true)
    (a21 : PySem.W.nsIn K mainGlobals "_law_ended" = some (some (.ref f21)))
    (l21 : K.lookup f21 = some ⟨oc21, od21, .func (PySem.W.fnOf "_law_ended" "_law_ended" (defArgs s_law_ended) (defBody s_law_ended) (defScope s_law_ended) .none kV21 dc21 pm21 an21 cd21 ct21), sl21⟩) (c21 : PySem.W.codeIn K cd21 "_law_ended" = true) (k21 : PySem.W.keepIn K (.ref f21) = true)
    (a22 : PySem.W.nsIn K mainGlobals "_law_condition" = some (some (.ref f22)))
    (l22 : K.lookup f22 = some ⟨oc22, od22, .func (PySem.W.fnOf "_law_condition" "_law_condition" (defArgs s_law_condition) (defBody s_law_condition) (defScope s_law_condition) .none kV22 dc22 pm22 an22 cd22 ct22), sl22⟩) (c22 : PySem.W.codeIn K cd22 "_law_condition" = true) (k22 : PySem.W.keepIn K (.ref f22) = true)
    (a23 : PySem.W.nsIn K mainGlobals "law" = some (some (.ref f23)))
    (l23 : K.lookup f23 = some ⟨oc23, od23, .func (PySem.W.fnOf "law" "law" (defArgs s_law) (defBody s_law) (defScope s_law) .none kV23 dc23 pm23 an23 cd23 ct23), sl23⟩) (c23 : PySem.W.codeIn K cd23 "law" = true) (k23 : PySem.W.keepIn K (.ref f23) = true)
    (z_int : PySem.W.nsIn K mainGlobals "int" = some none) (z_isinstance : PySem.W.nsIn K mainGlobals "isinstance" = some none) (z_len : PySem.W.nsIn K mainGlobals "len" = some none) (z_max : PySem.W.nsIn K mainGlobals "max" = some none) (z_str : PySem.W.nsIn K mainGlobals "str" = some none) :
    ∃ fd : FuncData, (∀ (s : Shared) (v : Value), BindsTo s fd ⟨[v], []⟩ [("_law_script", v)]) ∧ ∀ base : Heap, K.In base → base.Ns mainGlobals mg → BM mg base → FnOk l.prog w K mg base (CXx l.prog w) 130 fa fd ["_law_script"] (spLaw K) := by
  have e := hfa.symm.trans (PySem.W.mg_of X G a23)
  cases e
  have IS : IsOk K (isF K []) := isF_ok fun c hc => by
    simp only [List.mem_cons, List.not_mem_nil, or_false] at hc
  have T : Tx K mg ({isx := isF K []} : Ad) := {b_int := PySem.W.mg_none_of X G z_int, b_isinstance := PySem.W.mg_none_of X G z_isinstance, b_len := PySem.W.mg_none_of X G z_len, b_max := PySem.W.mg_none_of X G z_max, b_str := PySem.W.mg_none_of X G z_str, isok := IS}
  have F1 := fun_mk (st := s_show_fraction) l1 c1 k1
  have b1 := F1.binds (ps := ["one"]) fun _ _ _ _ _ _ us hl => match us, hl with | [_], _ => rfl
  have m1 := PySem.W.mg_of X G a1
  have F2 := fun_mk (st := s_joined) l2 c2 k2
  have b2 := F2.binds (ps := ["left", "sign", "right"]) fun _ _ _ _ _ _ us hl => match us, hl with | [_, _, _], _ => rfl
  have m2 := PySem.W.mg_of X G a2
  have F3 := fun_mk (st := s_show_tight) l3 c3 k3
  have b3 := F3.binds (ps := ["term", "loose"]) fun _ _ _ _ _ _ us hl => match us, hl with | [_, _], _ => rfl
  have m3 := PySem.W.mg_of X G a3
  have F4 := fun_mk (st := s_show_term) l4 c4 k4
  have b4 := F4.binds (ps := ["term"]) fun _ _ _ _ _ _ us hl => match us, hl with | [_], _ => rfl
  have m4 := PySem.W.mg_of X G a4
  have F5 := fun_mk (st := s_show_bound) l5 c5 k5
  have b5 := F5.binds (ps := ["condition", "loose"]) fun _ _ _ _ _ _ us hl => match us, hl with | [_, _], _ => rfl
  have m5 := PySem.W.mg_of X G a5
  have F6 := fun_mk (st := s_show_condition) l6 c6 k6
  have b6 := F6.binds (ps := ["condition"]) fun _ _ _ _ _ _ us hl => match us, hl with | [_], _ => rfl
  have m6 := PySem.W.mg_of X G a6
  have F7 := fun_mk (st := s_law_cell_at) l7 c7 k7
  have b7 := F7.binds (ps := ["_law_script", "_law_k"]) fun _ _ _ _ _ _ us hl => match us, hl with | [_, _], _ => rfl
  have m7 := PySem.W.mg_of X G a7
  have F8 := fun_mk (st := s_law_lowest) l8 c8 k8
  have b8 := F8.binds (ps := ["_law_top", "_law_bottom"]) fun _ _ _ _ _ _ us hl => match us, hl with | [_, _], _ => rfl
  have m8 := PySem.W.mg_of X G a8
  have F9 := fun_mk (st := s_law_fraction) l9 c9 k9
  have b9 := F9.binds (ps := ["_law_cell"]) fun _ _ _ _ _ _ us hl => match us, hl with | [_], _ => rfl
  have m9 := PySem.W.mg_of X G a9
  have F10 := fun_mk (st := s_law_mast) l10 c10 k10
  have b10 := F10.binds (ps := ["_law_cell", "_law_k"]) fun _ _ _ _ _ _ us hl => match us, hl with | [_, _], _ => rfl
  have m10 := PySem.W.mg_of X G a10
  have F11 := fun_mk (st := s_law_show) l11 c11 k11
  have b11 := F11.binds (ps := ["_law_one"]) fun _ _ _ _ _ _ us hl => match us, hl with | [_], _ => rfl
  have m11 := PySem.W.mg_of X G a11
  have F12 := fun_mk (st := s_law_leaf) l12 c12 k12
  have b12 := F12.binds (ps := ["_law_head", "_law_cell"]) fun _ _ _ _ _ _ us hl => match us, hl with | [_, _], _ => rfl
  have m12 := PySem.W.mg_of X G a12
  have F13 := fun_mk (st := s_law_put) l13 c13 k13
  have b13 := F13.binds (ps := ["_law_one", "_law_least", "_law_brackets"]) fun _ _ _ _ _ _ us hl => match us, hl with | [_, _, _], _ => rfl
  have m13 := PySem.W.mg_of X G a13
  have F14 := fun_mk (st := s_law_sum) l14 c14 k14
  have b14 := F14.binds (ps := ["_law_one", "_law_other", "_law_sign"]) fun _ _ _ _ _ _ us hl => match us, hl with | [_, _, _], _ => rfl
  have m14 := PySem.W.mg_of X G a14
  have F15 := fun_mk (st := s_law_over_term) l15 c15 k15
  have b15 := F15.binds (ps := ["_law_one", "_law_cell"]) fun _ _ _ _ _ _ us hl => match us, hl with | [_, _], _ => rfl
  have m15 := PySem.W.mg_of X G a15
  have F16 := fun_mk (st := s_law_compared) l16 c16 k16
  have b16 := F16.binds (ps := ["_law_one", "_law_other", "_law_sign"]) fun _ _ _ _ _ _ us hl => match us, hl with | [_, _, _], _ => rfl
  have m16 := PySem.W.mg_of X G a16
  have F17 := fun_mk (st := s_law_joined) l17 c17 k17
  have b17 := F17.binds (ps := ["_law_one", "_law_other", "_law_word"]) fun _ _ _ _ _ _ us hl => match us, hl with | [_, _, _], _ => rfl
  have m17 := PySem.W.mg_of X G a17
  have F18 := fun_mk (st := s_law_denied) l18 c18 k18
  have b18 := F18.binds (ps := ["_law_one"]) fun _ _ _ _ _ _ us hl => match us, hl with | [_], _ => rfl
  have m18 := PySem.W.mg_of X G a18
  have F19 := fun_mk (st := s_law_rest) l19 c19 k19
  have b19 := F19.binds (ps := ["_law_terms", "_law_conds"]) fun _ _ _ _ _ _ us hl => match us, hl with | [_, _], _ => rfl
  have m19 := PySem.W.mg_of X G a19
  have F20 := fun_mk (st := s_law_step) l20 c20 k20
  have b20 := F20.binds (ps := ["_law_state", "_law_cell", "_law_head"]) fun _ _ _ _ _ _ us hl => match us, hl with | [_, _, _], _ => rfl
  have m20 := PySem.W.mg_of X G a20
  have F21 := fun_mk (st := s_law_ended) l21 c21 k21
  have b21 := F21.binds (ps := ["_law_state", "_law_word"]) fun _ _ _ _ _ _ us hl => match us, hl with | [_, _], _ => rfl
  have m21 := PySem.W.mg_of X G a21
  have F22 := fun_mk (st := s_law_condition) l22 c22 k22
  have b22 := F22.binds (ps := ["_law_head", "_law_cells", "_law_word"]) fun _ _ _ _ _ _ us hl => match us, hl with | [_, _, _], _ => rfl
  have m22 := PySem.W.mg_of X G a22
  have F23 := fun_mk (st := s_law) l23 c23 k23
  refine ⟨PySem.W.fnOf "law" "law" (defArgs s_law) (defBody s_law) (defScope s_law) .none kV23 dc23 pm23 an23 cd23 ct23, fun s v => .of_eq rfl, fun base _ _ bm => ?_⟩
  have o1 := ok_show_fraction (P := l.prog) (w := w) (base := base) T F1
  have H1 : Has _ _ _ _ _ _ _ _ _ _ := ⟨_, _, o1, b1, k1, m1⟩
  have o2 := ok_joined (P := l.prog) (w := w) (base := base) T F2
  have H2 : Has _ _ _ _ _ _ _ _ _ _ := ⟨_, _, o2, b2, k2, m2⟩
  have o4 := rec_D (P := l.prog) (w := w) (K := K) (mg := mg) (base := base) (f := f4) (x := "show_term") (k0 := 1) (st := 2) (F0 := R_show_term {isx := isF K []}) (hn := rfl) (fun o => ⟨_, _, o, b4, k4, m4⟩) (fun Fs k hk Hh => by
    have p3 := ok_show_tight (P := l.prog) (w := w) (base := base) (k := k + 0) T F3 (Has.up Hh (by omega))
    have J3 : Has _ _ _ _ _ _ _ _ _ _ := ⟨_, _, p3, b3, k3, m3⟩
    have p4 := ok_show_term (P := l.prog) (w := w) (base := base) (k := k + 1) T F4 (Has.up J3 (by omega)) (Has.up Hh (by omega)) (Has.up H2 (by omega)) (Has.up H1 (by omega))
    exact p4) 32
  have H4 : Has _ _ _ _ _ _ _ _ _ _ := ⟨_, _, o4, b4, k4, m4⟩
  have o6 := rec_D (P := l.prog) (w := w) (K := K) (mg := mg) (base := base) (f := f6) (x := "show_condition") (k0 := 65) (st := 2) (F0 := R_show_condition {isx := isF K []}) (hn := rfl) (fun o => ⟨_, _, o, b6, k6, m6⟩) (fun Fs k hk Hh => by
    have p5 := ok_show_bound (P := l.prog) (w := w) (base := base) (k := k + 0) T F5 (Has.up Hh (by omega))
    have J5 : Has _ _ _ _ _ _ _ _ _ _ := ⟨_, _, p5, b5, k5, m5⟩
    have p6 := ok_show_condition (P := l.prog) (w := w) (base := base) (k := k + 1) T F6 (Has.up J5 (by omega)) (Has.up Hh (by omega)) (Has.up H2 (by omega)) (Has.up H4 (by omega))
    exact p6) 32
  have H6 : Has _ _ _ _ _ _ _ _ _ _ := ⟨_, _, o6, b6, k6, m6⟩
  have o7 := ok_law_cell_at (P := l.prog) (w := w) (base := base) T F7
  have H7 : Has _ _ _ _ _ _ _ _ _ _ := ⟨_, _, o7, b7, k7, m7⟩
  have o8 := ok_law_lowest (P := l.prog) (w := w) (base := base) T F8
  have H8 : Has _ _ _ _ _ _ _ _ _ _ := ⟨_, _, o8, b8, k8, m8⟩
  have o9 := ok_law_fraction (P := l.prog) (w := w) (base := base) T F9 (Has.up H8 (by decide))
  have H9 : Has _ _ _ _ _ _ _ _ _ _ := ⟨_, _, o9, b9, k9, m9⟩
  have o10 := ok_law_mast (P := l.prog) (w := w) (base := base) T F10
  have H10 : Has _ _ _ _ _ _ _ _ _ _ := ⟨_, _, o10, b10, k10, m10⟩
  have o11 := ok_law_show (P := l.prog) (w := w) (base := base) T F11
  have H11 : Has _ _ _ _ _ _ _ _ _ _ := ⟨_, _, o11, b11, k11, m11⟩
  have o12 := ok_law_leaf (P := l.prog) (w := w) (base := base) T F12 (Has.up H9 (by decide)) (Has.up H11 (by decide)) (Has.up H10 (by decide))
  have H12 : Has _ _ _ _ _ _ _ _ _ _ := ⟨_, _, o12, b12, k12, m12⟩
  have o13 := ok_law_put (P := l.prog) (w := w) (base := base) T F13
  have H13 : Has _ _ _ _ _ _ _ _ _ _ := ⟨_, _, o13, b13, k13, m13⟩
  have o14 := ok_law_sum (P := l.prog) (w := w) (base := base) T F14 (Has.up H13 (by decide))
  have H14 : Has _ _ _ _ _ _ _ _ _ _ := ⟨_, _, o14, b14, k14, m14⟩
  have o15 := ok_law_over_term (P := l.prog) (w := w) (base := base) T F15 (Has.up H9 (by decide)) (Has.up H11 (by decide)) (Has.up H13 (by decide))
  have H15 : Has _ _ _ _ _ _ _ _ _ _ := ⟨_, _, o15, b15, k15, m15⟩
  have o16 := ok_law_compared (P := l.prog) (w := w) (base := base) T F16
  have H16 : Has _ _ _ _ _ _ _ _ _ _ := ⟨_, _, o16, b16, k16, m16⟩
  have o17 := ok_law_joined (P := l.prog) (w := w) (base := base) T F17 (Has.up H13 (by decide))
  have H17 : Has _ _ _ _ _ _ _ _ _ _ := ⟨_, _, o17, b17, k17, m17⟩
  have o18 := ok_law_denied (P := l.prog) (w := w) (base := base) T F18 (Has.up H13 (by decide))
  have H18 : Has _ _ _ _ _ _ _ _ _ _ := ⟨_, _, o18, b18, k18, m18⟩
  have o19 := ok_law_rest (P := l.prog) (w := w) (base := base) T F19
  have H19 : Has _ _ _ _ _ _ _ _ _ _ := ⟨_, _, o19, b19, k19, m19⟩
  have o20 := ok_law_step (P := l.prog) (w := w) (base := base) T F20 (Has.up H14 (by decide)) (Has.up H15 (by decide)) (Has.up H16 (by decide)) (Has.up H18 (by decide)) (Has.up H17 (by decide)) (Has.up H12 (by decide))
  have H20 : Has _ _ _ _ _ _ _ _ _ _ := ⟨_, _, o20, b20, k20, m20⟩
  have o21 := ok_law_ended (P := l.prog) (w := w) (base := base) T F21 (Has.up H16 (by decide)) (Has.up H17 (by decide))
  have H21 : Has _ _ _ _ _ _ _ _ _ _ := ⟨_, _, o21, b21, k21, m21⟩
  have o22 := ok_law_condition (P := l.prog) (w := w) (base := base) T F22 (Has.up H19 (by decide)) (Has.up H20 (by decide)) (Has.up H21 (by decide))
  have o22 := FnOk.close o22
  have H22 : Has _ _ _ _ _ _ _ _ _ _ := ⟨_, _, o22, b22, k22, m22⟩
  have o23 := ok_law (P := l.prog) (w := w) (base := base) T F23 (Has.up H7 (by decide)) (Has.up H22 (by decide)) (Has.up H6 (by decide))
  refine o23.imp fun vs H Q E q => ?_
  obtain ⟨al, ns, hl, fr, hn, rv, tt, q⟩ := q
  refine ⟨hl, tt, al, _, fr, rv, ?_⟩
  have A : Aft K al E H (R.ok (D.bl true)) (fun d H' => ∀ v, Rep K al H' v d → Q v H') := fun H' sm v rv => by cases rv; exact q H' sm
  rw [← m_law (cellM _) (condM _) (shM _) ns] at A
  exact A
theorem walk {l : PySem.W.OpenLaw} {q : Program} {loose : List Str} {XP : (Str → Option Value) → Heap → Prop} {YP : World → Heap → Prop} {d : DefRec} {K : Params → PySem.W.Frag} (hn : l.most = some 63) (hdf : d.params.defaults = [])
    (hY : ∀ (w : World) (h : Heap), YP w h → (K w.params).In h) (hT : ∀ w : World, (tabsOf (K w.params)).all (fun t => ((PyProof.Rows.recsOf q).find? fun e => e.name == t.1).isSome) = true) (hN : ∀ w : World, PySem.W.noTabs (K w.params) = true)
    (F : ∀ (w : World) (mg : Str → Option Value) (fa : Addr) (h : Heap), (K w.params).In h → h.Ns mainGlobals mg → mg d.name = some (.ref fa) →
      ∃ fd : FuncData, (∀ (s : Shared) (u : Value), BindsTo s fd ⟨[u], []⟩ [("_law_script", u)]) ∧ ∀ base : Heap, (K w.params).In base → base.Ns mainGlobals mg → BM mg base → FnOk l.prog w (K w.params) mg base (CXx l.prog w) 130 fa fd ["_law_script"] (spLaw (K w.params))) :
    PySem.W.WalkO q loose XP YP l.row.toRowW d [] (fun f vs => PySem.call f vs) := by
  refine Att.attach_call hn hdf fun w s₀ s₁ mg mb fa o pm cd doc a vs ns G Y ho hd hcd hmg hobj hints hlen hg => ?_
  have KX := hY w _ Y
  obtain ⟨fd, hb, hF⟩ := F w mg fa _ KX G.T.g hmg
  refine law_callT KX G.T.g G.T.b G.T.builtins G.T.nolimit hg hobj hints (Nat.le_trans hlen (by decide)) ⟨rfl, by decide, by decide⟩ (tabs_of G.T KX (hT w)) (hN w) G.T.bmain hF hb (fun H tt hS => spLaw_of hlen tt ?_) fun H e s' h => ?_
  · rcases hS with h | ⟨o, its, n, h1, h2, h3, h4, h5, h6⟩
    · exact .lst (.inl ⟨trivial, h⟩) (reps_ints _)
    · have e := KX a o h1
      rw [hobj] at e
      cases e
      cases h4
      exact .lst (.inr ⟨vs, _, h1, by simpa using h5, by simpa using h6⟩) (reps_ints _)
  · obtain ⟨_, _, _, _, _, _, _, _, _, _, _, _, z⟩ := h
    exact z
end W32
open PySem PySem.W PyProof.Rows
set_option maxRecDepth 100000 in
set_option maxHeartbeats 0 in
theorem PySem.Challenge.cw_weather_k32_conditions_written_holds : PySem.Challenge.rw_weather_k32_conditions_written.Holds := by
  w_on; o_law; k_head; (case hw => w_witness2)
  k_fill
  refine W32.walk (l := PySem.Challenge.rw_weather_k32_conditions_written) rfl rfl (fun w h Y => by first | exact PySem.W.km_in_of Y | exact PySem.W.kIn_of Y) ?hT ?hN ?F
  case hT => exact fun w => by kernel_rfl
  case hN => exact fun w => by kernel_rfl
  case F =>
    intro w mg fa h KX G hmg
    refine' W32.all_mk KX G hmg ?a1 ?l1 ?c1 ?k1 ?a2 ?l2 ?c2 ?k2 ?a3 ?l3 ?c3 ?k3 ?a4 ?l4 ?c4 ?k4 ?a5 ?l5 ?c5 ?k5 ?a6 ?l6 ?c6 ?k6 ?a7 ?l7 ?c7 ?k7 ?a8 ?l8 ?c8 ?k8 ?a9 ?l9 ?c9 ?k9 ?a10 ?l10 ?c10 ?k10 ?a11 ?l11 ?c11 ?k11 ?a12 ?l12 ?c12 ?k12 ?a13 ?l13 ?c13 ?k13 ?a14 ?l14 ?c14 ?k14 ?a15 ?l15 ?c15 ?k15 ?a16 ?l16 ?c16 ?k16 ?a17 ?l17 ?c17 ?k17 ?a18 ?l18 ?c18 ?k18 ?a19 ?l19 ?c19 ?k19 ?a20 ?l20 ?c20 ?k20 ?a21 ?l21 ?c21 ?k21 ?a22 ?l22 ?c22 ?k22 ?a23 ?l23 ?c23 ?k23 ?z_int ?z_isinstance ?z_len ?z_max ?z_str
    (case a1 => k_is); (case l1 => k_is); (case c1 => k_is); (case k1 => k_is)
    (case a2 => k_is); (case l2 => k_is); (case c2 => k_is); (case k2 => k_is)
    (case a3 => k_is); (case l3 => k_is); (case c3 => k_is); (case k3 => k_is)
    (case a4 => k_is); (case l4 => k_is); (case c4 => k_is); (case k4 => k_is)
    (case a5 => k_is); (case l5 => k_is); (case c5 => k_is); (case k5 => k_is)
    (case a6 => k_is); (case l6 => k_is); (case c6 => k_is); (case k6 => k_is)
    (case a7 => k_is); (case l7 => k_is); (case c7 => k_is); (case k7 => k_is)
    (case a8 => k_is); (case l8 => k_is); (case c8 => k_is); (case k8 => k_is)
    (case a9 => k_is); (case l9 => k_is); (case c9 => k_is); (case k9 => k_is)
    (case a10 => k_is); (case l10 => k_is); (case c10 => k_is); (case k10 => k_is)
    (case a11 => k_is); (case l11 => k_is); (case c11 => k_is); (case k11 => k_is)
    (case a12 => k_is); (case l12 => k_is); (case c12 => k_is); (case k12 => k_is)
    (case a13 => k_is); (case l13 => k_is); (case c13 => k_is); (case k13 => k_is)
    (case a14 => k_is); (case l14 => k_is); (case c14 => k_is); (case k14 => k_is)
    (case a15 => k_is); (case l15 => k_is); (case c15 => k_is); (case k15 => k_is)
    (case a16 => k_is); (case l16 => k_is); (case c16 => k_is); (case k16 => k_is)
    (case a17 => k_is); (case l17 => k_is); (case c17 => k_is); (case k17 => k_is)
    (case a18 => k_is); (case l18 => k_is); (case c18 => k_is); (case k18 => k_is)
    (case a19 => k_is); (case l19 => k_is); (case c19 => k_is); (case k19 => k_is)
    (case a20 => k_is); (case l20 => k_is); (case c20 => k_is); (case k20 => k_is)
    (case a21 => k_is); (case l21 => k_is); (case c21 => k_is); (case k21 => k_is)
    (case a22 => k_is); (case l22 => k_is); (case c22 => k_is); (case k22 => k_is)
    (case a23 => k_is); (case l23 => k_is); (case c23 => k_is); (case k23 => k_is)
    (case z_int => k_is); (case z_isinstance => k_is); (case z_len => k_is); (case z_max => k_is); (case z_str => k_is)
#print axioms PySem.Challenge.cw_weather_k32_conditions_written_holds
